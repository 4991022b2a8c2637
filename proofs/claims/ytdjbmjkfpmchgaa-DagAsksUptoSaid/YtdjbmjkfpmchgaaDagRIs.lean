/-
  The reference's Is.
-/
import Derived.Test.YtdjbmjkfpmchgaaDagRAnc
namespace Go.Proofs.Ytdjbmjkfpmchgaa
open Go.RowKit Go.Maps

set_option maxRecDepth 100000 in
set_option maxHeartbeats 4000000 in
theorem ris_any (h n cap : Nat) (ad : Option Addr) (ns : List Nd) (a b : ByteArray) (w : World) (hg : RG w h ad n cap ns) (G : Good ns) (hP : ∀ x, (psOf ns x).length ≤ 1048576) :
    Calls Try.prog 20 #[gp h, .string a, .string b] w fun e w' => e = .returned (.bool (ancB ns a b)) ∧ Below w.heap.size w w' := by
  have GR := Lib.hid hg; have GD := Lib.hid G; have HP := Lib.hid hP
  clear hg G hP
  go_enter Try.func20, Try.ntmps20
  go_wp2_with fail
  refine (ghas_any h n cap ad ns a _ GR.out).mono ?_; rintro e w1 ⟨rfl, rfl⟩
  by_cases hin : a ∈ keysOf ns
  · rw [decide_eq_true hin]
    clear hin
    go_wp2_with fail
    refine (ranc_any h n cap ad ns b _ GR.out GD.out HP.out).mono ?_; rintro e w2 ⟨l, hl, a2, c2, rfl, o2, b2⟩
    have R2 := Lib.hid (readsA_of_owns (f := Value.string) ByteArray.empty o2)
    have HL := Lib.hid hl; have B2 := Lib.hid b2
    clear hl o2 b2
    go_wp2_with fail
    refine (rhas_any _ _ _ l a _ R2.out).mono ?_; rintro e w3 ⟨rfl, rfl⟩
    go_wp2_with fail
    go_ret
    exact ⟨by rw [← ancB_anc HL.out]; rfl, B2.out⟩
  · rw [decide_eq_false hin]
    have HIN := Lib.hid hin
    clear hin
    go_wp2_with fail
    go_ret
    refine ⟨?_, Below.refl _ _⟩
    have : ancB ns a b = false := by
      rw [← Bool.not_eq_true, ancB_iff]
      rintro ⟨hb, hr⟩
      exact HIN.out (hr.there GD.out hb)
    rw [this]; rfl
end Go.Proofs.Ytdjbmjkfpmchgaa
