/-
  aquref17.Tree.May.
-/
import Derived.Test.YtbmbelnjgnahhaaTreeA
import Derived.Test.YtbmbelnjgnahhaaShapeRef
import Derived.BigQuiet
namespace Go.Proofs.Ytbmbelnjgnahhaa
open Go.RowKit

set_option maxRecDepth 100000 in
set_option maxHeartbeats 1000000 in
theorem rkeysValid_any (a : Option Addr) (n cap : Nat) (ks : List ByteArray) (w : World) (hr : Strs w a n cap ks) (hs : Short ks) :
    Calls Try.prog 29 #[.slice a n cap] w fun e w' => e = .returned (.bool (keysB ks)) ∧ Below w.heap.size w w' := by
  have HR := Lib.hid hr; have HS := Lib.hid hs; have HL := Lib.hid hr.len
  have hn : n ≤ 300 := by have := hs.1; have := hr.len; omega
  clear hr hs
  go_enter Try.func29, Try.ntmps29
  go_wp2_with fail
  go_loopw [3] (fun vi wr => ∃ i : Nat, i ≤ n ∧ vi = .int .i64 i ∧ Hid (keysB (ks.take i) = true) ∧ Hid (Below w.heap.size w wr)) (fun vi _ => n - (intOf vi).toNat)
  case atStart => exact ⟨0, Nat.zero_le _, rfl, Lib.hid rfl, Lib.hid (Below.refl _ _)⟩
  case round =>
    obtain ⟨i, hi, rfl, HK, B⟩ := hrel
    by_cases hlt : i < n
    · have i1 : (i : Int) < n := by omega
      have i2 : (0 : Int) ≤ i := by omega
      obtain ⟨b, off, rfl, hbl, hc⟩ := (HR.out.below B.out).cellAt i hlt
      have hsz : (ks.getD i ByteArray.empty).size ≤ 1000000 := by
        have := HS.out.2 (ks.getD i ByteArray.empty) (by simp [List.getD, HL.out, hlt]); omega
      have hsn := take_getDA ByteArray.empty ks i (by rw [HL.out]; exact hlt)
      have HSN := Lib.hid hsn
      have HKD : Hid (∀ v, validB (ks.getD i ByteArray.empty) = v → keysB (ks.take (i + 1)) = v) := Lib.hid fun v hv => by rw [hsn, keysB_snoc, HK.out, hv]; rfl
      have HALL : Hid (validB (ks.getD i ByteArray.empty) = false → keysB ks = false) := Lib.hid fun hv => by
        have : ks.getD i ByteArray.empty ∈ ks := by simp [List.getD, HL.out, hlt]
        rw [keysB, List.all_eq_false]
        exact ⟨_, this, by rw [hv]; decide⟩
      clear hsn
      generalize ks.getD i ByteArray.empty = s at *
      cases hv : validB s
      · have HV := Lib.hid hv
        have HC := Lib.hid (fun (w' : World) => by have := rvalid_any s w' hsz; rw [hv] at this; exact this)
        clear hv
        go_wp2_with fail
        refine (HC.out _).mono ?_; rintro e w2 ⟨rfl, b2⟩
        go_wp2_with fail
        go_ret
        exact ⟨by rw [HALL.out HV.out]; rfl, below_size B.out b2⟩
      · have HV := Lib.hid hv
        have HC := Lib.hid (fun (w' : World) => by have := rvalid_any s w' hsz; rw [hv] at this; exact this)
        clear hv
        go_wp2_with fail
        refine (HC.out _).mono ?_; rintro e w2 ⟨rfl, b2⟩
        go_wp2_with fail
        go_roundw
        case rel => exact ⟨i + 1, by omega, by go_num, Lib.hid (HKD.out _ HV.out), Lib.hid (below_size B.out b2)⟩
        case measure => simp [intOf]; omega
    · have i1 : ¬ (i : Int) < n := by omega
      go_wp2_with fail
      go_ret
      have h1 := HK.out
      rw [List.take_of_length_le (by rw [HL.out]; omega)] at h1
      exact ⟨by rw [h1]; rfl, B.out⟩

set_option maxRecDepth 100000 in
set_option maxHeartbeats 1000000 in
theorem rtreeMay_any (W H C D : Int) (a : Option Addr) (n cap : Nat) (ks : List ByteArray) (w : World) (hH : i64In H) (hr : Strs w a n cap ks) (hs : Short ks) :
    Calls Try.prog 22 #[ras W H C D a n cap] w fun e w' => e = .returned (.bool (mayT W H C D ks)) ∧ Below w.heap.size w w' := by
  have HR := Lib.hid hr; have HS := Lib.hid hs; have HL := Lib.hid hr.len
  obtain ⟨w1, hw1, x1, b1⟩ : ∃ w2, w.alloc (.cells #[.int .i64 W, .int .i64 H, .int .i64 C, .int .i64 D, .slice a n cap] 30) = w2 ∧ RBox w2 w.heap.size W H C D a n cap ∧ Below w.heap.size w w2 :=
    ⟨_, rfl, rbox_alloc w W H C D a n cap _, (Below.refl _ _).alloc (Nat.le_refl _) _⟩
  have HW := Lib.hid hw1; have X1 := Lib.hid x1; have B1 := Lib.hid b1
  clear hw1 x1 b1 hr hs
  cases hm : mayN W H C D with
  | false =>
    have HG := Lib.hid (fun w' => rgrid_not W H C D w' hH hm)
    have HF := Lib.hid (show mayT W H C D ks = false by simp [mayT, hm])
    go_enter Try.func22, Try.ntmps22
    go_upto_region 1 with (fail)
    rw [HW.out]
    have c0 := X1.out.box.c0; have c1 := X1.out.box.c1; have c2 := X1.out.box.c2; have c3 := X1.out.box.c3; have c4 := X1.out.c4
    go_wp2_with fail
    refine (HG.out _).mono ?_; rintro e w2 ⟨rfl, b2⟩
    clear c0 c1 c2 c3 c4
    go_wp2_with fail
    go_ret
    exact ⟨by rw [HF.out]; rfl, below_size B1.out b2⟩
  | true =>
    have hg := grid_bd' hm
    have h63 := HR.out.n63.1
    have HM := Lib.hid hm
    have HT : Hid (mayT W H C D ks = ((((ks.length : Nat) : Int) == (W + 7) / 8 * ((H + 7) / 8)) && keysB ks)) := Lib.hid (by simp [mayT, hm])
    rw [HL.out] at HT
    clear hm
    obtain ⟨x, hx⟩ : ∃ x, (W + 7) / 8 = x := ⟨_, rfl⟩
    obtain ⟨y, hy⟩ : ∃ y, (H + 7) / 8 = y := ⟨_, rfl⟩
    have HG := Lib.hid (fun (w' : World) => by have := rgrid_may W H C D w' HM.out; rw [hx, hy] at this; exact this)
    rw [hx, hy] at hg HT
    clear hx hy
    obtain ⟨z, hz⟩ : ∃ z, x * y = z := ⟨_, rfl⟩
    rw [hz] at hg HT
    have hzw : IntKind.i64.wrap (x * y) = z := by rw [hz, IntKind.wrap_i64]; omega
    have hx1 : 0 < x := by omega
    have HV := Lib.hid (fun w' (h : Strs w' a n cap ks) => rkeysValid_any a n cap ks w' h HS.out)
    go_enter Try.func22, Try.ntmps22
    go_upto_region 1 with (fail)
    rw [HW.out]
    have c0 := X1.out.box.c0; have c1 := X1.out.box.c1; have c2 := X1.out.box.c2; have c3 := X1.out.box.c3; have c4 := X1.out.c4
    go_wp2_with fail
    refine (HG.out _).mono ?_; rintro e w2 ⟨rfl, b2⟩
    clear c0 c1 c2 c3 c4
    have X2 := Lib.hid (X1.out.below b2); have B2 := Lib.hid (below_size B1.out b2)
    have R2 := Lib.hid (HR.out.below B2.out)
    clear b2 X1 B1 HG HW HR HM hH
    have c0 := X2.out.box.c0; have c1 := X2.out.box.c1; have c2 := X2.out.box.c2; have c3 := X2.out.box.c3; have c4 := X2.out.c4
    by_cases hnz : (n : Int) = z
    · have e1 : ((n : Int) == z) = true := by rw [hnz]; simp
      rw [e1] at HT
      have HN := Lib.hid hnz
      subst hnz
      go_wp2_with fail
      refine (HV.out _ R2.out).mono ?_; rintro e w3 ⟨rfl, b3⟩
      go_wp2_with fail
      go_ret
      exact ⟨by rw [HT.out]; simp, below_size B2.out b3⟩
    · have e1 : ((n : Int) == z) = false := beq_eq_false_iff_ne.2 hnz
      rw [e1] at HT
      go_wp2_with fail
      go_ret
      exact ⟨by rw [HT.out]; simp, B2.out⟩
end Go.Proofs.Ytbmbelnjgnahhaa
