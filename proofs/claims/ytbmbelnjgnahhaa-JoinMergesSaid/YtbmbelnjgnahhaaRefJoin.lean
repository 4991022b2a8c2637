/-
  The reference's join: CopyTexts, Clean, Differ.
-/
import Derived.Test.YtbmbelnjgnahhaaJoinCsP
import Derived.Test.YtbmbelnjgnahhaaFast
namespace Go.Proofs.Ytbmbelnjgnahhaa
open Go.RowKit

set_option maxRecDepth 100000 in
theorem copyTexts_any (a : Option Addr) (n cap : Nat) (ks : List ByteArray) (w : World) (hr : Strs w a n cap ks) (hn : n ≤ 100000) :
    Calls Try.prog 10 #[.slice a n cap] w (RetStrs w ks) := by
  obtain ⟨i0, hi, hz0, hz1, hz2⟩ := info_parts infoStr
  have Hi := Lib.hid hi; have Hz0 := Lib.hid hz0; have Hz1 := Lib.hid hz1; have Hz2 := Lib.hid hz2
  have Hl := Lib.hid hr.len
  clear hi hz0 hz1 hz2
  go_enter Try.func10, Try.ntmps10
  go_wp2_with (at_builtin; refine wpList_append_readsA (f := Value.string) (d := ByteArray.empty) _ str_one rfl _ _ 24 rfl w.heap.size 9 i0 (.string ByteArray.empty) 16 Try.underlying24 Hi.out Hz0.out Hz1.out Hz2.out rfl (some ⟨w.heap.size, 0, none⟩) 0 0 [] rfl (World.ownsRow_made w _ 0 (Nat.le_refl _) (Nat.zero_le _) rfl) a n cap ks rfl (hr.below ((Below.refl _ _).alloc (Nat.le_refl _) _)) (by unfold maxLen; omega) (by omega) (by simp) ?_)
  intro a' cap' w' hown hgrow
  have hb : Below w.heap.size w w' := below_grown ((Below.refl _ _).alloc (Nat.le_refl _) _) (World.ownsRow_made w _ 0 (Nat.le_refl _) (Nat.zero_le _) rfl) hgrow (Nat.le_refl _) (by simp)
  clear hgrow
  go_wp2
  go_ret
  unfold RetStrs
  rw [Hl.out]
  exact ⟨a', cap', by simp, by simpa using hown, hb⟩

set_option maxRecDepth 100000 in
theorem rclean_any (a : Option Addr) (n cap : Nat) (ms : List Bool) (w : World) (hr : Bls w a n cap ms) :
    Calls Try.prog 21 #[.slice a n cap] w fun e w' => e = .returned (.bool (cleanB ms)) ∧ w' = w := by
  have HR := Lib.hid hr; have HL := Lib.hid hr.len
  have h63 := hr.n63.1
  clear hr
  go_enter Try.func21, Try.ntmps21
  go_wp2_with fail
  go_loop [3] (fun vi => ∃ i : Nat, i ≤ n ∧ vi = .int .i64 i ∧ Hid (∀ j, j < i → ms.getD j false = false)) (fun vi => n - (intOf vi).toNat)
  case atStart => exact ⟨0, Nat.zero_le _, rfl, Lib.hid fun j h => absurd h (by omega)⟩
  case round =>
    obtain ⟨i, hi, rfl, HJ⟩ := hrel
    by_cases hlt : i < n
    · have i1 : (i : Int) < n := by omega
      have i2 : (0 : Int) ≤ i := by omega
      obtain ⟨b, off, rfl, hbl, hc⟩ := HR.out.cellAt i hlt
      have HMM : Hid (ms.getD i false = true → cleanB ms = false) := Lib.hid fun h => by
        rw [Bool.eq_false_iff]
        intro hcl
        refine (cleanB_iff _).1 hcl ?_
        rw [← h]
        have : i < ms.length := by rw [HL.out]; exact hlt
        simp [List.getD, this]
      have HJS : Hid (ms.getD i false = false → ∀ j, j < i + 1 → ms.getD j false = false) := Lib.hid fun h j hj => by
        by_cases e : j = i
        · rw [e]; exact h
        · exact HJ.out j (by omega)
      generalize ms.getD i false = m at *
      cases m with
      | false =>
        go_wp2_with fail
        go_round
        case rel => exact ⟨i + 1, by omega, by go_num, Lib.hid (HJS.out rfl)⟩
        case measure => simp [intOf]; omega
      | true =>
        have HF := Lib.hid (HMM.out rfl)
        go_wp2_with fail
        go_ret
        exact ⟨by rw [HF.out]; rfl, rfl⟩
    · have i1 : ¬ (i : Int) < n := by omega
      have HF : Hid (cleanB ms = true) := Lib.hid (clean_of fun j hj => HJ.out j (by have := HL.out; omega))
      go_wp2_with fail
      go_ret
      exact ⟨by rw [HF.out]; rfl, rfl⟩

theorem rmayV {w : World} {o : TV} (ho : TOk w o) : Calls Try.prog 22 #[o.val] w fun e w' => e = .returned (.bool o.may) ∧ Below w.heap.size w w' :=
  rtreeMay_any o.W o.H o.C o.D o.a o.n o.cap o.ks w ho.iH ho.strs ho.short

set_option maxRecDepth 100000 in
set_option maxHeartbeats 1000000 in
theorem rdiffer_form (o a : TV) (w : World) (ho : TOk w o) (ha : TOk w a) (hm : (o.may && a.may) = false) :
    Calls Try.prog 17 #[o.val, a.val] w fun e w' => e = .returned (.tuple #[.slice Option.none 0 0, .int .i64 4]) ∧ Below w.heap.size w w' := by
  obtain ⟨w1, hw1, x1, x2, b1⟩ := two_boxes w o a 30
  have X1 := Lib.hid x1; have X2 := Lib.hid x2; have B1 := Lib.hid b1; have HW := Lib.hid hw1
  have KO := Lib.hid (ho.below b1); have KA := Lib.hid (ha.below b1)
  have M1 := Lib.hid (fun w' (h : TOk w' o) => rmayV h)
  have M2 := Lib.hid (fun w' (h : TOk w' a) => rmayV h)
  clear hw1 x1 x2 b1 ho ha
  go_enter Try.func17, Try.ntmps17
  go_upto_region 1 with (fail)
  rw [HW.out]
  have c0 := X1.out.box.c0; have c1 := X1.out.box.c1; have c2 := X1.out.box.c2; have c3 := X1.out.box.c3; have c4 := X1.out.c4
  have d0 := X2.out.box.c0; have d1 := X2.out.box.c1; have d2 := X2.out.box.c2; have d3 := X2.out.box.c3; have d4 := X2.out.c4
  go_wp2_with fail
  refine (M1.out _ KO.out).mono ?_; rintro e w2 ⟨rfl, b2⟩
  clear c0 c1 c2 c3 c4 d0 d1 d2 d3 d4
  replace X1 := Lib.hid (X1.out.below b2); replace X2 := Lib.hid (X2.out.below b2); replace B1 := Lib.hid (below_size B1.out b2); replace KA := Lib.hid (KA.out.below b2)
  clear b2 M1
  generalize o.may = mo at *
  cases mo with
  | false =>
    clear hm
    go_wp2_with fail
    go_returns
    exact ⟨rfl, B1.out⟩
  | true =>
    have ham : a.may = false := by simpa using hm
    have HAM := Lib.hid ham
    clear hm ham
    have d0 := X2.out.box.c0; have d1 := X2.out.box.c1; have d2 := X2.out.box.c2; have d3 := X2.out.box.c3; have d4 := X2.out.c4
    go_wp2_with fail
    refine (M2.out _ KA.out).mono ?_; rintro e w3 ⟨rfl, b2⟩
    rw [HAM.out]
    clear d0 d1 d2 d3 d4
    go_wp2_with fail
    go_returns
    exact ⟨rfl, below_size B1.out b2⟩
end Go.Proofs.Ytbmbelnjgnahhaa
