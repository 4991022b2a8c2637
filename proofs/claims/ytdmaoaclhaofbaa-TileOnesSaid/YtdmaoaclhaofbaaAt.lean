/-
  pix.At.
-/
import Derived.Test.YtdmaoaclhaofbaaPlace
import Derived.Test.YtdmaoaclhaofbaaReadBig
namespace Go.Proofs.Ytdmaoaclhaofbaa
open Go.RowKit

/-- What pix.At answers: the number, the error. -/
def atErr (W H C D : Int) (n : Nat) (x y c : Int) : Int := if mayR W H C D n = true then (if InR W H C x y c then 0 else 1) else 4
def atNum (W H C D : Int) (xs : List Int) (x y c : Int) : Int := rbig ((xs.drop (plAt W H C D x y c).toNat).take (D / 8).toNat)

set_option maxHeartbeats 1000000 in
theorem at_not (W H C D : Int) (a : Option Addr) (n cap : Nat) (x y c : Int) (w : World) (hH : -9223372036854775808 ≤ H ∧ H ≤ 9223372036854775807) (he : atErr W H C D n x y c ≠ 0) :
    Calls Try.prog 23 #[ras W H C D a n cap, .int .i64 x, .int .i64 y, .int .i64 c] w fun e w' => e = .returned (.tuple #[.int .i64 0, .int .i64 (atErr W H C D n x y c)]) ∧ Below w.heap.size w w' := by
  unfold atErr at *
  cases hm : mayR W H C D n
  · rw [hm] at he
    simp only [Bool.false_eq_true, if_false]
    go_enter Try.func23, Try.ntmps23
    go_wp2_with fail
    refine (place_not W H C D a n cap x y c _ hH hm).mono ?_; rintro e w1 ⟨rfl, hb1⟩
    have hb1' := below_size ((Below.refl _ _).alloc (Nat.le_refl _) _) hb1
    go_wp2
    all_goals go_returns
    all_goals exact ⟨rfl, hb1'⟩
  · by_cases hi : InR W H C x y c
    · exfalso; apply he; rw [hm, if_pos rfl, if_pos hi]
    · rw [if_pos rfl, if_neg hi]
      go_enter Try.func23, Try.ntmps23
      go_wp2_with fail
      refine (place_out W H C D a n cap x y c _ hm hi).mono ?_; rintro e w1 ⟨rfl, hb1⟩
      have hb1' := below_size ((Below.refl _ _).alloc (Nat.le_refl _) _) hb1
      go_wp2
      all_goals go_returns
      all_goals exact ⟨rfl, hb1'⟩

set_option maxHeartbeats 1000000 in
theorem at_yes (W H C D : Int) (a : Option Addr) (n cap : Nat) (xs : List Int) (x y c : Int) (w : World) (hr : Reads .u8 w a n cap xs) (hx : isB xs) (hm : mayR W H C D n = true) (hi : InR W H C x y c) :
    Calls Try.prog 23 #[ras W H C D a n cap, .int .i64 x, .int .i64 y, .int .i64 c] w fun e w' => e = .returned (.tuple #[.int .i64 (atNum W H C D xs x y c), .int .i64 0]) ∧ Below w.heap.size w w' := by
  have hb := (mayR_spec hm).1
  have hs := (mayR_spec hm).2
  have hq := plAt_in hb hi
  have hD := hb.2.2.2.2.2.2
  have HA : Hid (atNum W H C D xs x y c = rbig ((xs.drop (plAt W H C D x y c).toNat).take (D / 8).toNat)) := rfl
  have hP := fun w0 => place_yes W H C D a n cap x y c w0 hm hi
  generalize atNum W H C D xs x y c = an at *
  generalize plAt W H C D x y c = pl at *
  obtain ⟨p, rfl⟩ : ∃ p : Nat, pl = p := ⟨pl.toNat, by omega⟩
  obtain ⟨m, hmm, hm1⟩ : ∃ m : Nat, D / 8 = m ∧ 1 ≤ m ∧ m ≤ 2 := ⟨(D / 8).toNat, by omega, by omega⟩
  have he : rdErr n p m = 0 := by
    unfold rdErr
    rw [if_neg (by omega), if_neg (by omega)]
  have HE := Lib.hid he
  have HM := Lib.hid hmm
  have HP := Lib.hid hP
  have hD1 : 8 ≤ D ∧ D ≤ 16 := by omega
  clear he hP hs hq hb hm hi hD
  go_enter Try.func23, Try.ntmps23
  go_wp2_with fail
  refine (HP.out _).mono ?_; rintro e w1 ⟨rfl, hb1⟩
  have hb1' := below_size ((Below.refl _ _).alloc (Nat.le_refl _) _) hb1
  have hbx := (rbox_alloc w W H C D a n cap _).below hb1
  have c0 := hbx.box.c0; have c1 := hbx.box.c1; have c2 := hbx.box.c2; have c3 := hbx.box.c3; have c4 := hbx.c4
  clear hb1
  go_wp2_with fail
  rw [hmm]
  refine (readBig_yes a n cap xs p m _ (hr.below hb1') hx HE.out).mono ?_; rintro e w2 ⟨rfl, rfl⟩
  go_wp2
  go_returns
  exact ⟨by rw [HA.out, HM.out]; rfl, hb1'⟩
end Go.Proofs.Ytdmaoaclhaofbaa
