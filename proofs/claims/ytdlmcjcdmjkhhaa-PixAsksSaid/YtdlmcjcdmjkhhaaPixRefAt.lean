/-
  The document's At and Set of chapter 9.
-/
import Derived.Test.YtdlmcjcdmjkhhaaPixRef
import Derived.Test.YtdlmcjcdmjkhhaaPixCopy
import Derived.Test.YtdlmcjcdmjkhhaaPixWalkRows
import Derived.Test.YtdlmcjcdmjkhhaaPixWalkSets
namespace Go.Proofs.Ytdlmcjcdmjkhhaa
open Go.RowKit

set_option maxRecDepth 100000 in
set_option maxHeartbeats 1000000 in
theorem rat_any (W H C D : Int) (a : Option Addr) (n cap : Nat) (xs : List Int) (x y c : Int) (w : World) (hr : Reads .u8 w a n cap xs) (hx : isB xs) (hH : -9223372036854775808 ≤ H ∧ H ≤ 9223372036854775807) :
    Calls Try.prog 12 #[ras W H C D a n cap, .int .i64 x, .int .i64 y, .int .i64 c] w fun e w' => e = .returned (.tuple #[.int .i64 (atVal W H C D n xs x y c), .int .i64 (atErr W H C D n x y c)]) ∧ Below w.heap.size w w' := by
  have hP := fun w' => rplace_any W H C D a n cap x y c w' hH
  have hbl : Below w.heap.size w (w.alloc (.cells #[.int .i64 W, .int .i64 H, .int .i64 C, .int .i64 D, .slice a n cap] 26)) := (Below.refl _ _).alloc (Nat.le_refl _) _
  have BX := Lib.hid (rbox_alloc w W H C D a n cap 26)
  have B := Lib.hid hbl; have R := Lib.hid (hr.below hbl)
  have hEE : plE W H C D n x y c = atErr W H C D n x y c := rfl
  rw [hEE] at hP
  by_cases h0 : atErr W H C D n x y c = 0
  · obtain ⟨hm, hi⟩ := atErr_zero.1 h0
    have hb := (mayR_spec hm).1
    have hs := (mayR_spec hm).2
    have hq := plAt_in hb hi
    have hD := hb.2.2.2.2.2.2
    have hV : atVal W H C D n xs x y c = rbig ((xs.drop (plAt W H C D x y c).toNat).take (D / 8).toNat) := by rw [atVal, if_pos h0, atNum]
    have hpv : plV W H C D n x y c = plAt W H C D x y c := by rw [plV, if_pos ⟨hm, hi⟩]
    rw [h0, hpv] at hP
    rw [hV, h0]
    generalize plAt W H C D x y c = pl at *
    obtain ⟨p, rfl⟩ : ∃ p : Nat, pl = p := ⟨pl.toNat, by omega⟩
    have hl := hr.len
    have hn : n ≤ 16384 := by omega
    clear h0 hm hi hb hV hpv hEE hbl
    rcases hD with rfl | rfl
    · have hp : p < n := by omega
      have x1 := hx.get p (by omega)
      have hv : rbig ((xs.drop (p : Int).toNat).take ((8 : Int) / 8).toNat) = xs.getD p 0 := by
        rw [show ((p : Int)).toNat = p from by omega, show ((8 : Int) / 8).toNat = 1 from by decide]
        exact rbig_one xs p (by omega)
      rw [hv]
      generalize hz : xs.getD p 0 = z at *
      have Hz := Lib.hid hz
      have HP := Lib.hid hP
      clear hv hP hs hq hr hz
      go_enter Try.func12, Try.ntmps12
      go_wp2_with fail
      generalize w.alloc (.cells #[.int .i64 W, .int .i64 H, .int .i64 C, .int .i64 8, .slice a n cap] 26) = v at *
      refine (HP.out _).mono ?_; rintro e w1 ⟨rfl, bb⟩
      replace B := Lib.hid (below_size B.out bb)
      replace BX := Lib.hid (BX.out.below bb)
      replace R := Lib.hid (R.out.below bb)
      obtain ⟨b1, o1, rfl, t1⟩ := R.out.cellAt p hp
      clear bb hl
      rw [Hz.out] at t1
      have c0 := BX.out.box.c0; have c1 := BX.out.box.c1; have c2 := BX.out.box.c2; have c3 := BX.out.box.c3; have c4 := BX.out.c4
      go_wp2_with fail
      go_returns
      exact ⟨rfl, B.out⟩
    · have hp : p + 1 < n := by omega
      have x1 := hx.get p (by omega)
      have x2 := hx.get (p + 1) (by omega)
      have hv : rbig ((xs.drop (p : Int).toNat).take ((16 : Int) / 8).toNat) = xs.getD p 0 * 256 + xs.getD (p + 1) 0 := by
        rw [show ((p : Int)).toNat = p from by omega, show ((16 : Int) / 8).toNat = 2 from by decide]
        exact rbig_two xs p (by omega)
      rw [hv]
      generalize hz : xs.getD p 0 = z at *
      generalize hz2 : xs.getD (p + 1) 0 = z2 at *
      have Hz := Lib.hid hz
      have Hz2 := Lib.hid hz2
      have HP := Lib.hid hP
      clear hv hP hs hq hr hz hz2
      go_enter Try.func12, Try.ntmps12
      go_wp2_with fail
      generalize w.alloc (.cells #[.int .i64 W, .int .i64 H, .int .i64 C, .int .i64 16, .slice a n cap] 26) = v at *
      refine (HP.out _).mono ?_; rintro e w1 ⟨rfl, bb⟩
      replace B := Lib.hid (below_size B.out bb)
      replace BX := Lib.hid (BX.out.below bb)
      replace R := Lib.hid (R.out.below bb)
      obtain ⟨b1, o1, rfl, t1⟩ := R.out.cellAt p (by omega)
      obtain ⟨b2, o2, e2', t2⟩ := R.out.cellAt (p + 1) hp
      obtain ⟨rfl, rfl⟩ : b1 = b2 ∧ o1 = o2 := by simpa using e2'
      clear bb hl e2'
      rw [Hz.out] at t1
      rw [Hz2.out] at t2
      have hor := or_join_i64 8 (z * 256) z2 (by omega) (by omega) (by omega) (by omega) (by omega) (by omega)
      have c0 := BX.out.box.c0; have c1 := BX.out.box.c1; have c2 := BX.out.box.c2; have c3 := BX.out.box.c3; have c4 := BX.out.c4
      go_wp2_with fail
      have q1 : (p : Int) < n := by omega
      have q2 : (p : Int) + 1 < n := by omega
      have q3 : (0 : Int) ≤ (p : Int) + 1 := by omega
      have s1 : IntKind.i64.wrap z = z := Go.IntWalk.i64_in _ (by omega)
      have s2 : IntKind.i64.wrap z2 = z2 := Go.IntWalk.i64_in _ (by omega)
      have s3 : IntKind.i64.wrap (z * 256) = z * 256 := Go.IntWalk.i64_in _ (by omega)
      have s4 : IntKind.i64.wrap ((p : Int) + 1) = (p : Int) + 1 := Go.IntWalk.i64_in _ (by omega)
      have s5 : ((p : Int) + 1).toNat = p + 1 := by omega
      go_quiet (fail)
      clear s1 s2 s3 s4 s5
      go_wp2_with fail
      go_returns
      refine ⟨?_, below_drewN B.out _⟩
      simp [hor]
  · have hV : atVal W H C D n xs x y c = 0 := by rw [atVal, if_neg h0]
    have h0' : (atErr W H C D n x y c != 0) = true := by simpa using h0
    rw [hV]
    generalize atErr W H C D n x y c = E at *
    generalize plV W H C D n x y c = pv at *
    have HP := Lib.hid hP
    clear hP hr hV h0 hbl hEE
    go_enter Try.func12, Try.ntmps12
    go_wp2_with fail
    generalize w.alloc (.cells #[.int .i64 W, .int .i64 H, .int .i64 C, .int .i64 D, .slice a n cap] 26) = v at *
    refine (HP.out _).mono ?_; rintro e w1 ⟨rfl, bb⟩
    replace B := Lib.hid (below_size B.out bb)
    clear bb
    go_wp2_with fail
    go_returns
    exact ⟨rfl, B.out⟩

end Go.Proofs.Ytdlmcjcdmjkhhaa
