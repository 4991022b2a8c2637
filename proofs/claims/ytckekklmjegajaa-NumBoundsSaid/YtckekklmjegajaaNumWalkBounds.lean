/-
  The walk of the statement NumBounds.
-/
import Derived.Test.YtckekklmjegajaaNumFirst
import Derived.Test.YtckekklmjegajaaNumPure
namespace Go.Proofs.Ytckekklmjegajaa
open Go.RowKit

set_option maxRecDepth 100000 in
set_option maxHeartbeats 1000000 in
theorem bounds_err (a : Option Addr) (n cap : Nat) (p m : Int) (w : World) (hn : n ≤ 8000) (h0 : -9223372036854775808 ≤ p ∧ p ≤ 9223372036854775807) (h1 : -9223372036854775808 ≤ m ∧ m ≤ 9223372036854775807) (h : rdErr n p m ≠ 0) :
    Calls Try.prog 6 #[.slice a n cap, .int .i64 p, .int .i64 m] w fun e w' => e = .returned (.bool true) ∧ Below w.heap.size w w' := by
  have hs1 : ¬ (8000 : Int) < n := by omega
  have hc : (rdErr n p m != 0) = true := by simpa using h
  have hc' : (rdErr n p m != rdErr n p m) = false := by simp
  have hc2 : (rdErr n p m == rdErr n p m) = true := by simp
  go_enter Try.func6, Try.ntmps6
  go_wp2_with fail
  refine (first_any w).mono ?_; rintro e w1 ⟨rfl, hb1⟩
  go_wp2_with fail
  refine (readBig_no a n cap p m w1 (by omega) h0 h1 h).mono ?_; rintro e w2 ⟨rfl, rfl⟩
  go_wp2_with fail
  refine (readLittle_no a n cap p m w2 (by omega) h0 h1 h).mono ?_; rintro e w3 ⟨rfl, rfl⟩
  generalize rdErr n p m = c at *
  go_wp2_with fail
  refine (first_any w3).mono ?_; rintro e w4 ⟨rfl, hb4⟩
  have hb5 := below_size hb1 hb4
  go_wp2_with fail
  go_ret
  exact ⟨rfl, hb5⟩

set_option maxRecDepth 100000 in
set_option maxHeartbeats 2000000 in
theorem bounds_ok (a : Option Addr) (n cap : Nat) (xs : List Int) (p m : Nat) (w : World) (hr : Reads .u8 w a n cap xs) (hb : isB xs) (hn : n ≤ 8000) (h : rdErr n p m = 0) :
    Calls Try.prog 6 #[.slice a n cap, .int .i64 p, .int .i64 m] w fun e w' => e = .returned (.bool true) ∧ Below w.heap.size w w' := by
  have hf := rdErr_zero h
  have hf1 := hf.1; have hf2 := hf.2.1; have hf4 := hf.2.2.2
  have hnc := hr.le
  have hcm := hr.n63.2
  clear hf
  have hs1 : ¬ (8000 : Int) < n := by omega
  -- the piece that is read
  have hlen : ((xs.drop p).take m).length = m := by have := hr.len; simp; omega
  have hB : isB ((xs.drop p).take m) := (hb.drop p).take m
  have hn0 := rbig_bd _ hB
  have hm0 := rlit_bd _ hB
  have hbig := big_rbig _ hB
  have hlit := lit_rlit _ hB
  rw [hlen] at hn0 hm0 hbig hlit
  have hp6 := pow256_le m (by omega)
  have hfn := fit_of _ m hn0.1 hn0.2 (by omega) (by omega)
  have hfm := fit_of _ m hm0.1 hm0.2 (by omega) (by omega)
  have hp2 := pow256_two m
  have hp8 : (2 : Int) ^ (8 * m) ≤ 281474976710656 := by rw [← hp2]; exact hp6
  have hp9 : (0 : Int) < 2 ^ (8 * m) := Int.pow_pos (by decide)
  have hqn : rbig ((xs.drop p).take m) / 2 ^ (8 * m) = 0 := Int.ediv_eq_zero_of_lt hn0.1 (by rw [← hp2]; exact hn0.2)
  have hqm : rlit ((xs.drop p).take m) / 2 ^ (8 * m) = 0 := Int.ediv_eq_zero_of_lt hm0.1 (by rw [← hp2]; exact hm0.2)
  have hcut1 := hr.cut 0 (p + m - 1) (by omega) (by omega)
  have hcut2 := hr.cut p (p + m) (by omega) (by omega)
  have herr : rdErr ((p + m - 1 : Nat) : Int) p m = 2 := by unfold rdErr; rw [if_neg (by omega), if_pos (by omega)]
  have g1 : ∀ w' : World, (Instr.slice 22 (.slice a n cap) none (some (.int .i64 ((p : Int) + m - 1))) none).run Try.prog w' = .ok (.slice (cutA a 0 cap) (p + m - 1) cap) w' := fun w' => by
    rw [show ((p : Int) + m - 1) = ((p + m - 1 : Nat) : Int) by omega]
    exact run_slice_hi 22 5 Try.underlying22 (by kernel_rfl) a n cap _ .i64 (by omega) w'
  have g2 : ∀ w' : World, (Instr.slice 22 (.slice a n cap) (some (.int .i64 (p : Int))) (some (.int .i64 ((p : Int) + m))) none).run Try.prog w' = .ok (.slice (cutA a p cap) m (cap - p)) w' := fun w' => by
    rw [show ((p : Int) + m) = ((p + m : Nat) : Int) by omega, run_slice_lo_hi 22 5 Try.underlying22 (by kernel_rfl) a n cap p (p + m) .i64 .i64 (by omega) (by omega) w', show p + m - p = m by omega]
  rw [show p + m - 1 - 0 = p + m - 1 by omega, Nat.sub_zero] at hcut1
  rw [show p + m - p = m by omega] at hcut2
  generalize hxn : rbig ((xs.drop p).take m) = x at *
  generalize hym : rlit ((xs.drop p).take m) = y at *
  have Hxn := Lib.hid hxn; have Hym := Lib.hid hym; have Hlen := Lib.hid hlen
  have HB := Lib.hid hB; have Hbig := Lib.hid hbig; have Hlit := Lib.hid hlit; have Herr := Lib.hid herr
  have Hp2 := Lib.hid hp2; have Hh := Lib.hid h; have Hfn := Lib.hid hfn; have Hfm := Lib.hid hfm
  have hx0 := hn0.1; have hx1 : x < 281474976710656 := by omega
  have hy0 := hm0.1; have hy1 : y < 281474976710656 := by omega
  clear hxn hym hlen hB hbig hlit herr hp2 h hfn hfm hn0 hm0
  go_enter Try.func6, Try.ntmps6
  go_wp2_with fail
  refine (first_any w).mono ?_; rintro e w1 ⟨rfl, hb1⟩
  go_wp2_with fail
  refine (readBig_yes a n cap xs p m w1 (hr.below hb1) hb Hh.out).mono ?_; rintro e w2 ⟨rfl, rfl⟩
  rw [Hxn.out]
  go_wp2_with fail
  refine (readLittle_yes a n cap xs p m w2 (hr.below hb1) hb Hh.out).mono ?_; rintro e w3 ⟨rfl, rfl⟩
  rw [Hym.out]
  go_wp2_with fail
  refine (readBig_no (cutA a 0 cap) (p + m - 1) cap p m w3 (by omega) (by omega) (by omega) (by rw [Herr.out]; decide)).mono ?_; rintro e w4 ⟨rfl, rfl⟩
  rw [Herr.out]
  go_wp2_with fail
  refine (big_yes x m w4 (by omega) Hfn.out).mono ?_; rintro e w5 ⟨g5, c5, rfl, ho5, hb5⟩
  rw [Hbig.out, Hlen.out] at ho5
  rw [Hbig.out, Hlen.out]
  go_wp2_with fail
  refine (little_yes y m w5 (by omega) Hfm.out).mono ?_; rintro e w6 ⟨g6, c6, rfl, ho6, hb6⟩
  rw [Hlit.out, Hlen.out] at ho6
  rw [Hlit.out, Hlen.out]
  go_wp2_with fail
  refine (big_no (2 ^ (8 * m)) m w6 (by omega) (fit_pow m)).mono ?_; rintro e w7 ⟨rfl, rfl⟩
  go_wp2_with fail
  refine (first_any w7).mono ?_; rintro e w8 ⟨rfl, hb8⟩
  have hx8 := ((reads_of_owns ho5).below hb6).below hb8
  have hy8 := (reads_of_owns ho6).below hb8
  have hb9 : Below w.heap.size w w8 := below_size hb1 (below_size hb5 (below_size hb6 hb8))
  have hc8 := ((hcut2.below hb1).below hb5).below (hb6.trans (hb8.mono hb6.size))
  go_wp2_with fail
  refine (bytes_any _ _ m c5 m (cap - p) _ _ w8 hx8 hc8 HB.out HB.out).mono ?_; rintro e w9 ⟨rfl, rfl⟩
  rw [decide_eq_true rfl]
  go_wp2_with fail
  refine (bytes_any _ _ m c6 m (cap - p) _ _ w9 hy8 hc8 HB.out HB.out).mono ?_; rintro e w10 ⟨rfl, rfl⟩
  rw [decide_eq_true rfl]
  go_wp2_with fail
  go_ret
  exact ⟨rfl, hb9⟩

set_option maxRecDepth 100000 in
set_option maxHeartbeats 1000000 in
theorem bounds_large (a : Option Addr) (n cap : Nat) (p m : Int) (w : World) (hn : n ≤ 9223372036854775807) (hs : (8000 : Int) < n) :
    Calls Try.prog 6 #[.slice a n cap, .int .i64 p, .int .i64 m] w fun e w' => e = .returned (.bool true) ∧ Below w.heap.size w w' := by
  go_enter Try.func6, Try.ntmps6
  go_wp2_with fail
  refine (first_any w).mono ?_; rintro e w1 ⟨rfl, hb1⟩
  go_wp2_with fail
  refine (first_any w1).mono ?_; rintro e w2 ⟨rfl, hb2⟩
  go_wp2_with fail
  go_ret
  exact ⟨rfl, below_size hb1 hb2⟩

theorem walk_NumBounds (a : Option Addr) (n cap : Nat) (xs : List Int) (p m : Int) (w : World) (hr : Reads .u8 w a n cap xs) (hb : isB xs) (h0 : -9223372036854775808 ≤ p ∧ p ≤ 9223372036854775807) (h1 : -9223372036854775808 ≤ m ∧ m ≤ 9223372036854775807) :
    Calls Try.prog 6 #[.slice a n cap, .int .i64 p, .int .i64 m] w fun e w' => e = .returned (.bool true) ∧ Below w.heap.size w w' := by
  have hn := hr.n63.1
  by_cases hs : (8000 : Int) < n
  · exact bounds_large a n cap p m w hn hs
  · by_cases h : rdErr n p m = 0
    · obtain ⟨k1, k2, k3, k4⟩ := rdErr_zero h
      obtain ⟨p, rfl⟩ := Int.eq_ofNat_of_zero_le k3
      obtain ⟨m, rfl⟩ := Int.eq_ofNat_of_zero_le (show 0 ≤ m by omega)
      exact bounds_ok a n cap xs p m w hr hb (by omega) h
    · exact bounds_err a n cap p m w (by omega) h0 h1 h
end Go.Proofs.Ytckekklmjegajaa
