/-
  The walk of DiffChains: what is not asked of.
-/
import Derived.Test.YtljkkhjgcgiccaaDiffMake
namespace Go.Proofs.Ytljkkhjgcgiccaa
open Go.RowKit

theorem three_boxes (w : World) (W H C D : Int) (a : Option Addr) (n cap : Nat) (W' H' C' D' : Int) (b : Option Addr) (m k : Nat) (X Y Z T : Int) (c : Option Addr) (l q : Nat) :
    ∃ v, v = ((w.alloc (.cells #[.int .i64 W, .int .i64 H, .int .i64 C, .int .i64 D, .slice a n cap] 26)).alloc (.cells #[.int .i64 W', .int .i64 H', .int .i64 C', .int .i64 D', .slice b m k] 26)).alloc (.cells #[.int .i64 X, .int .i64 Y, .int .i64 Z, .int .i64 T, .slice c l q] 26) ∧ Below w.heap.size w v ∧ RBox v w.heap.size W H C D a n cap ∧ RBox v (w.heap.size + 1) W' H' C' D' b m k ∧ RBox v (w.heap.size + 2) X Y Z T c l q := by
  obtain ⟨v, hv, hb, bx, by_⟩ := two_boxes w W H C D a n cap W' H' C' D' b m k
  have hs : v.heap.size = w.heap.size + 2 := by rw [hv]; simp
  refine ⟨_, rfl, ?_, ?_, ?_, ?_⟩
  · rw [← hv]; exact hb.alloc hb.size _
  · rw [← hv]; exact bx.below ((Below.refl _ _).alloc (Nat.le_refl _) _)
  · rw [← hv]; exact by_.below ((Below.refl _ _).alloc (Nat.le_refl _) _)
  · have := rbox_alloc v X Y Z T c l q 26
    rw [← hv, ← hs]
    exact this

set_option maxHeartbeats 1000000 in
theorem ashape_any (W H C D W' H' C' D' : Int) (w : World) :
    Calls Try.prog 17 #[shp W H C D, shp W' H' C' D'] w fun e w' => e = .returned (.bool (decide (shEq W H C D W' H' C' D'))) ∧ Below w.heap.size w w' := by
  have HB := fun (b : Bool) (h : b = true ↔ shEq W H C D W' H' C' D') => Lib.hid (show b = decide (shEq W H C D W' H' C' D') from by rw [Bool.eq_iff_iff, decide_eq_true_iff]; exact h)
  generalize decide (shEq W H C D W' H' C' D') = r at *
  go_enter Try.func17, Try.ntmps17
  go_wp2
  all_goals go_ret
  all_goals refine ⟨ret_bool ?_, ((Below.refl _ _).alloc (Nat.le_refl _) _).alloc (by simp) _⟩
  all_goals refine (HB _ ?_).out
  all_goals unfold shEq
  all_goals simp
  all_goals try omega

set_option maxHeartbeats 400000 in
theorem first_any (w : World) :
    Calls Try.prog 5 #[] w fun e w' => e = .returned (.bool true) ∧ Below w.heap.size w w' := by
  have hb1 := (Below.refl w.heap.size w).alloc (Nat.le_refl _) (.cells #[.int .i64 1, .int .i64 1, .int .i64 1, .int .i64 8] 23)
  have hb2 := hb1.alloc hb1.size (.cells #[.int .u8 5] 5)
  have hb3 := hb2.alloc hb2.size (.cells #[.int .u8 3] 5)
  have r5 := (reads_alloc (k := .u8) (w.alloc (.cells #[.int .i64 1, .int .i64 1, .int .i64 1, .int .i64 8] 23)) [5] #[.int .u8 5] 5 (0, 0) rfl (by unfold maxLen; simp) 1 rfl).below ((Below.refl _ _).alloc (Nat.le_refl _) (.cells #[.int .u8 3] 5))
  have r3 := reads_alloc (k := .u8) ((w.alloc (.cells #[.int .i64 1, .int .i64 1, .int .i64 1, .int .i64 8] 23)).alloc (.cells #[.int .u8 5] 5)) [3] #[.int .u8 3] 5 (0, 0) rfl (by unfold maxLen; simp) 1 rfl
  simp only [World.size_alloc] at r5 r3
  have H3 := Lib.hid hb3; have R5 := Lib.hid r5; have R3 := Lib.hid r3
  clear hb1 hb2 hb3 r5 r3
  go_enter Try.func5, Try.ntmps5
  go_wp2_with fail
  refine (make_ok 2 1 1 1 8 (some ⟨w.heap.size + 1, 0, Option.none⟩) 1 1 (some ⟨w.heap.size + 1 + 1, 0, Option.none⟩) 1 [5] [3] _ (.inr rfl) R5.out (isB_of_all _ (by decide)) R3.out (isB_of_all _ (by decide)) (by decide)).mono ?_
  rintro e w1 ⟨a1, k1, rfl, o1, b1⟩
  have e1 : mkL 2 [5] [3] = [254] := by decide
  rw [e1] at o1 ⊢
  simp only [List.length_singleton] at o1 ⊢
  have s1 := run_bytes_string (reads_of_owns o1) 24 5 Try.underlying24 Try.underlying5 9 Try.underlying9
  have q1 : ((strOfNums [254]).toList == [254]) = true := by rw [ByteArray.toList_eq]; decide
  have B1 := below_size H3.out b1
  clear o1 b1 H3 R5 R3
  go_wp2_with fail
  go_ret
  exact ⟨rfl, B1⟩

set_option maxRecDepth 100000 in
set_option maxHeartbeats 2000000 in
theorem chains_not0 (W H C D : Int) (a : Option Addr) (n ca : Nat) (W1 H1 C1 D1 : Int) (b : Option Addr) (m cb : Nat) (W2 H2 C2 D2 : Int) (c : Option Addr) (l cc : Nat) (w : World) (hn : n ≤ 9223372036854775807) (h0 : (-9223372036854775808 ≤ H ∧ H ≤ 9223372036854775807)) (h1 : (-9223372036854775808 ≤ H1 ∧ H1 ≤ 9223372036854775807)) (h2 : (-9223372036854775808 ≤ H2 ∧ H2 ≤ 9223372036854775807)) (k0 : ¬ (n ≤ 5000)) :
    Calls Try.prog 4 #[ras W H C D a n ca, ras W1 H1 C1 D1 b m cb, ras W2 H2 C2 D2 c l cc] w fun e w' => e = .returned (.bool true) ∧ Below w.heap.size w w' := by
  have g0 := fun w' => may_any W H C D a n ca w' h0
  have g1 := fun w' => may_any W1 H1 C1 D1 b m cb w' h1
  have g2 := fun w' => may_any W2 H2 C2 D2 c l cc w' h2
  have g3 := fun w' => ashape_any W H C D W1 H1 C1 D1 w'
  have g4 := fun w' => ashape_any W H C D W2 H2 C2 D2 w'
  have hlen : (5000 : Int) < n := by omega
  have G0 := Lib.hid g0; have G1 := Lib.hid g1; have G2 := Lib.hid g2; have G3 := Lib.hid g3; have G4 := Lib.hid g4
  clear g0 g1 g2 g3 g4
  obtain ⟨v, hv, hb, bx, by_, bz⟩ := three_boxes w W H C D a n ca W1 H1 C1 D1 b m cb W2 H2 C2 D2 c l cc
  have B := Lib.hid hb; have BX := Lib.hid bx; have BY := Lib.hid by_; have BZ := Lib.hid bz
  clear hb bx by_ bz
  go_enter Try.func4, Try.ntmps4
  go_wp2_with fail
  rw [← hv]
  clear hv
  refine (first_any _).mono ?_; rintro e w1 ⟨rfl, bb⟩
  replace B := Lib.hid (below_size B.out bb)
  replace BX := Lib.hid (BX.out.below bb)
  replace BY := Lib.hid (BY.out.below bb)
  replace BZ := Lib.hid (BZ.out.below bb)
  clear bb
  have x0 := BX.out.box.c0; have x1 := BX.out.box.c1; have x2 := BX.out.box.c2; have x3 := BX.out.box.c3; have x4 := BX.out.c4
  go_wp2_with fail
  clear x0 x1 x2 x3 x4
  refine (first_any _).mono ?_; rintro e w2 ⟨rfl, bb⟩
  replace B := Lib.hid (below_size B.out bb)
  replace BX := Lib.hid (BX.out.below bb)
  replace BY := Lib.hid (BY.out.below bb)
  replace BZ := Lib.hid (BZ.out.below bb)
  clear bb
  go_wp2_with fail
  go_ret
  exact ⟨rfl, B.out⟩

set_option maxRecDepth 100000 in
set_option maxHeartbeats 2000000 in
theorem chains_not1 (W H C D : Int) (a : Option Addr) (n ca : Nat) (W1 H1 C1 D1 : Int) (b : Option Addr) (m cb : Nat) (W2 H2 C2 D2 : Int) (c : Option Addr) (l cc : Nat) (w : World) (hn : n ≤ 9223372036854775807) (h0 : (-9223372036854775808 ≤ H ∧ H ≤ 9223372036854775807)) (h1 : (-9223372036854775808 ≤ H1 ∧ H1 ≤ 9223372036854775807)) (h2 : (-9223372036854775808 ≤ H2 ∧ H2 ≤ 9223372036854775807)) (k0 : n ≤ 5000) (k1 : ¬ (mayR W H C D n = true)) :
    Calls Try.prog 4 #[ras W H C D a n ca, ras W1 H1 C1 D1 b m cb, ras W2 H2 C2 D2 c l cc] w fun e w' => e = .returned (.bool true) ∧ Below w.heap.size w w' := by
  have g0 := fun w' => may_any W H C D a n ca w' h0
  have g1 := fun w' => may_any W1 H1 C1 D1 b m cb w' h1
  have g2 := fun w' => may_any W2 H2 C2 D2 c l cc w' h2
  have g3 := fun w' => ashape_any W H C D W1 H1 C1 D1 w'
  have g4 := fun w' => ashape_any W H C D W2 H2 C2 D2 w'
  have hlen : decide ((5000 : Int) < n) = false := by simp; omega
  rw [show mayR W H C D n = false by simpa using k1] at g0
  have G0 := Lib.hid g0; have G1 := Lib.hid g1; have G2 := Lib.hid g2; have G3 := Lib.hid g3; have G4 := Lib.hid g4
  clear g0 g1 g2 g3 g4
  obtain ⟨v, hv, hb, bx, by_, bz⟩ := three_boxes w W H C D a n ca W1 H1 C1 D1 b m cb W2 H2 C2 D2 c l cc
  have B := Lib.hid hb; have BX := Lib.hid bx; have BY := Lib.hid by_; have BZ := Lib.hid bz
  clear hb bx by_ bz
  go_enter Try.func4, Try.ntmps4
  go_wp2_with fail
  rw [← hv]
  clear hv
  refine (first_any _).mono ?_; rintro e w1 ⟨rfl, bb⟩
  replace B := Lib.hid (below_size B.out bb)
  replace BX := Lib.hid (BX.out.below bb)
  replace BY := Lib.hid (BY.out.below bb)
  replace BZ := Lib.hid (BZ.out.below bb)
  clear bb
  have x0 := BX.out.box.c0; have x1 := BX.out.box.c1; have x2 := BX.out.box.c2; have x3 := BX.out.box.c3; have x4 := BX.out.c4
  go_wp2_with fail
  clear x0 x1 x2 x3 x4
  refine (G0.out _).mono ?_; rintro e w2 ⟨rfl, bb⟩
  replace B := Lib.hid (below_size B.out bb)
  replace BX := Lib.hid (BX.out.below bb)
  replace BY := Lib.hid (BY.out.below bb)
  replace BZ := Lib.hid (BZ.out.below bb)
  clear bb
  go_wp2_with fail
  refine (first_any _).mono ?_; rintro e w3 ⟨rfl, bb⟩
  replace B := Lib.hid (below_size B.out bb)
  replace BX := Lib.hid (BX.out.below bb)
  replace BY := Lib.hid (BY.out.below bb)
  replace BZ := Lib.hid (BZ.out.below bb)
  clear bb
  go_wp2_with fail
  go_ret
  exact ⟨rfl, B.out⟩

set_option maxRecDepth 100000 in
set_option maxHeartbeats 2000000 in
theorem chains_not2 (W H C D : Int) (a : Option Addr) (n ca : Nat) (W1 H1 C1 D1 : Int) (b : Option Addr) (m cb : Nat) (W2 H2 C2 D2 : Int) (c : Option Addr) (l cc : Nat) (w : World) (hn : n ≤ 9223372036854775807) (h0 : (-9223372036854775808 ≤ H ∧ H ≤ 9223372036854775807)) (h1 : (-9223372036854775808 ≤ H1 ∧ H1 ≤ 9223372036854775807)) (h2 : (-9223372036854775808 ≤ H2 ∧ H2 ≤ 9223372036854775807)) (k0 : n ≤ 5000) (k1 : mayR W H C D n = true) (k2 : ¬ (mayR W1 H1 C1 D1 m = true)) :
    Calls Try.prog 4 #[ras W H C D a n ca, ras W1 H1 C1 D1 b m cb, ras W2 H2 C2 D2 c l cc] w fun e w' => e = .returned (.bool true) ∧ Below w.heap.size w w' := by
  have g0 := fun w' => may_any W H C D a n ca w' h0
  have g1 := fun w' => may_any W1 H1 C1 D1 b m cb w' h1
  have g2 := fun w' => may_any W2 H2 C2 D2 c l cc w' h2
  have g3 := fun w' => ashape_any W H C D W1 H1 C1 D1 w'
  have g4 := fun w' => ashape_any W H C D W2 H2 C2 D2 w'
  have hlen : decide ((5000 : Int) < n) = false := by simp; omega
  rw [k1] at g0
  rw [show mayR W1 H1 C1 D1 m = false by simpa using k2] at g1
  have G0 := Lib.hid g0; have G1 := Lib.hid g1; have G2 := Lib.hid g2; have G3 := Lib.hid g3; have G4 := Lib.hid g4
  clear g0 g1 g2 g3 g4
  obtain ⟨v, hv, hb, bx, by_, bz⟩ := three_boxes w W H C D a n ca W1 H1 C1 D1 b m cb W2 H2 C2 D2 c l cc
  have B := Lib.hid hb; have BX := Lib.hid bx; have BY := Lib.hid by_; have BZ := Lib.hid bz
  clear hb bx by_ bz
  go_enter Try.func4, Try.ntmps4
  go_wp2_with fail
  rw [← hv]
  clear hv
  refine (first_any _).mono ?_; rintro e w1 ⟨rfl, bb⟩
  replace B := Lib.hid (below_size B.out bb)
  replace BX := Lib.hid (BX.out.below bb)
  replace BY := Lib.hid (BY.out.below bb)
  replace BZ := Lib.hid (BZ.out.below bb)
  clear bb
  have x0 := BX.out.box.c0; have x1 := BX.out.box.c1; have x2 := BX.out.box.c2; have x3 := BX.out.box.c3; have x4 := BX.out.c4
  go_wp2_with fail
  clear x0 x1 x2 x3 x4
  refine (G0.out _).mono ?_; rintro e w2 ⟨rfl, bb⟩
  replace B := Lib.hid (below_size B.out bb)
  replace BX := Lib.hid (BX.out.below bb)
  replace BY := Lib.hid (BY.out.below bb)
  replace BZ := Lib.hid (BZ.out.below bb)
  clear bb
  have x0 := BY.out.box.c0; have x1 := BY.out.box.c1; have x2 := BY.out.box.c2; have x3 := BY.out.box.c3; have x4 := BY.out.c4
  go_wp2_with fail
  clear x0 x1 x2 x3 x4
  refine (G1.out _).mono ?_; rintro e w3 ⟨rfl, bb⟩
  replace B := Lib.hid (below_size B.out bb)
  replace BX := Lib.hid (BX.out.below bb)
  replace BY := Lib.hid (BY.out.below bb)
  replace BZ := Lib.hid (BZ.out.below bb)
  clear bb
  go_wp2_with fail
  refine (first_any _).mono ?_; rintro e w4 ⟨rfl, bb⟩
  replace B := Lib.hid (below_size B.out bb)
  replace BX := Lib.hid (BX.out.below bb)
  replace BY := Lib.hid (BY.out.below bb)
  replace BZ := Lib.hid (BZ.out.below bb)
  clear bb
  go_wp2_with fail
  go_ret
  exact ⟨rfl, B.out⟩

set_option maxRecDepth 100000 in
set_option maxHeartbeats 2000000 in
theorem chains_not3 (W H C D : Int) (a : Option Addr) (n ca : Nat) (W1 H1 C1 D1 : Int) (b : Option Addr) (m cb : Nat) (W2 H2 C2 D2 : Int) (c : Option Addr) (l cc : Nat) (w : World) (hn : n ≤ 9223372036854775807) (h0 : (-9223372036854775808 ≤ H ∧ H ≤ 9223372036854775807)) (h1 : (-9223372036854775808 ≤ H1 ∧ H1 ≤ 9223372036854775807)) (h2 : (-9223372036854775808 ≤ H2 ∧ H2 ≤ 9223372036854775807)) (k0 : n ≤ 5000) (k1 : mayR W H C D n = true) (k2 : mayR W1 H1 C1 D1 m = true) (k3 : ¬ (mayR W2 H2 C2 D2 l = true)) :
    Calls Try.prog 4 #[ras W H C D a n ca, ras W1 H1 C1 D1 b m cb, ras W2 H2 C2 D2 c l cc] w fun e w' => e = .returned (.bool true) ∧ Below w.heap.size w w' := by
  have g0 := fun w' => may_any W H C D a n ca w' h0
  have g1 := fun w' => may_any W1 H1 C1 D1 b m cb w' h1
  have g2 := fun w' => may_any W2 H2 C2 D2 c l cc w' h2
  have g3 := fun w' => ashape_any W H C D W1 H1 C1 D1 w'
  have g4 := fun w' => ashape_any W H C D W2 H2 C2 D2 w'
  have hlen : decide ((5000 : Int) < n) = false := by simp; omega
  rw [k1] at g0
  rw [k2] at g1
  rw [show mayR W2 H2 C2 D2 l = false by simpa using k3] at g2
  have G0 := Lib.hid g0; have G1 := Lib.hid g1; have G2 := Lib.hid g2; have G3 := Lib.hid g3; have G4 := Lib.hid g4
  clear g0 g1 g2 g3 g4
  obtain ⟨v, hv, hb, bx, by_, bz⟩ := three_boxes w W H C D a n ca W1 H1 C1 D1 b m cb W2 H2 C2 D2 c l cc
  have B := Lib.hid hb; have BX := Lib.hid bx; have BY := Lib.hid by_; have BZ := Lib.hid bz
  clear hb bx by_ bz
  go_enter Try.func4, Try.ntmps4
  go_wp2_with fail
  rw [← hv]
  clear hv
  refine (first_any _).mono ?_; rintro e w1 ⟨rfl, bb⟩
  replace B := Lib.hid (below_size B.out bb)
  replace BX := Lib.hid (BX.out.below bb)
  replace BY := Lib.hid (BY.out.below bb)
  replace BZ := Lib.hid (BZ.out.below bb)
  clear bb
  have x0 := BX.out.box.c0; have x1 := BX.out.box.c1; have x2 := BX.out.box.c2; have x3 := BX.out.box.c3; have x4 := BX.out.c4
  go_wp2_with fail
  clear x0 x1 x2 x3 x4
  refine (G0.out _).mono ?_; rintro e w2 ⟨rfl, bb⟩
  replace B := Lib.hid (below_size B.out bb)
  replace BX := Lib.hid (BX.out.below bb)
  replace BY := Lib.hid (BY.out.below bb)
  replace BZ := Lib.hid (BZ.out.below bb)
  clear bb
  have x0 := BY.out.box.c0; have x1 := BY.out.box.c1; have x2 := BY.out.box.c2; have x3 := BY.out.box.c3; have x4 := BY.out.c4
  go_wp2_with fail
  clear x0 x1 x2 x3 x4
  refine (G1.out _).mono ?_; rintro e w3 ⟨rfl, bb⟩
  replace B := Lib.hid (below_size B.out bb)
  replace BX := Lib.hid (BX.out.below bb)
  replace BY := Lib.hid (BY.out.below bb)
  replace BZ := Lib.hid (BZ.out.below bb)
  clear bb
  have x0 := BZ.out.box.c0; have x1 := BZ.out.box.c1; have x2 := BZ.out.box.c2; have x3 := BZ.out.box.c3; have x4 := BZ.out.c4
  go_wp2_with fail
  clear x0 x1 x2 x3 x4
  refine (G2.out _).mono ?_; rintro e w4 ⟨rfl, bb⟩
  replace B := Lib.hid (below_size B.out bb)
  replace BX := Lib.hid (BX.out.below bb)
  replace BY := Lib.hid (BY.out.below bb)
  replace BZ := Lib.hid (BZ.out.below bb)
  clear bb
  go_wp2_with fail
  refine (first_any _).mono ?_; rintro e w5 ⟨rfl, bb⟩
  replace B := Lib.hid (below_size B.out bb)
  replace BX := Lib.hid (BX.out.below bb)
  replace BY := Lib.hid (BY.out.below bb)
  replace BZ := Lib.hid (BZ.out.below bb)
  clear bb
  go_wp2_with fail
  go_ret
  exact ⟨rfl, B.out⟩

set_option maxRecDepth 100000 in
set_option maxHeartbeats 2000000 in
theorem chains_not4 (W H C D : Int) (a : Option Addr) (n ca : Nat) (W1 H1 C1 D1 : Int) (b : Option Addr) (m cb : Nat) (W2 H2 C2 D2 : Int) (c : Option Addr) (l cc : Nat) (w : World) (hn : n ≤ 9223372036854775807) (h0 : (-9223372036854775808 ≤ H ∧ H ≤ 9223372036854775807)) (h1 : (-9223372036854775808 ≤ H1 ∧ H1 ≤ 9223372036854775807)) (h2 : (-9223372036854775808 ≤ H2 ∧ H2 ≤ 9223372036854775807)) (k0 : n ≤ 5000) (k1 : mayR W H C D n = true) (k2 : mayR W1 H1 C1 D1 m = true) (k3 : mayR W2 H2 C2 D2 l = true) (k4 : ¬ (shEq W H C D W1 H1 C1 D1)) :
    Calls Try.prog 4 #[ras W H C D a n ca, ras W1 H1 C1 D1 b m cb, ras W2 H2 C2 D2 c l cc] w fun e w' => e = .returned (.bool true) ∧ Below w.heap.size w w' := by
  have g0 := fun w' => may_any W H C D a n ca w' h0
  have g1 := fun w' => may_any W1 H1 C1 D1 b m cb w' h1
  have g2 := fun w' => may_any W2 H2 C2 D2 c l cc w' h2
  have g3 := fun w' => ashape_any W H C D W1 H1 C1 D1 w'
  have g4 := fun w' => ashape_any W H C D W2 H2 C2 D2 w'
  have hlen : decide ((5000 : Int) < n) = false := by simp; omega
  rw [k1] at g0
  rw [k2] at g1
  rw [k3] at g2
  rw [decide_eq_false k4] at g3
  have G0 := Lib.hid g0; have G1 := Lib.hid g1; have G2 := Lib.hid g2; have G3 := Lib.hid g3; have G4 := Lib.hid g4
  clear g0 g1 g2 g3 g4
  obtain ⟨v, hv, hb, bx, by_, bz⟩ := three_boxes w W H C D a n ca W1 H1 C1 D1 b m cb W2 H2 C2 D2 c l cc
  have B := Lib.hid hb; have BX := Lib.hid bx; have BY := Lib.hid by_; have BZ := Lib.hid bz
  clear hb bx by_ bz
  go_enter Try.func4, Try.ntmps4
  go_wp2_with fail
  rw [← hv]
  clear hv
  refine (first_any _).mono ?_; rintro e w1 ⟨rfl, bb⟩
  replace B := Lib.hid (below_size B.out bb)
  replace BX := Lib.hid (BX.out.below bb)
  replace BY := Lib.hid (BY.out.below bb)
  replace BZ := Lib.hid (BZ.out.below bb)
  clear bb
  have x0 := BX.out.box.c0; have x1 := BX.out.box.c1; have x2 := BX.out.box.c2; have x3 := BX.out.box.c3; have x4 := BX.out.c4
  go_wp2_with fail
  clear x0 x1 x2 x3 x4
  refine (G0.out _).mono ?_; rintro e w2 ⟨rfl, bb⟩
  replace B := Lib.hid (below_size B.out bb)
  replace BX := Lib.hid (BX.out.below bb)
  replace BY := Lib.hid (BY.out.below bb)
  replace BZ := Lib.hid (BZ.out.below bb)
  clear bb
  have x0 := BY.out.box.c0; have x1 := BY.out.box.c1; have x2 := BY.out.box.c2; have x3 := BY.out.box.c3; have x4 := BY.out.c4
  go_wp2_with fail
  clear x0 x1 x2 x3 x4
  refine (G1.out _).mono ?_; rintro e w3 ⟨rfl, bb⟩
  replace B := Lib.hid (below_size B.out bb)
  replace BX := Lib.hid (BX.out.below bb)
  replace BY := Lib.hid (BY.out.below bb)
  replace BZ := Lib.hid (BZ.out.below bb)
  clear bb
  have x0 := BZ.out.box.c0; have x1 := BZ.out.box.c1; have x2 := BZ.out.box.c2; have x3 := BZ.out.box.c3; have x4 := BZ.out.c4
  go_wp2_with fail
  clear x0 x1 x2 x3 x4
  refine (G2.out _).mono ?_; rintro e w4 ⟨rfl, bb⟩
  replace B := Lib.hid (below_size B.out bb)
  replace BX := Lib.hid (BX.out.below bb)
  replace BY := Lib.hid (BY.out.below bb)
  replace BZ := Lib.hid (BZ.out.below bb)
  clear bb
  have x0 := BX.out.box.c0; have x1 := BX.out.box.c1; have x2 := BX.out.box.c2; have x3 := BX.out.box.c3; have x4 := BX.out.c4
  have y0 := BY.out.box.c0; have y1 := BY.out.box.c1; have y2 := BY.out.box.c2; have y3 := BY.out.box.c3; have y4 := BY.out.c4
  go_wp2_with fail
  clear x0 x1 x2 x3 x4 y0 y1 y2 y3 y4
  refine (G3.out _).mono ?_; rintro e w5 ⟨rfl, bb⟩
  replace B := Lib.hid (below_size B.out bb)
  replace BX := Lib.hid (BX.out.below bb)
  replace BY := Lib.hid (BY.out.below bb)
  replace BZ := Lib.hid (BZ.out.below bb)
  clear bb
  go_wp2_with fail
  refine (first_any _).mono ?_; rintro e w6 ⟨rfl, bb⟩
  replace B := Lib.hid (below_size B.out bb)
  replace BX := Lib.hid (BX.out.below bb)
  replace BY := Lib.hid (BY.out.below bb)
  replace BZ := Lib.hid (BZ.out.below bb)
  clear bb
  go_wp2_with fail
  go_ret
  exact ⟨rfl, B.out⟩

set_option maxRecDepth 100000 in
set_option maxHeartbeats 2000000 in
theorem chains_not5 (W H C D : Int) (a : Option Addr) (n ca : Nat) (W1 H1 C1 D1 : Int) (b : Option Addr) (m cb : Nat) (W2 H2 C2 D2 : Int) (c : Option Addr) (l cc : Nat) (w : World) (hn : n ≤ 9223372036854775807) (h0 : (-9223372036854775808 ≤ H ∧ H ≤ 9223372036854775807)) (h1 : (-9223372036854775808 ≤ H1 ∧ H1 ≤ 9223372036854775807)) (h2 : (-9223372036854775808 ≤ H2 ∧ H2 ≤ 9223372036854775807)) (k0 : n ≤ 5000) (k1 : mayR W H C D n = true) (k2 : mayR W1 H1 C1 D1 m = true) (k3 : mayR W2 H2 C2 D2 l = true) (k4 : shEq W H C D W1 H1 C1 D1) (k5 : ¬ (shEq W H C D W2 H2 C2 D2)) :
    Calls Try.prog 4 #[ras W H C D a n ca, ras W1 H1 C1 D1 b m cb, ras W2 H2 C2 D2 c l cc] w fun e w' => e = .returned (.bool true) ∧ Below w.heap.size w w' := by
  have g0 := fun w' => may_any W H C D a n ca w' h0
  have g1 := fun w' => may_any W1 H1 C1 D1 b m cb w' h1
  have g2 := fun w' => may_any W2 H2 C2 D2 c l cc w' h2
  have g3 := fun w' => ashape_any W H C D W1 H1 C1 D1 w'
  have g4 := fun w' => ashape_any W H C D W2 H2 C2 D2 w'
  have hlen : decide ((5000 : Int) < n) = false := by simp; omega
  rw [k1] at g0
  rw [k2] at g1
  rw [k3] at g2
  rw [decide_eq_true k4] at g3
  rw [decide_eq_false k5] at g4
  have G0 := Lib.hid g0; have G1 := Lib.hid g1; have G2 := Lib.hid g2; have G3 := Lib.hid g3; have G4 := Lib.hid g4
  clear g0 g1 g2 g3 g4
  obtain ⟨v, hv, hb, bx, by_, bz⟩ := three_boxes w W H C D a n ca W1 H1 C1 D1 b m cb W2 H2 C2 D2 c l cc
  have B := Lib.hid hb; have BX := Lib.hid bx; have BY := Lib.hid by_; have BZ := Lib.hid bz
  clear hb bx by_ bz
  go_enter Try.func4, Try.ntmps4
  go_wp2_with fail
  rw [← hv]
  clear hv
  refine (first_any _).mono ?_; rintro e w1 ⟨rfl, bb⟩
  replace B := Lib.hid (below_size B.out bb)
  replace BX := Lib.hid (BX.out.below bb)
  replace BY := Lib.hid (BY.out.below bb)
  replace BZ := Lib.hid (BZ.out.below bb)
  clear bb
  have x0 := BX.out.box.c0; have x1 := BX.out.box.c1; have x2 := BX.out.box.c2; have x3 := BX.out.box.c3; have x4 := BX.out.c4
  go_wp2_with fail
  clear x0 x1 x2 x3 x4
  refine (G0.out _).mono ?_; rintro e w2 ⟨rfl, bb⟩
  replace B := Lib.hid (below_size B.out bb)
  replace BX := Lib.hid (BX.out.below bb)
  replace BY := Lib.hid (BY.out.below bb)
  replace BZ := Lib.hid (BZ.out.below bb)
  clear bb
  have x0 := BY.out.box.c0; have x1 := BY.out.box.c1; have x2 := BY.out.box.c2; have x3 := BY.out.box.c3; have x4 := BY.out.c4
  go_wp2_with fail
  clear x0 x1 x2 x3 x4
  refine (G1.out _).mono ?_; rintro e w3 ⟨rfl, bb⟩
  replace B := Lib.hid (below_size B.out bb)
  replace BX := Lib.hid (BX.out.below bb)
  replace BY := Lib.hid (BY.out.below bb)
  replace BZ := Lib.hid (BZ.out.below bb)
  clear bb
  have x0 := BZ.out.box.c0; have x1 := BZ.out.box.c1; have x2 := BZ.out.box.c2; have x3 := BZ.out.box.c3; have x4 := BZ.out.c4
  go_wp2_with fail
  clear x0 x1 x2 x3 x4
  refine (G2.out _).mono ?_; rintro e w4 ⟨rfl, bb⟩
  replace B := Lib.hid (below_size B.out bb)
  replace BX := Lib.hid (BX.out.below bb)
  replace BY := Lib.hid (BY.out.below bb)
  replace BZ := Lib.hid (BZ.out.below bb)
  clear bb
  have x0 := BX.out.box.c0; have x1 := BX.out.box.c1; have x2 := BX.out.box.c2; have x3 := BX.out.box.c3; have x4 := BX.out.c4
  have y0 := BY.out.box.c0; have y1 := BY.out.box.c1; have y2 := BY.out.box.c2; have y3 := BY.out.box.c3; have y4 := BY.out.c4
  go_wp2_with fail
  clear x0 x1 x2 x3 x4 y0 y1 y2 y3 y4
  refine (G3.out _).mono ?_; rintro e w5 ⟨rfl, bb⟩
  replace B := Lib.hid (below_size B.out bb)
  replace BX := Lib.hid (BX.out.below bb)
  replace BY := Lib.hid (BY.out.below bb)
  replace BZ := Lib.hid (BZ.out.below bb)
  clear bb
  have x0 := BX.out.box.c0; have x1 := BX.out.box.c1; have x2 := BX.out.box.c2; have x3 := BX.out.box.c3; have x4 := BX.out.c4
  have y0 := BZ.out.box.c0; have y1 := BZ.out.box.c1; have y2 := BZ.out.box.c2; have y3 := BZ.out.box.c3; have y4 := BZ.out.c4
  go_wp2_with fail
  clear x0 x1 x2 x3 x4 y0 y1 y2 y3 y4
  refine (G4.out _).mono ?_; rintro e w6 ⟨rfl, bb⟩
  replace B := Lib.hid (below_size B.out bb)
  replace BX := Lib.hid (BX.out.below bb)
  replace BY := Lib.hid (BY.out.below bb)
  replace BZ := Lib.hid (BZ.out.below bb)
  clear bb
  go_wp2_with fail
  refine (first_any _).mono ?_; rintro e w7 ⟨rfl, bb⟩
  replace B := Lib.hid (below_size B.out bb)
  replace BX := Lib.hid (BX.out.below bb)
  replace BY := Lib.hid (BY.out.below bb)
  replace BZ := Lib.hid (BZ.out.below bb)
  clear bb
  go_wp2_with fail
  go_ret
  exact ⟨rfl, B.out⟩

end Go.Proofs.Ytljkkhjgcgiccaa
