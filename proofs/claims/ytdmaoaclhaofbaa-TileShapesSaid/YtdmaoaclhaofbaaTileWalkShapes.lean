/-
  The statements' first function of chapter 10, and the walk of TileShapes.
-/
import Derived.Test.YtdmaoaclhaofbaaTileOk
namespace Go.Proofs.Ytdmaoaclhaofbaa
open Go.RowKit

set_option maxHeartbeats 400000 in
theorem first_any (w : World) :
    Calls Try.prog 8 #[] w fun e w' => e = .returned (.bool true) ∧ Below w.heap.size w w' := by
  go_enter Try.func8, Try.ntmps8
  go_wp2_with (first
    | (go_at_call 11; refine (grid_may 9 8 1 8 _ (by decide)).mono ?_; rintro e w1 ⟨rfl, hb1⟩)
    | (go_at_call 15; refine (shape_ok 9 8 1 8 1 _ (by decide) (by decide)).mono ?_; rintro e w2 ⟨rfl, hb2⟩))
  all_goals go_ret
  all_goals refine ⟨?_, by first | exact (below_size hb1 hb2).alloc (below_size hb1 hb2).size _ | exact ((below_size hb1 hb2).alloc (below_size hb1 hb2).size _).setCell (by have := (below_size hb1 hb2).size; simpa using this) _⟩
  all_goals first | rfl | simp [tileW, tileH]

theorem got_bd (W H i : Int) (hW : 1 ≤ W ∧ W ≤ 256) (hH : 1 ≤ H ∧ H ≤ 256) (h0 : 0 ≤ i) (h1 : i ≤ (W + 7) / 8 * ((H + 7) / 8)) : -2048 ≤ got W H i ∧ got W H i ≤ 70000 := by
  have q1 : 0 ≤ i / ((W + 7) / 8) := Int.ediv_nonneg h0 (by omega)
  have q2 : i / ((W + 7) / 8) ≤ (H + 7) / 8 := Int.ediv_le_of_le_mul (by omega) (by rw [Int.mul_comm]; exact h1)
  have m1 : 0 ≤ i % ((W + 7) / 8) := Int.emod_nonneg _ (by omega)
  unfold got
  generalize i / ((W + 7) / 8) = y at *
  generalize i % ((W + 7) / 8) = x at *
  have a1 : 0 ≤ min (8 * y) H ∧ min (8 * y) H ≤ 256 := by omega
  have a2 : 0 ≤ min (8 * x) W ∧ min (8 * x) W ≤ 256 := by omega
  have a3 : -8 ≤ min 8 (H - 8 * y) ∧ min 8 (H - 8 * y) ≤ 8 := by omega
  generalize min (8 * y) H = p at *
  generalize min (8 * x) W = q at *
  generalize min 8 (H - 8 * y) = r at *
  have b1 := Int.mul_le_mul hW.2 a1.2 a1.1 (by omega)
  have b2 : 0 ≤ W * p := Int.mul_nonneg (by omega) a1.1
  have b3 := Int.mul_le_mul_of_nonneg_left a3.2 a2.1
  have b4 := Int.mul_le_mul_of_nonneg_left a3.1 a2.1
  omega

theorem tile_bd (W H i : Int) (hW : 1 ≤ W ∧ W ≤ 256) (hH : 1 ≤ H ∧ H ≤ 256) (h0 : 0 ≤ i) (h1 : i < (W + 7) / 8 * ((H + 7) / 8)) :
    (1 ≤ tileW W i ∧ tileW W i ≤ 8) ∧ (1 ≤ tileH W H i ∧ tileH W H i ≤ 8) ∧ (i % ((W + 7) / 8) < (W + 7) / 8 - 1 → tileW W i = 8) ∧ (i / ((W + 7) / 8) < (H + 7) / 8 - 1 → tileH W H i = 8) ∧ 0 ≤ i % ((W + 7) / 8) ∧ (0 ≤ i / ((W + 7) / 8) ∧ i / ((W + 7) / 8) < (H + 7) / 8) ∧ 1 ≤ tileW W i * tileH W H i ∧ tileW W i * tileH W H i ≤ 64 := by
  have m1 : 0 ≤ i % ((W + 7) / 8) := Int.emod_nonneg _ (by omega)
  have m2 : i % ((W + 7) / 8) < (W + 7) / 8 := Int.emod_lt_of_pos _ (by omega)
  have q1 : 0 ≤ i / ((W + 7) / 8) := Int.ediv_nonneg h0 (by omega)
  have q2 : i / ((W + 7) / 8) < (H + 7) / 8 := Int.ediv_lt_of_lt_mul (by omega) (by rw [Int.mul_comm]; exact h1)
  have hw : 1 ≤ tileW W i ∧ tileW W i ≤ 8 := by unfold tileW; omega
  have hh : 1 ≤ tileH W H i ∧ tileH W H i ≤ 8 := by unfold tileH; omega
  have p1 := Int.mul_le_mul hw.1 hh.1 (by omega) (by omega)
  have p2 := Int.mul_le_mul hw.2 hh.2 (by omega) (by omega)
  exact ⟨hw, hh, fun h => by unfold tileW; omega, fun h => by unfold tileH; omega, m1, ⟨q1, q2⟩, by simpa using p1, by simpa using p2⟩

set_option maxHeartbeats 1000000 in
theorem shapes_not (W H C D : Int) (w : World) (hH : -9223372036854775808 ≤ H ∧ H ≤ 9223372036854775807) (hm : mayN W H C D = false) :
    Calls Try.prog 7 #[shp W H C D] w fun e w' => e = .returned (.bool true) ∧ Below w.heap.size w w' := by
  go_enter Try.func7, Try.ntmps7
  go_wp2_with fail
  refine (first_any _).mono ?_; rintro e w1 ⟨rfl, hb1⟩
  have hb1' : Below w.heap.size w w1 := ((Below.refl _ _).alloc (Nat.le_refl _) _).trans (hb1.mono (by simp))
  have hbx := (box_alloc _ _ _ _ _ _).below hb1
  have c0 := hbx.c0; have c1 := hbx.c1; have c2 := hbx.c2; have c3 := hbx.c3
  clear hb1
  go_wp2_with fail
  refine (grid_not W H C D _ hH hm).mono ?_; rintro e w2 ⟨rfl, hb2⟩
  have hb2' := below_size hb1' hb2
  have hbx2 := hbx.below hb2
  clear c0 c1 c2 c3 hbx hb2
  have c0 := hbx2.c0; have c1 := hbx2.c1; have c2 := hbx2.c2; have c3 := hbx2.c3
  go_wp2_with fail
  refine (mayShape_any W H C D _ hH).mono ?_; rintro e w3 ⟨rfl, hb3⟩
  have hb3' := below_size hb2' hb3
  have hbx3 := hbx2.below hb3
  rw [hm]
  clear c0 c1 c2 c3 hbx2 hb3
  have c0 := hbx3.c0; have c1 := hbx3.c1; have c2 := hbx3.c2; have c3 := hbx3.c3
  go_wp2_with fail
  refine (shape_not W H C D _ _ hH hm).mono ?_; rintro e w4 ⟨rfl, hb4⟩
  have hb4' := below_size hb3' hb4
  go_wp2_with fail
  refine (first_any _).mono ?_; rintro e w5 ⟨rfl, hb5⟩
  have hb5' := hb5
  go_wp2
  all_goals go_ret
  all_goals exact ⟨rfl, below_size (hb4'.alloc hb4'.size _) hb5⟩

set_option maxRecDepth 100000 in
set_option maxHeartbeats 2000000 in
theorem shapes_may (W H C D : Int) (w : World) (hm : mayN W H C D = true) :
    Calls Try.prog 7 #[shp W H C D] w fun e w' => e = .returned (.bool true) ∧ Below w.heap.size w w' := by
  have hb := (bnds_of_may hm).1
  have hW1 := hb.1; have hW2 := hb.2.1; have hH1 := hb.2.2.1; have hH2 := hb.2.2.2.1
  have hH : -9223372036854775808 ≤ H ∧ H ≤ 9223372036854775807 := by omega
  obtain ⟨g1, g2, g3, g4⟩ := grid_bd hm
  have hp : 1 ≤ (W + 7) / 8 * ((H + 7) / 8) ∧ (W + 7) / 8 * ((H + 7) / 8) ≤ 1024 := by
    have a := Int.mul_le_mul g1 g3 (by omega) (by omega)
    have b := Int.mul_le_mul g2 g4 (by omega) (by omega)
    omega
  have HM := Lib.hid hm
  clear hb
  go_enter Try.func7, Try.ntmps7
  go_wp2_with fail
  refine (first_any _).mono ?_; rintro e w1 ⟨rfl, hb1⟩
  have hb1' : Below w.heap.size w w1 := ((Below.refl _ _).alloc (Nat.le_refl _) _).trans (hb1.mono (by simp))
  have hbx := (box_alloc _ _ _ _ _ _).below hb1
  have c0 := hbx.c0; have c1 := hbx.c1; have c2 := hbx.c2; have c3 := hbx.c3
  clear hb1
  go_wp2_with fail
  refine (grid_may W H C D _ hm).mono ?_; rintro e w2 ⟨rfl, hb2⟩
  have hb2' := below_size hb1' hb2
  have hbx2 := hbx.below hb2
  clear c0 c1 c2 c3 hbx hb2
  have c0 := hbx2.c0; have c1 := hbx2.c1; have c2 := hbx2.c2; have c3 := hbx2.c3
  go_wp2_with fail
  refine (mayShape_any W H C D _ hH).mono ?_; rintro e w3 ⟨rfl, hb3⟩
  have hb3' := below_size hb2' hb3
  have hbx3 := hbx2.below hb3
  rw [hm]
  clear c0 c1 c2 c3 hbx2 hb3 hm
  have c0 := hbx3.c0; have c1 := hbx3.c1; have c2 := hbx3.c2; have c3 := hbx3.c3
  go_wp2_with fail
  clear c0 c1 c2 c3
  go_loopw [7, 8] (fun n i wr => ∃ k : Nat, (k : Int) ≤ (W + 7) / 8 * ((H + 7) / 8) ∧ i = .int .i64 k ∧ n = .int .i64 (got W H k) ∧ Below w.heap.size w wr ∧ Box wr w.heap.size W H C D) (fun _ i _ => 1024 - (intOf i).toNat)
  case atStart => exact ⟨0, by omega, rfl, by rw [show ((0 : Nat) : Int) = 0 from rfl, got_zero W H hW1 hH1], hb3', hbx3⟩
  case round =>
    obtain ⟨k, hk, rfl, rfl, hbr, hbx⟩ := hrel
    have c0 := hbx.c0; have c1 := hbx.c1; have c2 := hbx.c2; have c3 := hbx.c3
    by_cases hlt : (k : Int) < (W + 7) / 8 * ((H + 7) / 8)
    · obtain ⟨t1, t2, t3, t4, m1, q1, p1, p2⟩ := tile_bd W H k ⟨hW1, hW2⟩ ⟨hH1, hH2⟩ (by omega) hlt
      have gb := got_bd W H k ⟨hW1, hW2⟩ ⟨hH1, hH2⟩ (by omega) hk
      have GS := Lib.hid (got_succ W H k hW1 hH1 (by omega) hlt)
      go_wp2_with fail
      refine (shape_ok W H C D k _ HM.out ⟨by omega, hlt⟩).mono ?_; rintro e w4 ⟨rfl, hb4⟩
      generalize tileW W k = tw at *
      generalize tileH W H k = th at *
      generalize hgk : got W H k = gk at *
      have hb4' := below_size hbr hb4
      have hbx4 := hbx.below hb4
      have hl4 := hbx4.lt
      have T1 : tw = 8 ∨ (tw ≠ 8 ∧ ¬ ((k : Int) % ((W + 7) / 8) < (W + 7) / 8 - 1)) := by omega
      have T2 : th = 8 ∨ (th ≠ 8 ∧ ¬ ((k : Int) / ((W + 7) / 8) < (H + 7) / 8 - 1)) := by omega
      clear t3 t4 c0 c1 c2 c3 hbr hbx hb4 hgk
      have c0 := hbx4.c0; have c1 := hbx4.c1; have c2 := hbx4.c2; have c3 := hbx4.c3
      rcases T1 with rfl | ⟨n1, n2⟩ <;> rcases T2 with rfl | ⟨n3, n4⟩
      all_goals go_wp2
      all_goals try (exfalso; omega)
      all_goals
        first
        | (go_round
           case rel => exact ⟨k + 1, by omega, by go_num, by rw [show ((k + 1 : Nat) : Int) = (k : Int) + 1 by omega, GS.out] <;> simp, hb4'.alloc hb4'.size _, hbx4.below ((Below.refl _ _).alloc (Nat.le_refl _) _)⟩
           case measure => simp [intOf]; omega)
        | trace_state
    · obtain hke : (k : Int) = (W + 7) / 8 * ((H + 7) / 8) := by omega
      have hwh : 1 ≤ W * H ∧ W * H ≤ 65536 := by
        have a := Int.mul_le_mul hW1 hH1 (by omega) (by omega)
        have b := Int.mul_le_mul hW2 hH2 (by omega) (by omega)
        omega
      rw [hke, got_all W H hW1 hH1]
      clear hW1
      go_wp2_with fail
      refine (shape_out W H C D _ _ HM.out (.inr (Int.le_refl _))).mono ?_; rintro e w4 ⟨rfl, hb4⟩
      have hb4' := below_size hbr hb4
      have hbx4 := hbx.below hb4
      have hl4 := hbx4.lt
      clear c0 c1 c2 c3 hbr hbx hb4
      have c0 := hbx4.c0; have c1 := hbx4.c1; have c2 := hbx4.c2; have c3 := hbx4.c3
      go_wp2_with fail
      refine (shape_out W H C D (-1) _ HM.out (.inl (by decide))).mono ?_; rintro e w5 ⟨rfl, hb5⟩
      have hb5' := below_size (hb4'.alloc hb4'.size _) hb5
      have hbx5 := (hbx4.below ((Below.refl _ _).alloc (Nat.le_refl _) _)).below hb5
      have hl5 := hbx5.lt
      clear c0 c1 c2 c3 hb4' hbx4 hb5
      have c0 := hbx5.c0; have c1 := hbx5.c1; have c2 := hbx5.c2; have c3 := hbx5.c3
      go_wp2_with fail
      refine (first_any _).mono ?_; rintro e w6 ⟨rfl, hb6⟩
      have hb6' := below_size (hb5'.alloc hb5'.size _) hb6
      have hbx6 := (hbx5.below ((Below.refl _ _).alloc (Nat.le_refl _) _)).below hb6
      have hl6 := hbx6.lt
      clear c0 c1 c2 c3 hb5' hbx5 hb6
      have c0 := hbx6.c0; have c1 := hbx6.c1; have c2 := hbx6.c2; have c3 := hbx6.c3
      go_wp2
      all_goals go_ret
      all_goals exact ⟨rfl, hb6'⟩

set_option maxRecDepth 100000 in
theorem walk_TileShapes (W H C D : Int) (w : World) (hH : -9223372036854775808 ≤ H ∧ H ≤ 9223372036854775807) :
    Calls Try.prog 7 #[shp W H C D] w fun e w' => e = .returned (.bool true) ∧ Below w.heap.size w w' := by
  by_cases hm : mayN W H C D = true
  · exact shapes_may W H C D w hm
  · exact shapes_not W H C D w hH (by simpa using hm)

end Go.Proofs.Ytdmaoaclhaofbaa
