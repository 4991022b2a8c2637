/-
  tile.Shape of a tile that is there.
-/
import Derived.Test.YtdmaoaclhaofbaaTile
namespace Go.Proofs.Ytdmaoaclhaofbaa
open Go.RowKit

set_option maxHeartbeats 1000000 in
theorem shape_ok (W H C D i : Int) (w : World) (hm : mayN W H C D = true) (hi : 0 ≤ i ∧ i < (W + 7) / 8 * ((H + 7) / 8)) :
    Calls Try.prog 15 #[shp W H C D, .int .i64 i] w fun e w' => e = .returned (.tuple #[shp (tileW W i) (tileH W H i) C D, .int .i64 0]) ∧ Below w.heap.size w w' := by
  have hb := (bnds_of_may hm).1
  have hW1 := hb.1; have hW2 := hb.2.1; have hH1 := hb.2.2.1; have hH2 := hb.2.2.2.1
  have hH : -9223372036854775808 ≤ H ∧ H ≤ 9223372036854775807 := by omega
  obtain ⟨g1, g2, g3, g4⟩ := grid_bd hm
  have hp : 1 ≤ (W + 7) / 8 * ((H + 7) / 8) ∧ (W + 7) / 8 * ((H + 7) / 8) ≤ 1024 := by
    have a := Int.mul_le_mul g1 g3 (by omega) (by omega)
    have b := Int.mul_le_mul g2 g4 (by omega) (by omega)
    omega
  obtain ⟨hi1, hi2⟩ := hi
  have m1 : 0 ≤ i % ((W + 7) / 8) := Int.emod_nonneg _ (by omega)
  have m2 : i % ((W + 7) / 8) < (W + 7) / 8 := Int.emod_lt_of_pos _ (by omega)
  have q1 : 0 ≤ i / ((W + 7) / 8) := Int.ediv_nonneg hi1 (by omega)
  have q2 : i / ((W + 7) / 8) < (H + 7) / 8 := Int.ediv_lt_of_lt_mul (by omega) (by rw [Int.mul_comm]; exact hi2)
  go_enter Try.func15, Try.ntmps15
  go_wp2_with (first
    | (go_at_call 24; refine (mayShape_any W H C D _ hH).mono ?_; rintro e w1 ⟨rfl, hb1⟩; rw [hm];
       have hbx : Box w1 (w.heap.size + 1) 0 0 0 0 := by simpa using (box_alloc _ _ _ _ _ _).below hb1
       have hby : Box w1 w.heap.size W H C D := ((box_alloc w W H C D _).below ((Below.refl _ _).alloc (Nat.le_refl _) _)).below hb1
       have hbel : Below w.heap.size w w1 := (((Below.refl _ _).alloc (Nat.le_refl _) _).alloc (by simp) _).trans (hb1.mono (by simp; omega))
       clear hb1
       have c0 := hbx.c0; have c1 := hbx.c1; have c2 := hbx.c2; have c3 := hbx.c3; have f0 := hbx.f0; have f1 := hbx.f1; have f2 := hbx.f2; have f3 := hbx.f3; have d0 := hby.c0; have d1 := hby.c1; have d2 := hby.c2; have d3 := hby.c3)
    | (go_at_call 11; refine (grid_may W H C D _ hm).mono ?_; rintro e w2 ⟨rfl, hb2⟩
       clear c0 c1 c2 c3 f0 f1 f2 f3 d0 d1 d2 d3
       have hbx2 := hbx.below hb2; have hby2 := hby.below hb2
       have c0 := hbx2.c0; have c1 := hbx2.c1; have c2 := hbx2.c2; have c3 := hbx2.c3; have f0 := hbx2.f0; have f1 := hbx2.f1; have f2 := hbx2.f2; have f3 := hbx2.f3; have d0 := hby2.c0; have d1 := hby2.c1; have d2 := hby2.c2; have d3 := hby2.c3))
  all_goals go_quiet (fail)
  all_goals
    have hbx3 : Box (w2.drewN nq) (w.heap.size + 1) 0 0 0 0 := hbx2.below (below_drewN (Below.refl _ _) nq)
    have hby3 : Box (w2.drewN nq) w.heap.size W H C D := hby2.below (below_drewN (Below.refl _ _) nq)
    have hbe3 := below_drewN (hbel.trans (hb2.mono hbel.size)) nq
    generalize w2.drewN nq = w3 at *
    clear c0 c1 c2 c3 f0 f1 f2 f3 d0 d1 d2 d3
    have c0 := hbx3.c0; have c1 := hbx3.c1; have c2 := hbx3.c2; have c3 := hbx3.c3; have f0 := hbx3.f0; have f1 := hbx3.f1; have f2 := hbx3.f2; have f3 := hbx3.f3; have d0 := hby3.c0; have d1 := hby3.c1; have d2 := hby3.c2; have d3 := hby3.c3
    go_wp2
  all_goals refine bodyPost_ret (results_shp rfl _ _ _ rfl (hbx3.set _ _ _ _)) rfl ?_
  all_goals refine ⟨?_, (((hbe3.setCell (by simp) _).setCell (by simp) _).setCell (by simp) _).setCell (by simp) _⟩
  all_goals (simp [tileW, tileH]; omega)

/-- The pixels of the first i tiles. -/
def got (W H i : Int) : Int := W * min (8 * (i / ((W + 7) / 8))) H + min (8 * (i % ((W + 7) / 8))) W * min 8 (H - 8 * (i / ((W + 7) / 8)))

theorem got_zero (W H : Int) (hW : 1 ≤ W) (hH : 1 ≤ H) : got W H 0 = 0 := by
  unfold got
  have : min 0 H = 0 := by omega
  have h2 : min 0 W = 0 := by omega
  simp [this, h2]

theorem got_succ (W H i : Int) (hW : 1 ≤ W) (hH : 1 ≤ H) (h0 : 0 ≤ i) (h1 : i < (W + 7) / 8 * ((H + 7) / 8)) : got W H (i + 1) = got W H i + tileW W i * tileH W H i := by
  have ha : 1 ≤ (W + 7) / 8 := by omega
  have haw : 8 * ((W + 7) / 8 - 1) < W ∧ W ≤ 8 * ((W + 7) / 8) := by omega
  have m1 : 0 ≤ i % ((W + 7) / 8) := Int.emod_nonneg _ (by omega)
  have m2 : i % ((W + 7) / 8) < (W + 7) / 8 := Int.emod_lt_of_pos _ (by omega)
  have q1 : 0 ≤ i / ((W + 7) / 8) := Int.ediv_nonneg h0 (by omega)
  have q2 : i / ((W + 7) / 8) < (H + 7) / 8 := Int.ediv_lt_of_lt_mul (by omega) (by rw [Int.mul_comm]; exact h1)
  have hd := Int.mul_ediv_add_emod i ((W + 7) / 8)
  unfold got tileW tileH
  generalize (W + 7) / 8 = a at *
  generalize hx : i % a = x at *
  generalize hy : i / a = y at *
  by_cases hl : x + 1 < a
  · have e1 : (i + 1) / a = y := by
      rw [show i + 1 = (x + 1) + a * y by omega, Int.add_mul_ediv_left _ _ (by omega), Int.ediv_eq_zero_of_lt (by omega) (by omega)]; omega
    have e2 : (i + 1) % a = x + 1 := by
      rw [show i + 1 = (x + 1) + a * y by omega, Int.add_mul_emod_self_left, Int.emod_eq_of_lt (by omega) (by omega)]
    rw [e1, e2]
    have t1 : min (8 * (x + 1)) W = min (8 * x) W + min 8 (W - x * 8) := by omega
    have t2 : min 8 (H - 8 * y) = min 8 (H - y * 8) := by omega
    rw [t1, t2, Int.add_mul]; omega
  · have hxa : x = a - 1 := by omega
    have e1 : (i + 1) / a = y + 1 := by
      rw [show i + 1 = 0 + a * (y + 1) by rw [Int.mul_add]; omega, Int.add_mul_ediv_left _ _ (by omega)]; simp
    have e2 : (i + 1) % a = 0 := by
      rw [show i + 1 = 0 + a * (y + 1) by rw [Int.mul_add]; omega, Int.add_mul_emod_self_left]; simp
    rw [e1, e2]
    have t1 : min (8 * x) W + min 8 (W - x * 8) = W := by omega
    have t2 : min 8 (H - 8 * y) = min 8 (H - y * 8) := by omega
    have t3 : min (8 * (y + 1)) H = min (8 * y) H + min 8 (H - y * 8) := by omega
    have t4 : min (8 * (0 : Int)) W = 0 := by omega
    rw [t2, t3, t4, Int.zero_mul, Int.mul_add, Int.add_zero, Int.add_assoc, ← Int.add_mul, t1]

theorem got_all (W H : Int) (hW : 1 ≤ W) (hH : 1 ≤ H) : got W H ((W + 7) / 8 * ((H + 7) / 8)) = W * H := by
  unfold got
  have ha : 1 ≤ (W + 7) / 8 := by omega
  have hb : min (8 * ((H + 7) / 8)) H = H := by omega
  rw [Int.mul_ediv_cancel_left _ (by omega), Int.mul_emod_right, hb]
  have : min (8 * (0 : Int)) W = 0 := by omega
  rw [this]; simp
end Go.Proofs.Ytdmaoaclhaofbaa
