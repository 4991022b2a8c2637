/-
  Package tile over shapes: Grid, Shape.
-/
import Derived.Test.YtdmaoaclhaofbaaShape
import Derived.Handy
namespace Go.Proofs.Ytdmaoaclhaofbaa
open Go.RowKit

theorem bnds_of_may {W H C D : Int} (h : mayN W H C D = true) : Bnds W H C D ∧ sizeN W H C D ≤ 16384 := by simpa [mayN] using h

set_option maxHeartbeats 400000 in
theorem grid_may (W H C D : Int) (w : World) (hm : mayN W H C D = true) :
    Calls Try.prog 11 #[shp W H C D] w fun e w' => e = .returned (.tuple #[.int .i64 ((W + 7) / 8), .int .i64 ((H + 7) / 8)]) ∧ Below w.heap.size w w' := by
  have hb := (bnds_of_may hm).1
  have hW1 := hb.1; have hW2 := hb.2.1; have hH1 := hb.2.2.1; have hH2 := hb.2.2.2.1
  have hH : -9223372036854775808 ≤ H ∧ H ≤ 9223372036854775807 := by omega
  go_enter Try.func11, Try.ntmps11
  go_wp2_with (go_at_call 24; refine (mayShape_any W H C D _ hH).mono ?_; rintro e w1 ⟨rfl, hb1⟩; have hbx := (box_alloc _ _ _ _ _ _).below hb1; rw [hm]; have c0 := hbx.c0; have c1 := hbx.c1; have c2 := hbx.c2; have c3 := hbx.c3; clear hb hm)
  go_quiet (fail)
  go_wp2
  go_returns
  exact ⟨by simp; omega, below_drewN (((Below.refl _ _).alloc (Nat.le_refl _) _).trans (hb1.mono (by simp))) _⟩

set_option maxHeartbeats 400000 in
theorem grid_not (W H C D : Int) (w : World) (hH : -9223372036854775808 ≤ H ∧ H ≤ 9223372036854775807) (hm : mayN W H C D = false) :
    Calls Try.prog 11 #[shp W H C D] w fun e w' => e = .returned (.tuple #[.int .i64 0, .int .i64 0]) ∧ Below w.heap.size w w' := by
  go_enter Try.func11, Try.ntmps11
  go_wp2_with (go_at_call 24; refine (mayShape_any W H C D _ hH).mono ?_; rintro e w1 ⟨rfl, hb1⟩; rw [hm]; clear hm)
  all_goals go_returns
  all_goals exact ⟨rfl, ((Below.refl _ _).alloc (Nat.le_refl _) _).trans (hb1.mono (by simp))⟩

/-- The i-th tile's sides. -/
def tileW (W i : Int) : Int := min 8 (W - i % ((W + 7) / 8) * 8)
def tileH (W H i : Int) : Int := min 8 (H - i / ((W + 7) / 8) * 8)

set_option maxHeartbeats 400000 in
theorem shape_not (W H C D i : Int) (w : World) (hH : -9223372036854775808 ≤ H ∧ H ≤ 9223372036854775807) (hm : mayN W H C D = false) :
    Calls Try.prog 15 #[shp W H C D, .int .i64 i] w fun e w' => e = .returned (.tuple #[shp 0 0 0 0, .int .i64 4]) ∧ Below w.heap.size w w' := by
  go_enter Try.func15, Try.ntmps15
  go_wp2_with (first
    | (go_at_call 24; refine (mayShape_any W H C D _ hH).mono ?_; rintro e w1 ⟨rfl, hb1⟩; rw [hm];
       have hbx : Box w1 (w.heap.size + 1) 0 0 0 0 := by simpa using (box_alloc _ _ _ _ _ _).below hb1
       have hby : Box w1 w.heap.size W H C D := ((box_alloc w W H C D _).below ((Below.refl _ _).alloc (Nat.le_refl _) _)).below hb1
       have hbel : Below w.heap.size w w1 := (((Below.refl _ _).alloc (Nat.le_refl _) _).alloc (by simp) _).trans (hb1.mono (by simp; omega))
       clear hb1
       have c0 := hbx.c0; have c1 := hbx.c1; have c2 := hbx.c2; have c3 := hbx.c3; have f0 := hbx.f0; have f1 := hbx.f1; have f2 := hbx.f2; have f3 := hbx.f3; have d0 := hby.c0; have d1 := hby.c1; have d2 := hby.c2; have d3 := hby.c3)
    | (go_at_call 11; refine (grid_may W H C D _ hm).mono ?_; rintro e w2 ⟨rfl, hb2⟩
       clear c0 c1 c2 c3 f0 f1 f2 f3 d0 d1 d2 d3
       have hbx2 := hbx.below hb2; have hby2 := hby.below hb2
       have c0 := hbx2.c0; have c1 := hbx2.c1; have c2 := hbx2.c2; have c3 := hbx2.c3; have f0 := hbx2.f0; have f1 := hbx2.f1; have f2 := hbx2.f2; have f3 := hbx2.f3; have d0 := hby2.c0; have d1 := hby2.c1; have d2 := hby2.c2; have d3 := hby2.c3))
  all_goals refine bodyPost_ret (results_shp rfl _ _ _ rfl (hbx.set 0 0 0 0)) rfl ?_
  exact ⟨rfl, (((hbel.setCell (by simp) _).setCell (by simp) _).setCell (by simp) _).setCell (by simp) _⟩

theorem grid_bd {W H C D : Int} (hm : mayN W H C D = true) : 1 ≤ (W + 7) / 8 ∧ (W + 7) / 8 ≤ 32 ∧ 1 ≤ (H + 7) / 8 ∧ (H + 7) / 8 ≤ 32 := by
  have hb := (bnds_of_may hm).1
  have hW1 := hb.1; have hW2 := hb.2.1; have hH1 := hb.2.2.1; have hH2 := hb.2.2.2.1
  omega

set_option maxHeartbeats 400000 in
theorem shape_out (W H C D i : Int) (w : World) (hm : mayN W H C D = true) (hi : i < 0 ∨ (W + 7) / 8 * ((H + 7) / 8) ≤ i) :
    Calls Try.prog 15 #[shp W H C D, .int .i64 i] w fun e w' => e = .returned (.tuple #[shp 0 0 0 0, .int .i64 1]) ∧ Below w.heap.size w w' := by
  have hb := (bnds_of_may hm).1
  have hW1 := hb.1; have hW2 := hb.2.1; have hH1 := hb.2.2.1; have hH2 := hb.2.2.2.1
  have hH : -9223372036854775808 ≤ H ∧ H ≤ 9223372036854775807 := by omega
  obtain ⟨g1, g2, g3, g4⟩ := grid_bd hm
  have hp : 1 ≤ (W + 7) / 8 * ((H + 7) / 8) ∧ (W + 7) / 8 * ((H + 7) / 8) ≤ 1024 := by
    have a := Int.mul_le_mul g1 g3 (by omega) (by omega)
    have b := Int.mul_le_mul g2 g4 (by omega) (by omega)
    omega
  by_cases hi0 : i < 0
  · go_enter Try.func15, Try.ntmps15
    go_wp2_with (first
      | (go_at_call 24; refine (mayShape_any W H C D _ hH).mono ?_; rintro e w1 ⟨rfl, hb1⟩; rw [hm];
         have hbx : Box w1 (w.heap.size + 1) 0 0 0 0 := by simpa using (box_alloc _ _ _ _ _ _).below hb1
         have hby : Box w1 w.heap.size W H C D := ((box_alloc w W H C D _).below ((Below.refl _ _).alloc (Nat.le_refl _) _)).below hb1
         have hbel : Below w.heap.size w w1 := (((Below.refl _ _).alloc (Nat.le_refl _) _).alloc (by simp) _).trans (hb1.mono (by simp; omega))
         clear hb1
         have c0 := hbx.c0; have c1 := hbx.c1; have c2 := hbx.c2; have c3 := hbx.c3; have f0 := hbx.f0; have f1 := hbx.f1; have f2 := hbx.f2; have f3 := hbx.f3; have d0 := hby.c0; have d1 := hby.c1; have d2 := hby.c2; have d3 := hby.c3)
      | (go_at_call 11; refine (grid_may W H C D _ hm).mono ?_; rintro e w2 ⟨rfl, hb2⟩
         clear c0 c1 c2 c3 f0 f1 f2 f3 d0 d1 d2 d3
         have hbx2 := hbx.below hb2; have hby2 := hby.below hb2
         have c0 := hbx2.c0; have c1 := hbx2.c1; have c2 := hbx2.c2; have c3 := hbx2.c3; have f0 := hbx2.f0; have f1 := hbx2.f1; have f2 := hbx2.f2; have f3 := hbx2.f3; have d0 := hby2.c0; have d1 := hby2.c1; have d2 := hby2.c2; have d3 := hby2.c3))
    all_goals refine bodyPost_ret (results_shp rfl _ _ _ rfl (hbx2.set 0 0 0 0)) rfl ?_
    all_goals exact ⟨rfl, ((((hbel.trans (hb2.mono hbel.size)).setCell (by simp) _).setCell (by simp) _).setCell (by simp) _).setCell (by simp) _⟩
  · go_enter Try.func15, Try.ntmps15
    go_wp2_with (first
      | (go_at_call 24; refine (mayShape_any W H C D _ hH).mono ?_; rintro e w1 ⟨rfl, hb1⟩; rw [hm];
         have hbx : Box w1 (w.heap.size + 1) 0 0 0 0 := by simpa using (box_alloc _ _ _ _ _ _).below hb1
         have hby : Box w1 w.heap.size W H C D := ((box_alloc w W H C D _).below ((Below.refl _ _).alloc (Nat.le_refl _) _)).below hb1
         have hbel : Below w.heap.size w w1 := (((Below.refl _ _).alloc (Nat.le_refl _) _).alloc (by simp) _).trans (hb1.mono (by simp; omega))
         clear hb1
         have c0 := hbx.c0; have c1 := hbx.c1; have c2 := hbx.c2; have c3 := hbx.c3; have f0 := hbx.f0; have f1 := hbx.f1; have f2 := hbx.f2; have f3 := hbx.f3; have d0 := hby.c0; have d1 := hby.c1; have d2 := hby.c2; have d3 := hby.c3)
      | (go_at_call 11; refine (grid_may W H C D _ hm).mono ?_; rintro e w2 ⟨rfl, hb2⟩
         clear c0 c1 c2 c3 f0 f1 f2 f3 d0 d1 d2 d3
         have hbx2 := hbx.below hb2; have hby2 := hby.below hb2
         have c0 := hbx2.c0; have c1 := hbx2.c1; have c2 := hbx2.c2; have c3 := hbx2.c3; have f0 := hbx2.f0; have f1 := hbx2.f1; have f2 := hbx2.f2; have f3 := hbx2.f3; have d0 := hby2.c0; have d1 := hby2.c1; have d2 := hby2.c2; have d3 := hby2.c3))
    all_goals refine bodyPost_ret (results_shp rfl _ _ _ rfl (hbx2.set 0 0 0 0)) rfl ?_
    all_goals exact ⟨rfl, ((((hbel.trans (hb2.mono hbel.size)).setCell (by simp) _).setCell (by simp) _).setCell (by simp) _).setCell (by simp) _⟩

end Go.Proofs.Ytdmaoaclhaofbaa
