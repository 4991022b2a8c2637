/-
  tile.Grid.
-/
import Derived.Test.YtbmbelnjgnahhaaShape
import Derived.Handy
namespace Go.Proofs.Ytbmbelnjgnahhaa
open Go.RowKit

theorem bnds_of_may {W H C D : Int} (h : mayN W H C D = true) : Bnds W H C D ∧ sizeN W H C D ≤ 16384 := by simpa [mayN] using h

set_option maxHeartbeats 400000 in
theorem grid_may (W H C D : Int) (w : World) (hm : mayN W H C D = true) :
    Calls Try.prog 58 #[shp W H C D] w fun e w' => e = .returned (.tuple #[.int .i64 ((W + 7) / 8), .int .i64 ((H + 7) / 8)]) ∧ Below w.heap.size w w' := by
  have hb := (bnds_of_may hm).1
  have hW1 := hb.1; have hW2 := hb.2.1; have hH1 := hb.2.2.1; have hH2 := hb.2.2.2.1
  have hH : -9223372036854775808 ≤ H ∧ H ≤ 9223372036854775807 := by omega
  go_enter Try.func58, Try.ntmps58
  go_wp2_with (go_at_call 61; refine (mayShape_any W H C D _ hH).mono ?_; rintro e w1 ⟨rfl, hb1⟩; have hbx := (box_alloc _ _ _ _ _ _).below hb1; rw [hm]; have c0 := hbx.c0; have c1 := hbx.c1; have c2 := hbx.c2; have c3 := hbx.c3; clear hb hm)
  go_quiet (fail)
  go_wp2
  go_returns
  exact ⟨by simp; omega, below_drewN (((Below.refl _ _).alloc (Nat.le_refl _) _).trans (hb1.mono (by simp))) _⟩

set_option maxHeartbeats 400000 in
theorem grid_not (W H C D : Int) (w : World) (hH : -9223372036854775808 ≤ H ∧ H ≤ 9223372036854775807) (hm : mayN W H C D = false) :
    Calls Try.prog 58 #[shp W H C D] w fun e w' => e = .returned (.tuple #[.int .i64 0, .int .i64 0]) ∧ Below w.heap.size w w' := by
  go_enter Try.func58, Try.ntmps58
  go_wp2_with (go_at_call 61; refine (mayShape_any W H C D _ hH).mono ?_; rintro e w1 ⟨rfl, hb1⟩; rw [hm]; clear hm)
  all_goals go_returns
  all_goals exact ⟨rfl, ((Below.refl _ _).alloc (Nat.le_refl _) _).trans (hb1.mono (by simp))⟩

/-- The i-th tile's sides. -/
theorem grid_bd {W H C D : Int} (hm : mayN W H C D = true) : 1 ≤ (W + 7) / 8 ∧ (W + 7) / 8 ≤ 32 ∧ 1 ≤ (H + 7) / 8 ∧ (H + 7) / 8 ≤ 32 := by
  have hb := (bnds_of_may hm).1
  have hW1 := hb.1; have hW2 := hb.2.1; have hH1 := hb.2.2.1; have hH2 := hb.2.2.2.1
  omega
end Go.Proofs.Ytbmbelnjgnahhaa
