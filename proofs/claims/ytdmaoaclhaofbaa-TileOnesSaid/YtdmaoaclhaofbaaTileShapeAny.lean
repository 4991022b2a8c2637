/-
  tile.Shape and aquref9.TileShape, and both Grids, for whatever shape and place: one answer.
-/
import Derived.Test.YtdmaoaclhaofbaaTileFew
namespace Go.Proofs.Ytdmaoaclhaofbaa
open Go.RowKit

/-- What Shape answers. -/
def shA (W H C D i : Int) : (Int × Int × Int × Int) × Int := if mayN W H C D = true then (if 0 ≤ i ∧ i < (W + 7) / 8 * ((H + 7) / 8) then ((tileW W i, tileH W H i, C, D), 0) else ((0, 0, 0, 0), 1)) else ((0, 0, 0, 0), 4)
theorem shape_any (W H C D i : Int) (w : World) (hH : -9223372036854775808 ≤ H ∧ H ≤ 9223372036854775807) :
    Calls Try.prog 15 #[shp W H C D, .int .i64 i] w fun e w' => e = .returned (.tuple #[shp (shA W H C D i).1.1 (shA W H C D i).1.2.1 (shA W H C D i).1.2.2.1 (shA W H C D i).1.2.2.2, .int .i64 (shA W H C D i).2]) ∧ Below w.heap.size w w' := by
  by_cases hm : mayN W H C D = true
  · by_cases hi : 0 ≤ i ∧ i < (W + 7) / 8 * ((H + 7) / 8)
    · rw [shA, if_pos hm, if_pos hi]; exact shape_ok W H C D i w hm hi
    · rw [shA, if_pos hm, if_neg hi]; exact shape_out W H C D i w hm (by omega)
  · rw [shA, if_neg hm]; exact shape_not W H C D i w hH (by simpa using hm)
theorem rshape_any (W H C D i : Int) (w : World) (hH : -9223372036854775808 ≤ H ∧ H ≤ 9223372036854775807) :
    Calls Try.prog 16 #[shp W H C D, .int .i64 i] w fun e w' => e = .returned (.tuple #[shp (shA W H C D i).1.1 (shA W H C D i).1.2.1 (shA W H C D i).1.2.2.1 (shA W H C D i).1.2.2.2, .int .i64 (shA W H C D i).2]) ∧ Below w.heap.size w w' := by
  by_cases hm : mayN W H C D = true
  · by_cases hi : 0 ≤ i ∧ i < (W + 7) / 8 * ((H + 7) / 8)
    · rw [shA, if_pos hm, if_pos hi]
      obtain ⟨k, rfl⟩ := Int.eq_ofNat_of_zero_le hi.1
      exact rshape_ok W H C D k w hm (by have := (tN_bd (bnds_of_may hm).1).2.2.1; omega)
    · rw [shA, if_pos hm, if_neg hi]; exact rshape_out W H C D i w hm (by omega)
  · rw [shA, if_neg hm]; exact rshape_not W H C D i w hH (by simpa using hm)

/-- What Grid answers. -/
def grA (W H C D : Int) : Int × Int := if mayN W H C D = true then ((W + 7) / 8, (H + 7) / 8) else (0, 0)
theorem grid_any (W H C D : Int) (w : World) (hH : -9223372036854775808 ≤ H ∧ H ≤ 9223372036854775807) :
    Calls Try.prog 11 #[shp W H C D] w fun e w' => e = .returned (.tuple #[.int .i64 (grA W H C D).1, .int .i64 (grA W H C D).2]) ∧ Below w.heap.size w w' := by
  by_cases hm : mayN W H C D = true
  · rw [grA, if_pos hm]; exact grid_may W H C D w hm
  · rw [grA, if_neg hm]; exact grid_not W H C D w hH (by simpa using hm)
theorem rgrid_any (W H C D : Int) (w : World) (hH : -9223372036854775808 ≤ H ∧ H ≤ 9223372036854775807) :
    Calls Try.prog 12 #[shp W H C D] w fun e w' => e = .returned (.tuple #[.int .i64 (grA W H C D).1, .int .i64 (grA W H C D).2]) ∧ Below w.heap.size w w' := by
  by_cases hm : mayN W H C D = true
  · rw [grA, if_pos hm]; exact rgrid_may W H C D w hm
  · rw [grA, if_neg hm]; exact rgrid_not W H C D w hH (by simpa using hm)
end Go.Proofs.Ytdmaoaclhaofbaa
