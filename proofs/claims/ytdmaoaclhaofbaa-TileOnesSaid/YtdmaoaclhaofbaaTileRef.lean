/-
  aquref9.TileShape.
-/
import Derived.Test.YtdmaoaclhaofbaaShapeRef
import Derived.Test.YtdmaoaclhaofbaaTileRow
import Derived.Test.YtdmaoaclhaofbaaTiles
import Derived.Deep.RegionHeld3
namespace Go.Proofs.Ytdmaoaclhaofbaa
open Go.RowKit

set_option maxHeartbeats 1000000 in
theorem rshape_not (W H C D i : Int) (w : World) (hH : -9223372036854775808 ≤ H ∧ H ≤ 9223372036854775807) (hm : mayN W H C D = false) :
    Calls Try.prog 16 #[shp W H C D, .int .i64 i] w fun e w' => e = .returned (.tuple #[shp 0 0 0 0, .int .i64 4]) ∧ Below w.heap.size w w' := by
  have hb0 := (box_alloc w W H C D 23).below ((Below.refl _ _).alloc (Nat.le_refl _) (.cells #[.int .i64 0, .int .i64 0, .int .i64 0, .int .i64 0] 23))
  have hz0 := box_alloc (w.alloc (.cells #[.int .i64 W, .int .i64 H, .int .i64 C, .int .i64 D] 23)) 0 0 0 0 23
  rw [World.size_alloc] at hz0
  have hbl : Below w.heap.size w ((w.alloc (.cells #[.int .i64 W, .int .i64 H, .int .i64 C, .int .i64 D] 23)).alloc (.cells #[.int .i64 0, .int .i64 0, .int .i64 0, .int .i64 0] 23)) := ((Below.refl _ _).alloc (Nat.le_refl _) _).alloc (by simp) _
  have HB := Lib.hid hb0; have HZ := Lib.hid hz0; have HL := Lib.hid hbl
  have HG := Lib.hid (fun w' => rgrid_not W H C D w' hH hm)
  have c0 := hb0.c0; have c1 := hb0.c1; have c2 := hb0.c2; have c3 := hb0.c3
  clear hb0 hz0 hbl hm
  go_enter Try.func16, Try.ntmps16
  go_wp2_with fail
  refine (HG.out _).mono ?_; rintro e w1 ⟨rfl, bb⟩
  clear c0 c1 c2 c3
  replace HZ := Lib.hid (HZ.out.below bb)
  replace HL := Lib.hid (below_size HL.out bb)
  clear bb
  have d0 := HZ.out.c0; have d1 := HZ.out.c1; have d2 := HZ.out.c2; have d3 := HZ.out.c3; have f0 := HZ.out.f0; have f1 := HZ.out.f1; have f2 := HZ.out.f2; have f3 := HZ.out.f3
  go_wp2_with fail
  refine bodyPost_ret (results_shp rfl _ _ _ rfl (HZ.out.set 0 0 0 0)) rfl ?_
  exact ⟨rfl, (((HL.out.setCell (by simp) _).setCell (by simp) _).setCell (by simp) _).setCell (by simp) _⟩

set_option maxHeartbeats 1000000 in
theorem rshape_out (W H C D i : Int) (w : World) (hm : mayN W H C D = true) (hi : i < 0 ∨ (W + 7) / 8 * ((H + 7) / 8) ≤ i) :
    Calls Try.prog 16 #[shp W H C D, .int .i64 i] w fun e w' => e = .returned (.tuple #[shp 0 0 0 0, .int .i64 1]) ∧ Below w.heap.size w w' := by
  obtain ⟨a1, a2, a3, a4, a5⟩ := tN_bd (bnds_of_may hm).1
  have hb0 := (box_alloc w W H C D 23).below ((Below.refl _ _).alloc (Nat.le_refl _) (.cells #[.int .i64 0, .int .i64 0, .int .i64 0, .int .i64 0] 23))
  have hz0 := box_alloc (w.alloc (.cells #[.int .i64 W, .int .i64 H, .int .i64 C, .int .i64 D] 23)) 0 0 0 0 23
  rw [World.size_alloc] at hz0
  have hbl : Below w.heap.size w ((w.alloc (.cells #[.int .i64 W, .int .i64 H, .int .i64 C, .int .i64 D] 23)).alloc (.cells #[.int .i64 0, .int .i64 0, .int .i64 0, .int .i64 0] 23)) := ((Below.refl _ _).alloc (Nat.le_refl _) _).alloc (by simp) _
  have HB := Lib.hid hb0; have HZ := Lib.hid hz0; have HL := Lib.hid hbl
  have cg := fun w' => rgrid_may W H C D w' hm
  rw [← a1, ← a2] at cg
  have HG := Lib.hid cg
  have q1 : IntKind.i64.wrap ((tA W : Int) * (tA H : Int)) = (tN W H : Nat) := by rw [← Int.natCast_mul]; exact Go.IntWalk.i64_in _ (by have : tA W * tA H = tN W H := rfl; rw [this]; omega)
  have z1 : ((tA W : Int) == 0) = false := by
    have : 1 ≤ tA W := by
      rcases Nat.eq_zero_or_pos (tA W) with e | e
      · unfold tN at a4; rw [e] at a4; simp at a4
      · exact e
    simp; omega
  rw [← a3] at hi
  generalize tN W H = N at *
  have c0 := hb0.c0; have c1 := hb0.c1; have c2 := hb0.c2; have c3 := hb0.c3
  clear hb0 hz0 hbl hm cg a1 a2 a3
  rcases hi with hi | hi
  all_goals
    go_enter Try.func16, Try.ntmps16
    go_wp2_with fail
    refine (HG.out _).mono ?_; rintro e w1 ⟨rfl, bb⟩
    clear c0 c1 c2 c3
    replace HZ := Lib.hid (HZ.out.below bb)
    replace HL := Lib.hid (below_size HL.out bb)
    clear bb
    have d0 := HZ.out.c0; have d1 := HZ.out.c1; have d2 := HZ.out.c2; have d3 := HZ.out.c3; have f0 := HZ.out.f0; have f1 := HZ.out.f1; have f2 := HZ.out.f2; have f3 := HZ.out.f3
    go_wp2_with fail
  all_goals refine bodyPost_ret (results_shp rfl _ _ _ rfl (HZ.out.set 0 0 0 0)) rfl ?_
  all_goals exact ⟨rfl, (((HL.out.setCell (by simp) _).setCell (by simp) _).setCell (by simp) _).setCell (by simp) _⟩
end Go.Proofs.Ytdmaoaclhaofbaa
