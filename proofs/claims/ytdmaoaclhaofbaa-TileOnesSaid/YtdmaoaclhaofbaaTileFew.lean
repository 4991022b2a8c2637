/-
  The chapter's first (as XTileWalkShapes has it; that text and XTileRow both name a lemma tile_bd) and aqulaw9.Few, beside all that TileCuts calls.
-/
import Derived.Test.YtdmaoaclhaofbaaTileRefCut
import Derived.Test.YtdmaoaclhaofbaaTileCutNo
import Derived.Test.YtdmaoaclhaofbaaRasCopy
import Derived.Test.YtdmaoaclhaofbaaAquref
namespace Go.Proofs.Ytdmaoaclhaofbaa
open Go.RowKit

set_option maxHeartbeats 400000 in
theorem first_any (w : World) :
    Calls Try.prog 8 #[] w fun e w' => e = .returned (.bool true) ∧ Below w.heap.size w w' := by
  go_enter Try.func8, Try.ntmps8
  go_wp2_with (first
    | (go_at_call 11; refine (grid_may 9 8 1 8 _ (by decide)).mono ?_; rintro e w1 ⟨rfl, hb1⟩)
    | (go_at_call 15; refine (shape_ok 9 8 1 8 1 _ (by decide) (by decide)).mono ?_; rintro e w2 ⟨rfl, hb2⟩))
  all_goals go_ret
  all_goals refine ⟨?_, by first | exact (below_size hb1 hb2).alloc (below_size hb1 hb2).size _ | exact ((below_size hb1 hb2).alloc (below_size hb1 hb2).size _).setCell (by have := (below_size hb1 hb2).size; simpa using this) _⟩
  all_goals first | rfl | simp [tileW, tileH]

theorem few_any (W H C D : Int) (a : Option Addr) (n cap : Nat) (w : World) :
    Calls Try.prog 9 #[ras W H C D a n cap] w fun e w' => e = .returned (.bool (decide (n ≤ 20000))) ∧ Below w.heap.size w w' := by
  by_cases h : n ≤ 20000
  all_goals
    go_enter Try.func9, Try.ntmps9
    go_wp2
    go_ret
    refine ⟨ret_bool ?_, (Below.refl _ _).alloc (Nat.le_refl _) _⟩
    simp <;> omega
end Go.Proofs.Ytdmaoaclhaofbaa
