/-
  aquref.Rasters of two lists that have nothing.
-/
import Derived.Test.YtdmaoaclhaofbaaTileRasters
namespace Go.Proofs.Ytdmaoaclhaofbaa
open Go.RowKit

theorem rasters_nil (w : World) :
    Calls Try.prog 17 #[.slice Option.none 0 0, .slice Option.none 0 0] w fun e w' => e = .returned (.bool true) ∧ Below w.heap.size w w' := by
  go_enter Try.func17, Try.ntmps17
  go_wp2_with fail
  go_loopw [5] (fun vi wr => vi = .int .i64 0 ∧ wr = w) (fun _ _ => 0)
  case atStart => exact ⟨rfl, rfl⟩
  case round =>
    obtain ⟨rfl, rfl⟩ := hrel
    go_wp2_with fail
    go_ret
    exact ⟨rfl, Below.refl _ _⟩
end Go.Proofs.Ytdmaoaclhaofbaa
