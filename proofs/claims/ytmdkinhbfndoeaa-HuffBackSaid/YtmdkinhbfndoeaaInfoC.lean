/-
  Bytes: their cells, a new list of them.
-/
import Derived.Test.YtmdkinhbfndoeaaChecked
import Derived.Test.YtmdkinhbfndoeaaLib
namespace Go.Proofs.Ytmdkinhbfndoeaa
open Go.RowKit

theorem infoC : (Try.prog.info? 5).map (fun i => (i.zero, i.size, i.bytes)) = some (some (.int .u8 0), 1, 1) := by kernel_rfl

/-- A new list of bytes. -/
def RetS (w : World) (xs : List Int) (e : Ending) (w' : World) : Prop := ∃ a cap, e = .returned (.slice a xs.length cap) ∧ w'.ownsRow w.heap.size 5 1 (.slice a xs.length cap) xs.length (xs.map (Value.int .u8)) ∧ Below w.heap.size w w'
end Go.Proofs.Ytmdkinhbfndoeaa
