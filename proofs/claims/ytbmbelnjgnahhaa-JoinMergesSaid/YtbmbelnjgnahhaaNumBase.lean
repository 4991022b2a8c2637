/-
  The byte's type.
-/
import Derived.Test.YtbmbelnjgnahhaaChecked
import Derived.Test.YtbmbelnjgnahhaaLib
namespace Go.Proofs.Ytbmbelnjgnahhaa
open Go.RowKit

theorem infoB : (Try.prog.info? 5).map (fun i => (i.zero, i.size, i.bytes)) = some (some (.int .u8 0), 1, 1) := by kernel_rfl
end Go.Proofs.Ytbmbelnjgnahhaa
