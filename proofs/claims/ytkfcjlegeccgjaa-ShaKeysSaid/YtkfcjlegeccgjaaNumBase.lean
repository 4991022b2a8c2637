/-
  The byte's type.
-/
import Derived.Test.YtkfcjlegeccgjaaChecked
import Derived.Test.YtkfcjlegeccgjaaLib
namespace Go.Proofs.Ytkfcjlegeccgjaa
open Go.RowKit

theorem infoB : (Try.prog.info? 5).map (fun i => (i.zero, i.size, i.bytes)) = some (some (.int .u8 0), 1, 1) := by kernel_rfl
end Go.Proofs.Ytkfcjlegeccgjaa
