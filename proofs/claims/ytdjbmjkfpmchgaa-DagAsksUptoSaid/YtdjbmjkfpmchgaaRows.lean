/-
  No cell of these rows narrows 'for every input' (looked for: loops, veiled, ifaces, maps, wideKeys, modest, calm, conditions, laid).
  DERIVED. THE GIVEN ROWS OF THIS SEAT. 4 by the template 'for every input the law returns true; each argument reads behind the call as it read before'; 0 by the template 'total and deterministic' (their statements: YtdjbmjkfpmchgaaTotals.lean).
  GIVEN WITH THE SEED: the statements are not yours to turn. If you find one false, say at which input.
  Laid BY PROGRAM, IN A SANDBOX (cutbox-rows.mjs): the forced cells as the released guide's own fill.sh prints them over the translation ee6870c5d877b1cc… (all of the seat's roots in one cut). By AI agents, Wed Nov 11 2026. No macro, syntax, notation, axiom, sorry.
-/
import Derived.Test.YtdjbmjkfpmchgaaChecked
import GoSem.Claim
import GoSem.ClaimJoined
import GoSem.ClaimMapViews
import Derived.JoinedTies
import Derived.KernelRfl
namespace Go.Proofs.Ytdjbmjkfpmchgaa
/- THE CELL 'sum', in the pinned program and in every row, IS THE sha256 OF THE DUMP (.gsa) THAT YtdjbmjkfpmchgaaProg.lean LOADS. Nothing in Lean hashes anything: it is a label: what it is worth is what the hold of that sum in a sandbox is worth. -/
noncomputable def Try.pinned : Pinned := { name := "ytdjbmjkfpmchgaa", sum := "ee6870c5d877b1cc3614531642939fb31da89e566870fcb9b5a79a48b733af93", checked := Try.checked }
namespace Rows
def none {H : Type} : Left H := { results := [], args := [] }

/-- 'aqulaw22.DagAsks': WHATEVER THE INPUT: true; the input reads as it did. -/
def dagAsksSpec : ChangeSpec := { name := "dagAsks", fn := fun _ => fun
  | [d1, d2, d3] => { results := [.lit (.bool true)], args := [d1, d2, d3] }
  | _ => none }
def dagAsksRow : OpenClaim := { program := "ytdjbmjkfpmchgaa", sum := "ee6870c5d877b1cc3614531642939fb31da89e566870fcb9b5a79a48b733af93", func := "aquatint/aqulaw22.DagAsks", spec := "dagAsks", unfollowed := true, recurses := true, apart := false }
def DagAsksSaid : Prop := dagAsksRow.holds Try.pinned (OpenSpec.ofChange dagAsksSpec)

/-- ITS FALSE NEIGHBOUR: 'it returns false'. Refute it at one input. -/
def dagAsksWrong : ChangeSpec := { name := "dagAsks", fn := fun _ => fun
  | [d1, d2, d3] => { results := [.lit (.bool false)], args := [d1, d2, d3] }
  | _ => none }
def DagAsksWrongFalsely : Prop := dagAsksRow.holds Try.pinned (OpenSpec.ofChange dagAsksWrong)

/-- 'aqulaw22.DagBases': WHATEVER THE INPUT: true; the input reads as it did. -/
def dagBasesSpec : ChangeSpec := { name := "dagBases", fn := fun _ => fun
  | [d1, d2, d3] => { results := [.lit (.bool true)], args := [d1, d2, d3] }
  | _ => none }
def dagBasesRow : OpenClaim := { program := "ytdjbmjkfpmchgaa", sum := "ee6870c5d877b1cc3614531642939fb31da89e566870fcb9b5a79a48b733af93", func := "aquatint/aqulaw22.DagBases", spec := "dagBases", recurses := true, apart := false }
def DagBasesSaid : Prop := dagBasesRow.holds Try.pinned (OpenSpec.ofChange dagBasesSpec)

/-- ITS FALSE NEIGHBOUR: 'it returns false'. Refute it at one input. -/
def dagBasesWrong : ChangeSpec := { name := "dagBases", fn := fun _ => fun
  | [d1, d2, d3] => { results := [.lit (.bool false)], args := [d1, d2, d3] }
  | _ => none }
def DagBasesWrongFalsely : Prop := dagBasesRow.holds Try.pinned (OpenSpec.ofChange dagBasesWrong)

/-- 'aqulaw22.DagLogs': WHATEVER THE INPUT: true; the input reads as it did. -/
def dagLogsSpec : ChangeSpec := { name := "dagLogs", fn := fun _ => fun
  | [d1, d2, d3] => { results := [.lit (.bool true)], args := [d1, d2, d3] }
  | _ => none }
def dagLogsRow : OpenClaim := { program := "ytdjbmjkfpmchgaa", sum := "ee6870c5d877b1cc3614531642939fb31da89e566870fcb9b5a79a48b733af93", func := "aquatint/aqulaw22.DagLogs", spec := "dagLogs", unfollowed := true, recurses := true, apart := false }
def DagLogsSaid : Prop := dagLogsRow.holds Try.pinned (OpenSpec.ofChange dagLogsSpec)

/-- ITS FALSE NEIGHBOUR: 'it returns false'. Refute it at one input. -/
def dagLogsWrong : ChangeSpec := { name := "dagLogs", fn := fun _ => fun
  | [d1, d2, d3] => { results := [.lit (.bool false)], args := [d1, d2, d3] }
  | _ => none }
def DagLogsWrongFalsely : Prop := dagLogsRow.holds Try.pinned (OpenSpec.ofChange dagLogsWrong)

/-- 'aqulaw22.DagMore': WHATEVER THE INPUT: true; the input reads as it did. -/
def dagMoreSpec : ChangeSpec := { name := "dagMore", fn := fun _ => fun
  | [d1, d2, d3, d4] => { results := [.lit (.bool true)], args := [d1, d2, d3, d4] }
  | _ => none }
def dagMoreRow : OpenClaim := { program := "ytdjbmjkfpmchgaa", sum := "ee6870c5d877b1cc3614531642939fb31da89e566870fcb9b5a79a48b733af93", func := "aquatint/aqulaw22.DagMore", spec := "dagMore", unfollowed := true, recurses := true, apart := false }
def DagMoreSaid : Prop := dagMoreRow.holds Try.pinned (OpenSpec.ofChange dagMoreSpec)

/-- ITS FALSE NEIGHBOUR: 'it returns false'. Refute it at one input. -/
def dagMoreWrong : ChangeSpec := { name := "dagMore", fn := fun _ => fun
  | [d1, d2, d3, d4] => { results := [.lit (.bool false)], args := [d1, d2, d3, d4] }
  | _ => none }
def DagMoreWrongFalsely : Prop := dagMoreRow.holds Try.pinned (OpenSpec.ofChange dagMoreWrong)

/- THE SECOND FORM. 'bulk': how many values and letters a reading holds, each counted each time it is reached (what is shared counts as often as it is met; a slice's spare places count too). A statement '..UptoSaid' is the law's where the arguments, and the package variables that the reading takes, are together of bulk at most 1048576: NARROWER than '..Said'. Prove '..Said' where nothing that the law and all that it calls make is longer than what came in: it says more and counts as full. Else prove '..UptoSaid'. A law counts once. -/
mutual
def uptoBulk {H : Type} : DataW H → Nat
  | .lit (.string bytes) => bytes.length + 1
  | .lit _ => 1
  | .nil => 1
  | .ptr d => uptoBulk d + 1
  | .slice elems spare => uptoBulkAll elems + uptoBulkAll spare + 1
  | .agg parts => uptoBulkAll parts + 1
  | .iface _ d => uptoBulk d + 1
  | .map entries => uptoBulkEntries entries + 1
  | .held _ => 1
def uptoBulkAll {H : Type} : List (DataW H) → Nat
  | [] => 0
  | d :: r => uptoBulk d + uptoBulkAll r
def uptoBulkEntries {H : Type} : List (Lit × DataW H) → Nat
  | [] => 0
  | x :: r => uptoBulkEntry x + uptoBulkEntries r
def uptoBulkEntry {H : Type} : Lit × DataW H → Nat
  | (.string bytes, d) => bytes.length + uptoBulk d + 1
  | (_, d) => uptoBulk d + 1
 end
def uptoSmall : (H : Type) → List (DataW H) → Bool := fun _ ds => decide (uptoBulkAll ds ≤ 1048576)
def OpenSpec.upto (s : _root_.Go.ChangeSpec) : _root_.Go.OpenSpec := { _root_.Go.OpenSpec.ofChange s with cond := some uptoSmall }

/-- 'aqulaw22.DagAsks', WHERE WHAT IT READS IS OF BULK AT MOST 1048576: true; the input reads as it did. -/
def dagAsksUptoRow : OpenClaim := { program := "ytdjbmjkfpmchgaa", sum := "ee6870c5d877b1cc3614531642939fb31da89e566870fcb9b5a79a48b733af93", func := "aquatint/aqulaw22.DagAsks", spec := "dagAsks", unfollowed := true, recurses := true, apart := false, narrowed := true }
def DagAsksUptoSaid : Prop := dagAsksUptoRow.holds Try.pinned (OpenSpec.upto dagAsksSpec)

/-- 'aqulaw22.DagBases', WHERE WHAT IT READS IS OF BULK AT MOST 1048576: true; the input reads as it did. -/
def dagBasesUptoRow : OpenClaim := { program := "ytdjbmjkfpmchgaa", sum := "ee6870c5d877b1cc3614531642939fb31da89e566870fcb9b5a79a48b733af93", func := "aquatint/aqulaw22.DagBases", spec := "dagBases", recurses := true, apart := false, narrowed := true }
def DagBasesUptoSaid : Prop := dagBasesUptoRow.holds Try.pinned (OpenSpec.upto dagBasesSpec)

/-- 'aqulaw22.DagLogs', WHERE WHAT IT READS IS OF BULK AT MOST 1048576: true; the input reads as it did. -/
def dagLogsUptoRow : OpenClaim := { program := "ytdjbmjkfpmchgaa", sum := "ee6870c5d877b1cc3614531642939fb31da89e566870fcb9b5a79a48b733af93", func := "aquatint/aqulaw22.DagLogs", spec := "dagLogs", unfollowed := true, recurses := true, apart := false, narrowed := true }
def DagLogsUptoSaid : Prop := dagLogsUptoRow.holds Try.pinned (OpenSpec.upto dagLogsSpec)

/-- 'aqulaw22.DagMore', WHERE WHAT IT READS IS OF BULK AT MOST 1048576: true; the input reads as it did. -/
def dagMoreUptoRow : OpenClaim := { program := "ytdjbmjkfpmchgaa", sum := "ee6870c5d877b1cc3614531642939fb31da89e566870fcb9b5a79a48b733af93", func := "aquatint/aqulaw22.DagMore", spec := "dagMore", unfollowed := true, recurses := true, apart := false, narrowed := true }
def DagMoreUptoSaid : Prop := dagMoreUptoRow.holds Try.pinned (OpenSpec.upto dagMoreSpec)

end Rows
end Go.Proofs.Ytdjbmjkfpmchgaa
