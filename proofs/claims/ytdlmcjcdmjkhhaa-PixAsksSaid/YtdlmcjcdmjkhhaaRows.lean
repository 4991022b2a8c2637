/-
  No cell of these rows narrows 'for every input' (looked for: loops, veiled, ifaces, maps, wideKeys, modest, calm, conditions, laid).
  DERIVED. THE GIVEN ROWS OF THIS SEAT. 5 by the template 'for every input the law returns true; each argument reads behind the call as it read before'; 0 by the template 'total and deterministic' (their statements: YtdlmcjcdmjkhhaaTotals.lean).
  GIVEN WITH THE SEED: the statements are not yours to turn. If you find one false, say at which input.
  Laid BY PROGRAM, IN A SANDBOX (cutbox-rows.mjs): the forced cells as the released guide's own fill.sh prints them over the translation 9c090fde6dc4cc7a… (all of the seat's roots in one cut). By AI agents, Wed Nov 11 2026. No macro, syntax, notation, axiom, sorry.
-/
import Derived.Test.YtdlmcjcdmjkhhaaChecked
import GoSem.Claim
import GoSem.ClaimJoined
import GoSem.ClaimMapViews
import Derived.JoinedTies
import Derived.KernelRfl
namespace Go.Proofs.Ytdlmcjcdmjkhhaa
/- THE CELL 'sum', in the pinned program and in every row, IS THE sha256 OF THE DUMP (.gsa) THAT YtdlmcjcdmjkhhaaProg.lean LOADS. Nothing in Lean hashes anything: it is a label: what it is worth is what the hold of that sum in a sandbox is worth. -/
noncomputable def Try.pinned : Pinned := { name := "ytdlmcjcdmjkhhaa", sum := "9c090fde6dc4cc7a977c799d6339fd3d2d8abce0f062301f99ac8c33fc02688a", checked := Try.checked }
namespace Rows
def none {H : Type} : Left H := { results := [], args := [] }

/-- 'aqulaw9.PixAsks': WHATEVER THE INPUT: true; the input reads as it did. -/
def pixAsksSpec : ChangeSpec := { name := "pixAsks", fn := fun _ => fun
  | [d1, d2, d3, d4, d5, d6] => { results := [.lit (.bool true)], args := [d1, d2, d3, d4, d5, d6] }
  | _ => none }
def pixAsksRow : OpenClaim := { program := "ytdlmcjcdmjkhhaa", sum := "9c090fde6dc4cc7a977c799d6339fd3d2d8abce0f062301f99ac8c33fc02688a", func := "aquatint/aqulaw9.PixAsks", spec := "pixAsks", apart := false }
def PixAsksSaid : Prop := pixAsksRow.holds Try.pinned (OpenSpec.ofChange pixAsksSpec)

/-- ITS FALSE NEIGHBOUR: 'it returns false'. Refute it at one input. -/
def pixAsksWrong : ChangeSpec := { name := "pixAsks", fn := fun _ => fun
  | [d1, d2, d3, d4, d5, d6] => { results := [.lit (.bool false)], args := [d1, d2, d3, d4, d5, d6] }
  | _ => none }
def PixAsksWrongFalsely : Prop := pixAsksRow.holds Try.pinned (OpenSpec.ofChange pixAsksWrong)

/-- 'aqulaw9.PixBytes': WHATEVER THE INPUT: true; the input reads as it did. -/
def pixBytesSpec : ChangeSpec := { name := "pixBytes", fn := fun _ => fun
  | [d1, d2] => { results := [.lit (.bool true)], args := [d1, d2] }
  | _ => none }
def pixBytesRow : OpenClaim := { program := "ytdlmcjcdmjkhhaa", sum := "9c090fde6dc4cc7a977c799d6339fd3d2d8abce0f062301f99ac8c33fc02688a", func := "aquatint/aqulaw9.PixBytes", spec := "pixBytes", apart := false }
def PixBytesSaid : Prop := pixBytesRow.holds Try.pinned (OpenSpec.ofChange pixBytesSpec)

/-- ITS FALSE NEIGHBOUR: 'it returns false'. Refute it at one input. -/
def pixBytesWrong : ChangeSpec := { name := "pixBytes", fn := fun _ => fun
  | [d1, d2] => { results := [.lit (.bool false)], args := [d1, d2] }
  | _ => none }
def PixBytesWrongFalsely : Prop := pixBytesRow.holds Try.pinned (OpenSpec.ofChange pixBytesWrong)

/-- 'aqulaw9.PixBack': WHATEVER THE INPUT: true; the input reads as it did. -/
def pixBackSpec : ChangeSpec := { name := "pixBack", fn := fun _ => fun
  | [d1, d2] => { results := [.lit (.bool true)], args := [d1, d2] }
  | _ => none }
def pixBackRow : OpenClaim := { program := "ytdlmcjcdmjkhhaa", sum := "9c090fde6dc4cc7a977c799d6339fd3d2d8abce0f062301f99ac8c33fc02688a", func := "aquatint/aqulaw9.PixBack", spec := "pixBack", apart := false }
def PixBackSaid : Prop := pixBackRow.holds Try.pinned (OpenSpec.ofChange pixBackSpec)

/-- ITS FALSE NEIGHBOUR: 'it returns false'. Refute it at one input. -/
def pixBackWrong : ChangeSpec := { name := "pixBack", fn := fun _ => fun
  | [d1, d2] => { results := [.lit (.bool false)], args := [d1, d2] }
  | _ => none }
def PixBackWrongFalsely : Prop := pixBackRow.holds Try.pinned (OpenSpec.ofChange pixBackWrong)

/-- 'aqulaw9.PixSets': WHATEVER THE INPUT: true; the input reads as it did. -/
def pixSetsSpec : ChangeSpec := { name := "pixSets", fn := fun _ => fun
  | [d1, d2, d3, d4, d5, d6, d7, d8] => { results := [.lit (.bool true)], args := [d1, d2, d3, d4, d5, d6, d7, d8] }
  | _ => none }
def pixSetsRow : OpenClaim := { program := "ytdlmcjcdmjkhhaa", sum := "9c090fde6dc4cc7a977c799d6339fd3d2d8abce0f062301f99ac8c33fc02688a", func := "aquatint/aqulaw9.PixSets", spec := "pixSets", apart := false }
def PixSetsSaid : Prop := pixSetsRow.holds Try.pinned (OpenSpec.ofChange pixSetsSpec)

/-- ITS FALSE NEIGHBOUR: 'it returns false'. Refute it at one input. -/
def pixSetsWrong : ChangeSpec := { name := "pixSets", fn := fun _ => fun
  | [d1, d2, d3, d4, d5, d6, d7, d8] => { results := [.lit (.bool false)], args := [d1, d2, d3, d4, d5, d6, d7, d8] }
  | _ => none }
def PixSetsWrongFalsely : Prop := pixSetsRow.holds Try.pinned (OpenSpec.ofChange pixSetsWrong)

/-- 'aqulaw9.PixRows': WHATEVER THE INPUT: true; the input reads as it did. -/
def pixRowsSpec : ChangeSpec := { name := "pixRows", fn := fun _ => fun
  | [d1, d2, d3, d4] => { results := [.lit (.bool true)], args := [d1, d2, d3, d4] }
  | _ => none }
def pixRowsRow : OpenClaim := { program := "ytdlmcjcdmjkhhaa", sum := "9c090fde6dc4cc7a977c799d6339fd3d2d8abce0f062301f99ac8c33fc02688a", func := "aquatint/aqulaw9.PixRows", spec := "pixRows", apart := false }
def PixRowsSaid : Prop := pixRowsRow.holds Try.pinned (OpenSpec.ofChange pixRowsSpec)

/-- ITS FALSE NEIGHBOUR: 'it returns false'. Refute it at one input. -/
def pixRowsWrong : ChangeSpec := { name := "pixRows", fn := fun _ => fun
  | [d1, d2, d3, d4] => { results := [.lit (.bool false)], args := [d1, d2, d3, d4] }
  | _ => none }
def PixRowsWrongFalsely : Prop := pixRowsRow.holds Try.pinned (OpenSpec.ofChange pixRowsWrong)

/- THE SECOND FORM. 'bulk': how many values and letters a reading holds, each counted each time it is reached (what is shared counts as often as it is met; a slice's spare places count too). A statement '..UptoSaid' is the law's where the arguments, and the package variables that the reading takes, are together of bulk at most 1048576: NARROWER than '..Said'. Prove '..Said' where nothing that the law and all that it calls make is longer than what came in: it says more and counts as full. Else prove '..UptoSaid'. A law counts once. -/
mutual
def uptoBulk {H : Type} : DataW H → Nat
  | .lit (.string bytes) => bytes.length + 1
  | .lit _ => 1
  | .nil => 1
  | .ptr d => uptoBulk d + 1
  | .slice elems spare => uptoBulkAll elems + uptoBulkAll spare + 1
  | .agg parts => uptoBulkAll parts + 1
  | .iface _ d => uptoBulk d + 1
  | .map entries => uptoBulkEntries entries + 1
  | .held _ => 1
def uptoBulkAll {H : Type} : List (DataW H) → Nat
  | [] => 0
  | d :: r => uptoBulk d + uptoBulkAll r
def uptoBulkEntries {H : Type} : List (Lit × DataW H) → Nat
  | [] => 0
  | x :: r => uptoBulkEntry x + uptoBulkEntries r
def uptoBulkEntry {H : Type} : Lit × DataW H → Nat
  | (.string bytes, d) => bytes.length + uptoBulk d + 1
  | (_, d) => uptoBulk d + 1
 end
def uptoSmall : (H : Type) → List (DataW H) → Bool := fun _ ds => decide (uptoBulkAll ds ≤ 1048576)
def OpenSpec.upto (s : _root_.Go.ChangeSpec) : _root_.Go.OpenSpec := { _root_.Go.OpenSpec.ofChange s with cond := some uptoSmall }

/-- 'aqulaw9.PixAsks', WHERE WHAT IT READS IS OF BULK AT MOST 1048576: true; the input reads as it did. -/
def pixAsksUptoRow : OpenClaim := { program := "ytdlmcjcdmjkhhaa", sum := "9c090fde6dc4cc7a977c799d6339fd3d2d8abce0f062301f99ac8c33fc02688a", func := "aquatint/aqulaw9.PixAsks", spec := "pixAsks", apart := false, narrowed := true }
def PixAsksUptoSaid : Prop := pixAsksUptoRow.holds Try.pinned (OpenSpec.upto pixAsksSpec)

/-- 'aqulaw9.PixBytes', WHERE WHAT IT READS IS OF BULK AT MOST 1048576: true; the input reads as it did. -/
def pixBytesUptoRow : OpenClaim := { program := "ytdlmcjcdmjkhhaa", sum := "9c090fde6dc4cc7a977c799d6339fd3d2d8abce0f062301f99ac8c33fc02688a", func := "aquatint/aqulaw9.PixBytes", spec := "pixBytes", apart := false, narrowed := true }
def PixBytesUptoSaid : Prop := pixBytesUptoRow.holds Try.pinned (OpenSpec.upto pixBytesSpec)

/-- 'aqulaw9.PixBack', WHERE WHAT IT READS IS OF BULK AT MOST 1048576: true; the input reads as it did. -/
def pixBackUptoRow : OpenClaim := { program := "ytdlmcjcdmjkhhaa", sum := "9c090fde6dc4cc7a977c799d6339fd3d2d8abce0f062301f99ac8c33fc02688a", func := "aquatint/aqulaw9.PixBack", spec := "pixBack", apart := false, narrowed := true }
def PixBackUptoSaid : Prop := pixBackUptoRow.holds Try.pinned (OpenSpec.upto pixBackSpec)

/-- 'aqulaw9.PixSets', WHERE WHAT IT READS IS OF BULK AT MOST 1048576: true; the input reads as it did. -/
def pixSetsUptoRow : OpenClaim := { program := "ytdlmcjcdmjkhhaa", sum := "9c090fde6dc4cc7a977c799d6339fd3d2d8abce0f062301f99ac8c33fc02688a", func := "aquatint/aqulaw9.PixSets", spec := "pixSets", apart := false, narrowed := true }
def PixSetsUptoSaid : Prop := pixSetsUptoRow.holds Try.pinned (OpenSpec.upto pixSetsSpec)

/-- 'aqulaw9.PixRows', WHERE WHAT IT READS IS OF BULK AT MOST 1048576: true; the input reads as it did. -/
def pixRowsUptoRow : OpenClaim := { program := "ytdlmcjcdmjkhhaa", sum := "9c090fde6dc4cc7a977c799d6339fd3d2d8abce0f062301f99ac8c33fc02688a", func := "aquatint/aqulaw9.PixRows", spec := "pixRows", apart := false, narrowed := true }
def PixRowsUptoSaid : Prop := pixRowsUptoRow.holds Try.pinned (OpenSpec.upto pixRowsSpec)

end Rows
end Go.Proofs.Ytdlmcjcdmjkhhaa
