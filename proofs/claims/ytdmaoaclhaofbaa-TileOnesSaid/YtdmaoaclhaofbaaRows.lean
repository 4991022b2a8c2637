/-
  No cell of these rows narrows 'for every input' (looked for: loops, veiled, ifaces, maps, wideKeys, modest, calm, conditions, laid).
  DERIVED. THE GIVEN ROWS OF THIS SEAT. 5 by the template 'for every input the law returns true; each argument reads behind the call as it read before'; 0 by the template 'total and deterministic' (their statements: YtdmaoaclhaofbaaTotals.lean).
  GIVEN WITH THE SEED: the statements are not yours to turn. If you find one false, say at which input.
  Laid BY PROGRAM, IN A SANDBOX (cutbox-rows.mjs): the forced cells as the released guide's own fill.sh prints them over the translation a5ed9e6ccc12d627… (all of the seat's roots in one cut). By AI agents, Wed Nov 11 2026. No macro, syntax, notation, axiom, sorry.
-/
import Derived.Test.YtdmaoaclhaofbaaChecked
import GoSem.Claim
import GoSem.ClaimJoined
import GoSem.ClaimMapViews
import Derived.JoinedTies
import Derived.KernelRfl
namespace Go.Proofs.Ytdmaoaclhaofbaa
/- THE CELL 'sum', in the pinned program and in every row, IS THE sha256 OF THE DUMP (.gsa) THAT YtdmaoaclhaofbaaProg.lean LOADS. Nothing in Lean hashes anything: it is a label: what it is worth is what the hold of that sum in a sandbox is worth. -/
noncomputable def Try.pinned : Pinned := { name := "ytdmaoaclhaofbaa", sum := "a5ed9e6ccc12d62796d861d2b1cfcea5e3372d4853a170ac97da0e07ba599b99", checked := Try.checked }
namespace Rows
def none {H : Type} : Left H := { results := [], args := [] }

/-- 'aqulaw10.TileCuts': WHATEVER THE INPUT: true; the input reads as it did. -/
def tileCutsSpec : ChangeSpec := { name := "tileCuts", fn := fun _ => fun
  | [d1, d2] => { results := [.lit (.bool true)], args := [d1, d2] }
  | _ => none }
def tileCutsRow : OpenClaim := { program := "ytdmaoaclhaofbaa", sum := "a5ed9e6ccc12d62796d861d2b1cfcea5e3372d4853a170ac97da0e07ba599b99", func := "aquatint/aqulaw10.TileCuts", spec := "tileCuts", apart := false }
def TileCutsSaid : Prop := tileCutsRow.holds Try.pinned (OpenSpec.ofChange tileCutsSpec)

/-- ITS FALSE NEIGHBOUR: 'it returns false'. Refute it at one input. -/
def tileCutsWrong : ChangeSpec := { name := "tileCuts", fn := fun _ => fun
  | [d1, d2] => { results := [.lit (.bool false)], args := [d1, d2] }
  | _ => none }
def TileCutsWrongFalsely : Prop := tileCutsRow.holds Try.pinned (OpenSpec.ofChange tileCutsWrong)

/-- 'aqulaw10.TileJoins': WHATEVER THE INPUT: true; the input reads as it did. -/
def tileJoinsSpec : ChangeSpec := { name := "tileJoins", fn := fun _ => fun
  | [d1, d2] => { results := [.lit (.bool true)], args := [d1, d2] }
  | _ => none }
def tileJoinsRow : OpenClaim := { program := "ytdmaoaclhaofbaa", sum := "a5ed9e6ccc12d62796d861d2b1cfcea5e3372d4853a170ac97da0e07ba599b99", func := "aquatint/aqulaw10.TileJoins", spec := "tileJoins", apart := false }
def TileJoinsSaid : Prop := tileJoinsRow.holds Try.pinned (OpenSpec.ofChange tileJoinsSpec)

/-- ITS FALSE NEIGHBOUR: 'it returns false'. Refute it at one input. -/
def tileJoinsWrong : ChangeSpec := { name := "tileJoins", fn := fun _ => fun
  | [d1, d2] => { results := [.lit (.bool false)], args := [d1, d2] }
  | _ => none }
def TileJoinsWrongFalsely : Prop := tileJoinsRow.holds Try.pinned (OpenSpec.ofChange tileJoinsWrong)

/-- 'aqulaw10.TileBack': WHATEVER THE INPUT: true; the input reads as it did. -/
def tileBackSpec : ChangeSpec := { name := "tileBack", fn := fun _ => fun
  | [d1, d2, d3, d4] => { results := [.lit (.bool true)], args := [d1, d2, d3, d4] }
  | _ => none }
def tileBackRow : OpenClaim := { program := "ytdmaoaclhaofbaa", sum := "a5ed9e6ccc12d62796d861d2b1cfcea5e3372d4853a170ac97da0e07ba599b99", func := "aquatint/aqulaw10.TileBack", spec := "tileBack", apart := false }
def TileBackSaid : Prop := tileBackRow.holds Try.pinned (OpenSpec.ofChange tileBackSpec)

/-- ITS FALSE NEIGHBOUR: 'it returns false'. Refute it at one input. -/
def tileBackWrong : ChangeSpec := { name := "tileBack", fn := fun _ => fun
  | [d1, d2, d3, d4] => { results := [.lit (.bool false)], args := [d1, d2, d3, d4] }
  | _ => none }
def TileBackWrongFalsely : Prop := tileBackRow.holds Try.pinned (OpenSpec.ofChange tileBackWrong)

/-- 'aqulaw10.TileOnes': WHATEVER THE INPUT: true; the input reads as it did. -/
def tileOnesSpec : ChangeSpec := { name := "tileOnes", fn := fun _ => fun
  | [d1, d2, d3] => { results := [.lit (.bool true)], args := [d1, d2, d3] }
  | _ => none }
def tileOnesRow : OpenClaim := { program := "ytdmaoaclhaofbaa", sum := "a5ed9e6ccc12d62796d861d2b1cfcea5e3372d4853a170ac97da0e07ba599b99", func := "aquatint/aqulaw10.TileOnes", spec := "tileOnes", apart := false }
def TileOnesSaid : Prop := tileOnesRow.holds Try.pinned (OpenSpec.ofChange tileOnesSpec)

/-- ITS FALSE NEIGHBOUR: 'it returns false'. Refute it at one input. -/
def tileOnesWrong : ChangeSpec := { name := "tileOnes", fn := fun _ => fun
  | [d1, d2, d3] => { results := [.lit (.bool false)], args := [d1, d2, d3] }
  | _ => none }
def TileOnesWrongFalsely : Prop := tileOnesRow.holds Try.pinned (OpenSpec.ofChange tileOnesWrong)

/-- 'aqulaw10.TileShapes': WHATEVER THE INPUT: true; the input reads as it did. -/
def tileShapesSpec : ChangeSpec := { name := "tileShapes", fn := fun _ => fun
  | [d] => { results := [.lit (.bool true)], args := [d] }
  | _ => none }
def tileShapesRow : OpenClaim := { program := "ytdmaoaclhaofbaa", sum := "a5ed9e6ccc12d62796d861d2b1cfcea5e3372d4853a170ac97da0e07ba599b99", func := "aquatint/aqulaw10.TileShapes", spec := "tileShapes", apart := false }
def TileShapesSaid : Prop := tileShapesRow.holds Try.pinned (OpenSpec.ofChange tileShapesSpec)

/-- ITS FALSE NEIGHBOUR: 'it returns false'. Refute it at one input. -/
def tileShapesWrong : ChangeSpec := { name := "tileShapes", fn := fun _ => fun
  | [d] => { results := [.lit (.bool false)], args := [d] }
  | _ => none }
def TileShapesWrongFalsely : Prop := tileShapesRow.holds Try.pinned (OpenSpec.ofChange tileShapesWrong)

/- THE SECOND FORM. 'bulk': how many values and letters a reading holds, each counted each time it is reached (what is shared counts as often as it is met; a slice's spare places count too). A statement '..UptoSaid' is the law's where the arguments, and the package variables that the reading takes, are together of bulk at most 1048576: NARROWER than '..Said'. Prove '..Said' where nothing that the law and all that it calls make is longer than what came in: it says more and counts as full. Else prove '..UptoSaid'. A law counts once. -/
mutual
def uptoBulk {H : Type} : DataW H → Nat
  | .lit (.string bytes) => bytes.length + 1
  | .lit _ => 1
  | .nil => 1
  | .ptr d => uptoBulk d + 1
  | .slice elems spare => uptoBulkAll elems + uptoBulkAll spare + 1
  | .agg parts => uptoBulkAll parts + 1
  | .iface _ d => uptoBulk d + 1
  | .map entries => uptoBulkEntries entries + 1
  | .held _ => 1
def uptoBulkAll {H : Type} : List (DataW H) → Nat
  | [] => 0
  | d :: r => uptoBulk d + uptoBulkAll r
def uptoBulkEntries {H : Type} : List (Lit × DataW H) → Nat
  | [] => 0
  | x :: r => uptoBulkEntry x + uptoBulkEntries r
def uptoBulkEntry {H : Type} : Lit × DataW H → Nat
  | (.string bytes, d) => bytes.length + uptoBulk d + 1
  | (_, d) => uptoBulk d + 1
 end
def uptoSmall : (H : Type) → List (DataW H) → Bool := fun _ ds => decide (uptoBulkAll ds ≤ 1048576)
def OpenSpec.upto (s : _root_.Go.ChangeSpec) : _root_.Go.OpenSpec := { _root_.Go.OpenSpec.ofChange s with cond := some uptoSmall }

/-- 'aqulaw10.TileCuts', WHERE WHAT IT READS IS OF BULK AT MOST 1048576: true; the input reads as it did. -/
def tileCutsUptoRow : OpenClaim := { program := "ytdmaoaclhaofbaa", sum := "a5ed9e6ccc12d62796d861d2b1cfcea5e3372d4853a170ac97da0e07ba599b99", func := "aquatint/aqulaw10.TileCuts", spec := "tileCuts", apart := false, narrowed := true }
def TileCutsUptoSaid : Prop := tileCutsUptoRow.holds Try.pinned (OpenSpec.upto tileCutsSpec)

/-- 'aqulaw10.TileJoins', WHERE WHAT IT READS IS OF BULK AT MOST 1048576: true; the input reads as it did. -/
def tileJoinsUptoRow : OpenClaim := { program := "ytdmaoaclhaofbaa", sum := "a5ed9e6ccc12d62796d861d2b1cfcea5e3372d4853a170ac97da0e07ba599b99", func := "aquatint/aqulaw10.TileJoins", spec := "tileJoins", apart := false, narrowed := true }
def TileJoinsUptoSaid : Prop := tileJoinsUptoRow.holds Try.pinned (OpenSpec.upto tileJoinsSpec)

/-- 'aqulaw10.TileBack', WHERE WHAT IT READS IS OF BULK AT MOST 1048576: true; the input reads as it did. -/
def tileBackUptoRow : OpenClaim := { program := "ytdmaoaclhaofbaa", sum := "a5ed9e6ccc12d62796d861d2b1cfcea5e3372d4853a170ac97da0e07ba599b99", func := "aquatint/aqulaw10.TileBack", spec := "tileBack", apart := false, narrowed := true }
def TileBackUptoSaid : Prop := tileBackUptoRow.holds Try.pinned (OpenSpec.upto tileBackSpec)

/-- 'aqulaw10.TileOnes', WHERE WHAT IT READS IS OF BULK AT MOST 1048576: true; the input reads as it did. -/
def tileOnesUptoRow : OpenClaim := { program := "ytdmaoaclhaofbaa", sum := "a5ed9e6ccc12d62796d861d2b1cfcea5e3372d4853a170ac97da0e07ba599b99", func := "aquatint/aqulaw10.TileOnes", spec := "tileOnes", apart := false, narrowed := true }
def TileOnesUptoSaid : Prop := tileOnesUptoRow.holds Try.pinned (OpenSpec.upto tileOnesSpec)

/-- 'aqulaw10.TileShapes', WHERE WHAT IT READS IS OF BULK AT MOST 1048576: true; the input reads as it did. -/
def tileShapesUptoRow : OpenClaim := { program := "ytdmaoaclhaofbaa", sum := "a5ed9e6ccc12d62796d861d2b1cfcea5e3372d4853a170ac97da0e07ba599b99", func := "aquatint/aqulaw10.TileShapes", spec := "tileShapes", apart := false, narrowed := true }
def TileShapesUptoSaid : Prop := tileShapesUptoRow.holds Try.pinned (OpenSpec.upto tileShapesSpec)

end Rows
end Go.Proofs.Ytdmaoaclhaofbaa
