/-
  XLayAny's blocks behind a callee that lays new blocks.
-/
import Derived.Test.YtbmbelnjgnahhaaLayAny
namespace Go.Proofs.Ytbmbelnjgnahhaa
open Go.RowKit

theorem Bk.grow {B : Nat} {w0 w w' : World} {mem : Nat → Bool} {l : Array Bool} {r : Nat → Nat} (h : Bk B w0 mem l r w) (hg : Below w.heap.size w w') : Bk B w0 mem l r w' :=
  ⟨h.inj, fun i hm hl => ⟨(h.low i hm hl).1, Nat.lt_of_lt_of_le (h.low i hm hl).2 hg.size⟩, h.bel.trans (hg.mono h.size), Nat.le_trans h.size hg.size⟩
theorem heap_grow {w w' : World} (hg : Below w.heap.size w w') {g : Nat} {ob : Obj} (h : w.heap[g]? = some ob) (hl : g < w.heap.size) : w'.heap[g]? = some ob := (hg.block g hl).trans h
end Go.Proofs.Ytbmbelnjgnahhaa
