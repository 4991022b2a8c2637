/-
  Regions that draw their order, whose operations read old memory and whose callees lay new blocks only: one walk in the order of the text. (The library's wp_region_quiet at the class 'below w, a world that keeps w's blocks'.)
-/
import Derived.Test.YtdjbmjkfpmchgaaLib
import Derived.BigRegion
import Derived.BigQuiet
namespace Go.Proofs.Ytdjbmjkfpmchgaa
open Go.RowKit

/-- A world in which w's blocks stand as they did. -/
structure GrownW (w : World) where
  val : World
  below : Below w.heap.size w val
instance (w : World) : Nonempty (GrownW w) := ⟨⟨w, Below.refl _ _⟩⟩

theorem wp_region_grow_lit {P : Program} {id : Nat} {Q : Exit → Act → World → Prop} {a : Act} {w : World} {l : List Oper} (hm : P.follows .mixedOrders = true) (hB : Region.lexB .any l.toArray = true)
    (h : wpQuiet P l.toArray (fun w' => ∃ x : GrownW w, w' = x.val) (fun a' => ∀ w', (∃ x : GrownW w, w' = x.val) → Q .normal a' w') l a) : (Code.region id l.toArray true).wp P Q a w :=
  wp_region_quiet (C := fun w' => ∃ x : GrownW w, w' = x.val) hm hB ⟨⟨_, Below.drew (Below.refl _ _)⟩, rfl⟩ (by simpa using h)

/-- A callee's contract, met in a grown world. -/
theorem grow_call {P : Program} {f : FuncId} {args : Array Value} {w : World} {x : GrownW w} {v : Value}
    (h : Calls P f args x.val fun e w' => e = .returned v ∧ Below x.val.heap.size x.val w') : Calls P f args x.val fun e w'' => e = .returned v ∧ ∃ y : GrownW w, w'' = y.val :=
  h.mono fun _ w' ⟨he, hb⟩ => ⟨he, ⟨w', below_size x.below hb⟩, rfl⟩
theorem grow_call_same {P : Program} {f : FuncId} {args : Array Value} {w : World} {x : GrownW w} {v : Value}
    (h : Calls P f args x.val fun e w' => e = .returned v ∧ w' = x.val) : Calls P f args x.val fun e w'' => e = .returned v ∧ ∃ y : GrownW w, w'' = y.val :=
  h.mono fun _ _ ⟨he, hw⟩ => ⟨he, x, hw⟩
theorem GrownW.cell {w : World} (x : GrownW w) {a : Addr} {v : Value} (hl : a.block < w.heap.size) (h : w.cell? a = some v) : x.val.cell? a = some v := (x.below.cell hl).trans h

end Go.Proofs.Ytdjbmjkfpmchgaa
