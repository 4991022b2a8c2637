/-
  Pictures by value: a block of five cells.
-/
import Derived.Test.YtbmbelnjgnahhaaShape
import Derived.Test.YtbmbelnjgnahhaaGrow
namespace Go.Proofs.Ytbmbelnjgnahhaa
open Go.RowKit

/-- A picture's value. -/
abbrev ras (W H C D : Int) (a : Option Addr) (n cap : Nat) : Value := .agg #[.int .i64 W, .int .i64 H, .int .i64 C, .int .i64 D, .slice a n cap]

/-- Block g holds a picture. -/
structure RBox (w : World) (g : Nat) (W H C D : Int) (a : Option Addr) (n cap : Nat) : Prop where
  box : Box w g W H C D
  c4 : w.cell? ⟨g, 4, Option.none⟩ = some (.slice a n cap)
  f4 : w.frozen? ⟨g, 4, Option.none⟩ = false

section
variable {w w' : World} {g : Nat} {W H C D : Int} {a : Option Addr} {n cap : Nat}
theorem RBox.lt (h : RBox w g W H C D a n cap) : g < w.heap.size := h.box.lt
theorem RBox.below (h : RBox w g W H C D a n cap) (hb : Below w.heap.size w w') : RBox w' g W H C D a n cap :=
  ⟨h.box.below hb, (hb.cell h.lt).trans h.c4, (hb.frozen h.lt).trans h.f4⟩
theorem rbox_alloc (w : World) (W H C D : Int) (a : Option Addr) (n cap : Nat) (t : TypeId) : RBox (w.alloc (.cells #[.int .i64 W, .int .i64 H, .int .i64 C, .int .i64 D, .slice a n cap] t)) w.heap.size W H C D a n cap := by
  have hh : (w.alloc (.cells #[.int .i64 W, .int .i64 H, .int .i64 C, .int .i64 D, .slice a n cap] t)).heap[w.heap.size]? = some (.cells #[.int .i64 W, .int .i64 H, .int .i64 C, .int .i64 D, .slice a n cap] t) := by
    show (w.heap.push _)[w.heap.size]? = _
    simp
  refine ⟨⟨by simp, ?_, ?_, ?_, ?_, ?_, ?_, ?_, ?_⟩, ?_, ?_⟩
  all_goals first
    | (unfold World.cell?; rw [hh]; rfl)
    | (unfold World.frozen?; rw [hh]; rfl)
end

theorem RBox.set {w : World} {g : Nat} {W H C D : Int} {a : Option Addr} {n cap : Nat} (h : RBox w g W H C D a n cap) (p q r s : Int) (b : Option Addr) (m k : Nat) :
    RBox (((((w.setCell ⟨g, 0, Option.none⟩ (.int .i64 p)).setCell ⟨g, 1, Option.none⟩ (.int .i64 q)).setCell ⟨g, 2, Option.none⟩ (.int .i64 r)).setCell ⟨g, 3, Option.none⟩ (.int .i64 s)).setCell ⟨g, 4, Option.none⟩ (.slice b m k)) g p q r s b m k := by
  have hb := h.box.set p q r s
  have h4 : ((((w.setCell ⟨g, 0, Option.none⟩ (.int .i64 p)).setCell ⟨g, 1, Option.none⟩ (.int .i64 q)).setCell ⟨g, 2, Option.none⟩ (.int .i64 r)).setCell ⟨g, 3, Option.none⟩ (.int .i64 s)).cell? ⟨g, 4, Option.none⟩ = some (.slice a n cap) := by
    rw [World.cell?_setCell_other _ _ _ _ (by simp), World.cell?_setCell_other _ _ _ _ (by simp), World.cell?_setCell_other _ _ _ _ (by simp), World.cell?_setCell_other _ _ _ _ (by simp), h.c4]
  refine ⟨⟨by simpa using hb.lt, ?_, ?_, ?_, ?_, ?_, ?_, ?_, ?_⟩, World.cell?_setCell_same _ _ _ h4, by simpa [World.frozen?_setCell] using h.f4⟩
  · rw [World.cell?_setCell_other _ _ _ _ (by simp)]; exact hb.c0
  · rw [World.cell?_setCell_other _ _ _ _ (by simp)]; exact hb.c1
  · rw [World.cell?_setCell_other _ _ _ _ (by simp)]; exact hb.c2
  · rw [World.cell?_setCell_other _ _ _ _ (by simp)]; exact hb.c3
  · rw [World.frozen?_setCell]; exact hb.f0
  · rw [World.frozen?_setCell]; exact hb.f1
  · rw [World.frozen?_setCell]; exact hb.f2
  · rw [World.frozen?_setCell]; exact hb.f3

theorem owns_far {w : World} {base T g n cap : Nat} {ws : List Value} (h : w.ownsRow base T 1 (.slice (some ⟨g, 0, Option.none⟩) n cap) n ws) (b i : Nat) (v : Value) (hb : b ≠ g) : (w.setCell ⟨b, i, Option.none⟩ v).ownsRow base T 1 (.slice (some ⟨g, 0, Option.none⟩) n cap) n ws :=
  h.kept (row := some b) ⟨rfl, rfl, rfl, by simp, fun k _ hne => Below.heap_setCell w ⟨b, i, Option.none⟩ v k (fun h => hne (by rw [h]))⟩ (.inr (by simp [Value.ownBlock]; omega))
theorem owns_under {w : World} {base T : Nat} {a : Option Addr} {n cap : Nat} {ws : List Value} (h : w.ownsRow base T 1 (.slice a n cap) n ws) (b i : Nat) (v : Value) (hb : b < base) : (w.setCell ⟨b, i, Option.none⟩ v).ownsRow base T 1 (.slice a n cap) n ws :=
  h.kept (row := some b) ⟨rfl, rfl, rfl, by simp, fun k _ hne => Below.heap_setCell w ⟨b, i, Option.none⟩ v k (fun h => hne (by rw [h]))⟩ (.inr fun e => by have := (h.lt b e).1; omega)
theorem RBox.setPix {w : World} {g : Nat} {W H C D : Int} {a : Option Addr} {n cap : Nat} (h : RBox w g W H C D a n cap) (b : Option Addr) (m k : Nat) : RBox (w.setCell ⟨g, 4, Option.none⟩ (.slice b m k)) g W H C D b m k := by
  refine ⟨⟨by simpa using h.lt, ?_, ?_, ?_, ?_, ?_, ?_, ?_, ?_⟩, World.cell?_setCell_same _ _ _ h.c4, by simpa [World.frozen?_setCell] using h.f4⟩
  · rw [World.cell?_setCell_other _ _ _ _ (by simp)]; exact h.box.c0
  · rw [World.cell?_setCell_other _ _ _ _ (by simp)]; exact h.box.c1
  · rw [World.cell?_setCell_other _ _ _ _ (by simp)]; exact h.box.c2
  · rw [World.cell?_setCell_other _ _ _ _ (by simp)]; exact h.box.c3
  · rw [World.frozen?_setCell]; exact h.box.f0
  · rw [World.frozen?_setCell]; exact h.box.f1
  · rw [World.frozen?_setCell]; exact h.box.f2
  · rw [World.frozen?_setCell]; exact h.box.f3
theorem RBox.setFar {w : World} {g : Nat} {W H C D : Int} {a : Option Addr} {n cap : Nat} (h : RBox w g W H C D a n cap) (b i : Nat) (v : Value) (hb : b ≠ g) : RBox (w.setCell ⟨b, i, Option.none⟩ v) g W H C D a n cap := by
  have hk := Below.heap_setCell w ⟨b, i, Option.none⟩ v g (fun e => hb e.symm)
  refine ⟨⟨by simpa using h.lt, ?_, ?_, ?_, ?_, ?_, ?_, ?_, ?_⟩, ?_, ?_⟩
  · exact (World.cell?_of_block (a := ⟨g, 0, Option.none⟩) hk).trans h.box.c0
  · exact (World.cell?_of_block (a := ⟨g, 1, Option.none⟩) hk).trans h.box.c1
  · exact (World.cell?_of_block (a := ⟨g, 2, Option.none⟩) hk).trans h.box.c2
  · exact (World.cell?_of_block (a := ⟨g, 3, Option.none⟩) hk).trans h.box.c3
  · exact (World.frozen?_of_block (a := ⟨g, 0, Option.none⟩) hk).trans h.box.f0
  · exact (World.frozen?_of_block (a := ⟨g, 1, Option.none⟩) hk).trans h.box.f1
  · exact (World.frozen?_of_block (a := ⟨g, 2, Option.none⟩) hk).trans h.box.f2
  · exact (World.frozen?_of_block (a := ⟨g, 3, Option.none⟩) hk).trans h.box.f3
  · exact (World.cell?_of_block (a := ⟨g, 4, Option.none⟩) hk).trans h.c4
  · exact (World.frozen?_of_block (a := ⟨g, 4, Option.none⟩) hk).trans h.f4
end Go.Proofs.Ytbmbelnjgnahhaa
