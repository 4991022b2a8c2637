/-
  A tree of the call's own: 'out := Tree{Shape: s, Keys: slices.Clone(..)}', in whatever order the variable and the keys are laid.
-/
import Derived.Test.YtbmbelnjgnahhaaJoinMerge
import Derived.Deep.DeepCutAuto
import Derived.Deep.RegionHeld3
namespace Go.Proofs.Ytbmbelnjgnahhaa
open Go.RowKit

structure OutS (w2 : World) (W H C D : Int) (n gb : Nat) (a : Option Addr) (k : Nat) (zs : List ByteArray) (wx : World) : Prop where
  box : RBox wx gb W H C D a n k
  own : wx.ownsRow w2.heap.size 9 1 (.slice a n k) n (zs.map Value.string)
  ne : (Value.slice a n k).ownBlock ≠ some gb
  ge : w2.heap.size ≤ gb
  bel : Below w2.heap.size w2 wx
section
variable {w2 wx w' : World} {W H C D : Int} {n gb : Nat} {a : Option Addr} {k : Nat} {zs ys : List ByteArray}
theorem OutS.below (h : OutS w2 W H C D n gb a k zs wx) (hb : Below wx.heap.size wx w') : OutS w2 W H C D n gb a k zs w' :=
  ⟨h.box.below hb, owns_below h.own hb, h.ne, h.ge, below_size h.bel hb⟩
theorem OutS.len (h : OutS w2 W H C D n gb a k zs wx) : zs.length = n := by simpa using h.own.1
theorem OutS.store {g : Nat} (h : OutS w2 W H C D n gb (some ⟨g, 0, Option.none⟩) k zs wx) (i : Nat) (x : ByteArray) : OutS w2 W H C D n gb (some ⟨g, 0, Option.none⟩) k (zs.set i x) (wx.setCell ⟨g, i, Option.none⟩ (.string x)) := by
  have hne : g ≠ gb := fun e => h.ne (by rw [e]; rfl)
  exact ⟨h.box.setFar g i _ hne, ownsA_set h.own i x, h.ne, h.ge, h.bel.setCell (h.own.lt g rfl).1 _⟩
theorem OutS.far {g : Nat} (h : OutS w2 W H C D n gb (some ⟨g, 0, Option.none⟩) k zs wx) (b i : Nat) (v : Value) (h1 : b ≠ gb) (h2 : b ≠ g) (h3 : w2.heap.size ≤ b) : OutS w2 W H C D n gb (some ⟨g, 0, Option.none⟩) k zs (wx.setCell ⟨b, i, Option.none⟩ v) :=
  ⟨h.box.setFar b i _ h1, owns_far h.own b i v h2, h.ne, h.ge, h.bel.setCell h3 _⟩
/-- Cloned first. -/
theorem outS_a {x1 : World} (hb : Below w2.heap.size w2 x1) (W H C D : Int) (o1 : x1.ownsRow w2.heap.size 9 1 (.slice a n k) n (zs.map Value.string)) :
    OutS w2 W H C D n x1.heap.size a k zs (x1.alloc (.cells #[.int .i64 W, .int .i64 H, .int .i64 C, .int .i64 D, .slice a n k] 26)) := by
  refine ⟨rbox_alloc x1 W H C D a n k _, World.ownsRow.alloc o1 _, fun e => ?_, hb.size, hb.alloc hb.size _⟩
  have := (o1.lt _ e).2
  omega
/-- The variable first. -/
theorem outS_b {x1 : World} {gb : Nat} (hb : Below w2.heap.size w2 x1) (W H C D : Int) (hg : w2.heap.size ≤ gb) (kb : RBox x1 gb 0 0 0 0 Option.none 0 0) (o1 : x1.ownsRow w2.heap.size 9 1 (.slice a n k) n (zs.map Value.string)) (hne : (Value.slice a n k).ownBlock ≠ some gb) :
    OutS w2 W H C D n gb a k zs (((((x1.setCell ⟨gb, 0, Option.none⟩ (.int .i64 W)).setCell ⟨gb, 1, Option.none⟩ (.int .i64 H)).setCell ⟨gb, 2, Option.none⟩ (.int .i64 C)).setCell ⟨gb, 3, Option.none⟩ (.int .i64 D)).setCell ⟨gb, 4, Option.none⟩ (.slice a n k)) := by
  have far := fun {w : World} (h : w.ownsRow w2.heap.size 9 1 (.slice a n k) n (zs.map Value.string)) (i : Nat) (v : Value) => h.kept (row := some gb) (w' := w.setCell ⟨gb, i, Option.none⟩ v) ⟨rfl, rfl, rfl, by simp, fun k _ hne => Below.heap_setCell w ⟨gb, i, Option.none⟩ v k (fun h => hne (by rw [h]))⟩ (.inr hne)
  exact ⟨kb.set W H C D a n k, far (far (far (far (far o1 0 _) 1 _) 2 _) 3 _) 4 _, hne, hg, ((((hb.setCell hg _).setCell hg _).setCell hg _).setCell hg _).setCell hg _⟩
end
end Go.Proofs.Ytbmbelnjgnahhaa
