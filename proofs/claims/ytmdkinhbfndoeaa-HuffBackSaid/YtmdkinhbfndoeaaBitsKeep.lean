/-
  Writers beside what else changes.
-/
import Derived.Test.YtmdkinhbfndoeaaBitsWr
namespace Go.Proofs.Ytmdkinhbfndoeaa
open Go.RowKit

theorem Wrt.keep {w w' : World} {g : Nat} {o : Option Nat} {N c : Nat} (h : Wrt w g o N c) (hs : w.heap.size ≤ w'.heap.size) (hg : w'.heap[g]? = w.heap[g]?) (ho : ∀ b, o = some b → w'.heap[b]? = w.heap[b]?) : Wrt w' g o N c := by
  obtain ⟨a, n, cap, xs, h1, h2, h3, h4, h5, h6, h7, h8⟩ := h
  refine ⟨a, n, cap, xs, h1, by omega, (World.cell?_of_block (a := ⟨g, 0, Option.none⟩) hg).trans h3, (World.cell?_of_block (a := ⟨g, 1, Option.none⟩) hg).trans h4, (World.frozen?_of_block (a := ⟨g, 0, Option.none⟩) hg).trans h5, (World.frozen?_of_block (a := ⟨g, 1, Option.none⟩) hg).trans h6, ⟨h7.1, ?_⟩, h8⟩
  rcases h7.2 with h | ⟨q, c', cur, e, hq, hh, r⟩
  · exact .inl h
  · refine .inr ⟨q, c', cur, e, hq, ?_, r⟩
    rw [ho q (by rw [← h1, e]; rfl), hh]
theorem Wrt.lt {w : World} {g : Nat} {o : Option Nat} {N c : Nat} (h : Wrt w g o N c) : g < w.heap.size ∧ ∀ b, o = some b → g < b ∧ b < w.heap.size := by
  obtain ⟨a, n, cap, xs, h1, h2, h3, h4, h5, h6, h7, h8⟩ := h
  refine ⟨h2, fun b hb => ?_⟩
  have := h7.lt b (by rw [h1, hb])
  omega
theorem Wrt.below {w w' : World} {g : Nat} {o : Option Nat} {N c : Nat} (h : Wrt w g o N c) (hb : Below w.heap.size w w') : Wrt w' g o N c :=
  h.keep hb.size (hb.block _ h.lt.1) fun b hb' => hb.block _ (h.lt.2 b hb').2
theorem Wrt.moved {w w' : World} {g : Nat} {o : Option Nat} {N c : Nat} {g1 : Nat} {o1 o1' : Option Nat} (h : Wrt w g o N c) (m : Moved g1 o1 o1' w w') (hne : g ≠ g1) (h1 : o1 ≠ some g) (h2 : o ≠ some g1) (h3 : ∀ b, o = some b → o1 ≠ some b) : Wrt w' g o N c := by
  refine h.keep m.1.size (m.1.block g h.lt.1 ?_) fun b hb => m.1.block b (h.lt.2 b hb).2 ?_
  · rintro (e | e)
    · exact hne e
    · exact h1 e.symm
  · rintro (e | e)
    · exact h2 (by rw [hb, e])
    · exact h3 b hb e.symm
theorem Moved.below {g : Nat} {o o' : Option Nat} {w w' : World} (m : Moved g o o' w w') {B : Nat} (hB : B ≤ g) (hS : B ≤ w.heap.size) (ho : ∀ b, o = some b → B ≤ b) : Below B w w' :=
  ⟨m.1.os, m.1.tape, m.1.output, m.1.size, fun k hk => m.1.block k (by omega) (by
    rintro (e | e)
    · omega
    · have := ho k e.symm; omega)⟩

def Dis (o o' : Option Nat) : Prop := ∀ r, o = some r → o' ≠ some r
section
variable {w w' : World} {o' : Option Nat}
theorem Dis.symm {o o' : Option Nat} (h : Dis o o') : Dis o' o := fun r h1 h2 => h r h2 h1
theorem dis_moved {g1 : Nat} {o o1 : Option Nat} (h : Dis o1 o) (m : Moved g1 o1 o' w w') (hlt : ∀ r, o = some r → r < w.heap.size) : Dis o' o := fun r h1 h2 => by
  rcases m.2 r h1 with e | e
  · exact h r e h2
  · have := hlt r h2; omega
end
theorem owns_keep {w w' : World} {base T size n : Nat} {v : Value} {xs : List Value} (h : w.ownsRow base T size v n xs) (hb : ∀ r, v.ownBlock = some r → w'.heap[r]? = w.heap[r]?) : w'.ownsRow base T size v n xs := by
  refine ⟨h.1, ?_⟩
  rcases h.2 with h | ⟨q, c', cur, e', hq, hh, r⟩
  · exact .inl h
  · refine .inr ⟨q, c', cur, e', hq, ?_, r⟩
    rw [hb q (by rw [e']; rfl), hh]
end Go.Proofs.Ytmdkinhbfndoeaa
