/-
  Blocks laid by a region that draws its order: which operation laid which.
-/
import Derived.Test.YtbmbelnjgnahhaaRegionInv
import Derived.Test.YtbmbelnjgnahhaaRasBox
import Derived.Test.YtbmbelnjgnahhaaGrowTail
namespace Go.Proofs.Ytbmbelnjgnahhaa
open Go.RowKit

/-- The blocks that have been laid are new, and no two are one. -/
structure Bk (B : Nat) (w0 : World) (mem : Nat → Bool) (l : Array Bool) (r : Nat → Nat) (w : World) : Prop where
  inj : ∀ i j, mem i = true → mem j = true → l.getD i false = true → l.getD j false = true → i ≠ j → r i ≠ r j
  low : ∀ i, mem i = true → l.getD i false = true → B ≤ r i ∧ r i < w.heap.size
  bel : Below B w0 w
  size : B ≤ w.heap.size
/-- One more. -/
def rup (r : Nat → Nat) (i g : Nat) : Nat → Nat := fun j => if j = i then g else r j
theorem setB_ne {l : Array Bool} {i j : Nat} {b : Bool} (h : i ≠ j) : (l.setIfInBounds i b).getD j false = l.getD j false := by
  simp [Array.getElem?_setIfInBounds_ne h]
theorem setB_keep {l : Array Bool} {i j : Nat} (h : l.getD j false = true) : (l.setIfInBounds i true).getD j false = true := by
  by_cases e : i = j
  · subst e
    have hs : i < l.size := by
      rcases Nat.lt_or_ge i l.size with h1 | h1
      · exact h1
      · simp [Array.getElem?_eq_none h1] at h
    simp [hs]
  · rw [setB_ne e]; exact h
theorem setB_self (l : Array Bool) (i : Nat) (h : i < l.size) : (l.setIfInBounds i true).getD i false = true := by simp [h]
section
variable {B : Nat} {w0 w w' : World} {mem : Nat → Bool} {l : Array Bool} {r : Nat → Nat}
theorem Bk.start (w : World) (mem : Nat → Bool) (n : Nat) (r : Nat → Nat) : Bk w.heap.size w mem (Array.replicate n false) r w.drew := by
  have hz : ∀ i, (Array.replicate n false).getD i false = false := fun i => by
    by_cases h : i < n <;> simp [h]
  exact ⟨fun i j _ _ h => by rw [hz] at h; exact absurd h (by decide), fun i _ h => by rw [hz] at h; exact absurd h (by decide), (Below.refl _ _).drew, Nat.le_refl _⟩
theorem Bk.pure (h : Bk B w0 mem l r w) (i : Nat) (hm : mem i = false) : Bk B w0 mem (l.setIfInBounds i true) r w := by
  have ne : ∀ j, mem j = true → i ≠ j := fun j hj e => by rw [e, hj] at hm; exact absurd hm (by decide)
  refine ⟨fun a b ha hb h1 h2 h3 => ?_, fun a ha h1 => ?_, h.bel, h.size⟩
  · rw [setB_ne (ne a ha)] at h1; rw [setB_ne (ne b hb)] at h2
    exact h.inj a b ha hb h1 h2 h3
  · rw [setB_ne (ne a ha)] at h1
    exact h.low a ha h1
theorem Bk.lay (h : Bk B w0 mem l r w) (i : Nat) (ob : Obj) : Bk B w0 mem (l.setIfInBounds i true) (rup r i w.heap.size) (w.alloc ob) := by
  refine ⟨fun a b ha hb h1 h2 h3 => ?_, fun a ha h1 => ?_, h.bel.alloc h.size _, by simp; have := h.size; omega⟩
  · unfold rup
    by_cases ea : a = i
    · subst ea
      have e : ¬ b = a := fun e => h3 e.symm
      rw [if_pos rfl, if_neg e]
      rw [setB_ne h3] at h2
      have := (h.low b hb h2).2; omega
    · rw [setB_ne (fun e => ea e.symm)] at h1
      rw [if_neg ea]
      by_cases eb : b = i
      · rw [if_pos eb]
        have := (h.low a ha h1).2; omega
      · rw [if_neg eb]
        rw [setB_ne (fun e => eb e.symm)] at h2
        exact h.inj a b ha hb h1 h2 h3
  · unfold rup
    by_cases ea : a = i
    · rw [if_pos ea]
      exact ⟨h.size, by simp⟩
    · rw [if_neg ea]
      rw [setB_ne (fun e => ea e.symm)] at h1
      have := h.low a ha h1
      exact ⟨this.1, by simp; omega⟩
/-- A store into one of them. -/
theorem Bk.store (h : Bk B w0 mem l r w) (i : Nat) (hm : mem i = false) (hs : w'.heap.size = w.heap.size) (hb : Below B w0 w') : Bk B w0 mem (l.setIfInBounds i true) r w' := by
  have h' := h.pure i hm
  exact ⟨h'.inj, fun a ha h1 => by rw [hs]; exact h'.low a ha h1, hb, by rw [hs]; exact h.size⟩
theorem heap_lay {ob ob' : Obj} {g : Nat} (h : w.heap[g]? = some ob) : (w.alloc ob').heap[g]? = some ob :=
  (Below.heap_alloc _ _ _ (Array.getElem?_eq_some_iff.1 h).1).trans h
theorem heap_new (w : World) (ob : Obj) : (w.alloc ob).heap[w.heap.size]? = some ob := by show (w.heap.push _)[w.heap.size]? = _; simp
theorem heap_far {ob : Obj} {g b i : Nat} {v : Value} (h : w.heap[g]? = some ob) (hb : b ≠ g) : (w.setCell ⟨b, i, Option.none⟩ v).heap[g]? = some ob :=
  (Below.heap_setCell w ⟨b, i, Option.none⟩ v g (fun e => hb e.symm)).trans h
theorem heap_set {g i : Nat} {C : Array Value} {T : TypeId} {v : Value} (h : w.heap[g]? = some (.cells C T)) : (w.setCell ⟨g, i, Option.none⟩ v).heap[g]? = some (.cells (C.setIfInBounds i v) T) := by
  unfold World.setCell
  simp only
  rw [Array.getElem?_modify, if_pos rfl, h]
  simp
/-- None is ready: all have come up. -/
def lowB' (md : Region.Mode) (ops : Array Oper) : Bool := (List.range ops.size).all fun j => (depsOf md ops j).all fun x => decide (x < j)
theorem all_done {md : Region.Mode} {ops : Array Oper} {l : Array Bool} (hs : l.size = ops.size) (hB : lowB' md ops = true) (hr : Region.ready md ops l = []) : ∀ j, j < ops.size → l.getD j false = true := by
  intro j
  induction j using Nat.strongRecOn with
  | _ j ih =>
    intro hj
    cases hl : l.getD j false with
    | true => rfl
    | false =>
      have hlow : ∀ x ∈ depsOf md ops j, x < j := by
        simp only [lowB', List.all_eq_true, List.mem_range, decide_eq_true_eq] at hB
        exact hB j hj
      have : j ∈ Region.ready md ops l := ready_iff.2 ⟨by rw [both (by rw [hs]; exact hj) true false]; exact hl, hj, fun x hx => ih x (hlow x hx) (by have := hlow x hx; omega)⟩
      rw [hr] at this
      cases this
theorem rbox_of_heap {g : Nat} {W H C D : Int} {a : Option Addr} {n cap : Nat} {T : TypeId} (h : w.heap[g]? = some (.cells #[.int .i64 W, .int .i64 H, .int .i64 C, .int .i64 D, .slice a n cap] T)) : RBox w g W H C D a n cap := by
  have hl := (Array.getElem?_eq_some_iff.1 h).1
  refine ⟨⟨hl, ?_, ?_, ?_, ?_, ?_, ?_, ?_, ?_⟩, ?_, ?_⟩
  all_goals first
    | (unfold World.cell?; simp only; rw [h]; rfl)
    | (unfold World.frozen?; simp only; rw [h]; rfl)
end
end Go.Proofs.Ytbmbelnjgnahhaa
