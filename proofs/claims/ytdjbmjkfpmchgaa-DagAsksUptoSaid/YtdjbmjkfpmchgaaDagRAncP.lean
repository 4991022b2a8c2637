/-
  The reference's Ancestors: what holds at each round.
-/
import Derived.Test.YtdjbmjkfpmchgaaDagTail
namespace Go.Proofs.Ytdjbmjkfpmchgaa
open Go.RowKit Go.Maps

/-- Met so far, and still to do. -/
structure RInv (ns : List Nd) (k : ByteArray) (met todo : List ByteArray) (P : Nat) : Prop where
  m : ∀ x ∈ met, Reach ns k x
  t : ∀ x ∈ todo, Reach ns k x
  nodup : met.Nodup
  closed : ∀ x ∈ met, ∀ p ∈ psOf ns x, p ∈ met ∨ p ∈ todo
  has : k ∈ met ∨ k ∈ todo
  len : todo.length ≤ 1 + met.length * P
section
variable {ns : List Nd} {k : ByteArray} {met todo : List ByteArray} {P : Nat}
theorem RInv.first : RInv ns k [] [k] P := ⟨(fun x h => nomatch h), (fun x h => by rw [List.mem_singleton] at h; subst h; exact .refl), .nil, (fun x h => nomatch h), .inr (by simp), by simp⟩
theorem RInv.le (h : RInv ns k met todo P) (G : Good ns) (hk : k ∈ keysOf ns) : met.length ≤ 500 := by
  have h1 := List.Nodup.length_le_of_subset h.nodup (l₂ := keysOf ns) (fun x hx => (h.m x hx).there G hk)
  have h2 : (keysOf ns).length = ns.length := by simp [keysOf]
  have := G.few
  omega
theorem RInv.skip {x : ByteArray} (h : RInv ns k met (x :: todo) P) (hx : x ∈ met) : RInv ns k met todo P :=
  ⟨h.m, fun y hy => h.t y (List.mem_cons_of_mem _ hy), h.nodup, fun y hy p hp => by
    rcases h.closed y hy p hp with h1 | h1
    · exact .inl h1
    · rcases List.mem_cons.1 h1 with rfl | h1
      · exact .inl hx
      · exact .inr h1, by
    rcases h.has with h1 | h1
    · exact .inl h1
    · rcases List.mem_cons.1 h1 with rfl | h1
      · exact .inl hx
      · exact .inr h1, by have := h.len; simp at this; omega⟩
theorem RInv.more {x : ByteArray} (h : RInv ns k met (x :: todo) P) (hx : x ∉ met) (hP : (psOf ns x).length ≤ P) : RInv ns k (met ++ [x]) (todo ++ psOf ns x) P :=
  ⟨fun y hy => by
    rcases List.mem_append.1 hy with hy | hy
    · exact h.m y hy
    · rw [List.mem_singleton] at hy; subst hy; exact h.t y (by simp), fun y hy => by
    rcases List.mem_append.1 hy with hy | hy
    · exact h.t y (List.mem_cons_of_mem _ hy)
    · exact .step (h.t x (by simp)) hy, by
    rw [List.nodup_append]
    exact ⟨h.nodup, by simp, fun a ha b hb e => hx (by rw [List.mem_singleton] at hb; rw [← hb, ← e]; exact ha)⟩, fun y hy p hp => by
    rcases List.mem_append.1 hy with hy | hy
    · rcases h.closed y hy p hp with h1 | h1
      · exact .inl (List.mem_append_left _ h1)
      · rcases List.mem_cons.1 h1 with rfl | h1
        · exact .inl (by simp)
        · exact .inr (List.mem_append_left _ h1)
    · rw [List.mem_singleton] at hy; subst hy
      exact .inr (List.mem_append_right _ hp), by
    rcases h.has with h1 | h1
    · exact .inl (List.mem_append_left _ h1)
    · rcases List.mem_cons.1 h1 with rfl | h1
      · exact .inl (by simp)
      · exact .inr (List.mem_append_left _ h1), by
    have := h.len
    simp only [List.length_cons, List.length_append, List.length_nil] at *
    rw [Nat.add_mul]; omega⟩
theorem RInv.anc (h : RInv ns k met [] P) (hk : k ∈ keysOf ns) {u : List ByteArray} (hu : Rises u) (hm : ∀ x, x ∈ u ↔ x ∈ met) : IsAnc ns k u :=
  ⟨hu, fun x => by
    rw [hm]
    refine ⟨fun hx => ⟨hk, h.m x hx⟩, fun h' => ?_⟩
    have hr := h'.2
    clear h'
    induction hr with
    | refl => exact h.has.resolve_right (fun h => nomatch h)
    | step _ hx ih => exact (h.closed _ ih _ hx).resolve_right (fun h => nomatch h)⟩
end

/-- The two rows, and what is between them. -/
structure MT (w0 w : World) (vm vt : Value) (met todo : List ByteArray) (q : Option Nat) : Prop where
  below : Below w0.heap.size w0 w
  own : w.ownsRow w0.heap.size 9 1 vm met.length (met.map Value.string)
  tail : OwnT w w0.heap.size todo vt q
  apart : ∀ g, q = some g → vm.ownBlock ≠ some g
section
variable {w0 w w' : World} {vm vt : Value} {met todo : List ByteArray} {q : Option Nat}
theorem MT.go (h : MT w0 w vm vt met todo q) (hb : Below w.heap.size w w') : MT w0 w' vm vt met todo q :=
  ⟨below_size h.below hb, owns_below h.own hb, h.tail.below hb, h.apart⟩
theorem MT.drew (h : MT w0 w vm vt met todo q) : MT w0 w.drew vm vt met todo q := ⟨h.below.drew, h.own, h.tail, h.apart⟩
theorem MT.drewN (h : MT w0 w vm vt met todo q) (k : Nat) : MT w0 (w.drewN k) vm vt met todo q := ⟨below_drewN h.below k, h.own, h.tail, h.apart⟩
end
section
variable {w0 w w' : World} {met todo : List ByteArray} {q : Option Nat}
/-- met has grown. -/
theorem MT.appM {am at_ : Option Addr} {cm ct m n : Nat} {x : ByteArray} {a' : Option Addr} {cap' : Nat} (h : MT w0 w (.slice am m cm) (.slice at_ n ct) met todo q) (ho : w'.ownsRow w0.heap.size 9 1 (.slice a' (m + 1) cap') (m + 1) ((met ++ [x]).map Value.string)) (hm : met.length = m) (hg : w.grownBy w' (Value.slice am m cm).ownBlock)
    (hnew : ∀ r, (Value.slice a' (m + 1) cap').ownBlock = some r → (Value.slice am m cm).ownBlock = some r ∨ w.heap.size ≤ r) : MT w0 w' (.slice a' (m + 1) cap') (.slice at_ n ct) (met ++ [x]) todo q := by
  subst hm
  refine ⟨?_, by rw [List.length_append]; exact ho, h.tail.kept hg (fun g hg' e => h.apart g hg' e), fun g hg' e => ?_⟩
  · exact h.below.grown hg h.below.size (fun k hk => (h.own.lt k hk).1)
  · rcases hnew g e with e2 | e2
    · exact h.apart g hg' e2
    · have := (h.tail.lt g hg').2; omega
/-- todo has grown. -/
theorem MT.appT {vm : Value} {at_ : Option Addr} {ct n : Nat} {ps : List ByteArray} {a' : Option Addr} {cap' N : Nat} {q' : Option Nat} (h : MT w0 w vm (.slice at_ n ct) met todo q) (ho : OwnT w' w0.heap.size (todo ++ ps) (.slice a' N cap') q') (hg : w.grownBy w' q) (hq : ∀ g, q' = some g → q = some g ∨ w.heap.size ≤ g) : MT w0 w' vm (.slice a' N cap') met (todo ++ ps) q' := by
  refine ⟨h.below.grown hg h.below.size (fun k hk => (h.tail.lt k hk).1), ?_, ho, fun g hg' e => ?_⟩
  · refine h.own.kept hg ?_
    cases hq0 : q with
    | none => cases vm.ownBlock <;> simp
    | some g => exact .inr (h.apart g hq0)
  · rcases hq g hg' with e2 | e2
    · exact h.apart g e2 e
    · have := (h.own.lt g e).2; omega
end
def lenV : Value → Nat
  | .slice _ n _ => n
  | _ => 0
end Go.Proofs.Ytdjbmjkfpmchgaa
