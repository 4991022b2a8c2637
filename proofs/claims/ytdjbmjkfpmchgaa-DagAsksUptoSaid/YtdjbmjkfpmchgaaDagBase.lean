/-
  dag's Base.
-/
import Derived.Test.YtdjbmjkfpmchgaaDagLogW
namespace Go.Proofs.Ytdjbmjkfpmchgaa
open Go.RowKit Go.Maps

/-- The best of the first i of l that are in m. -/
def BestOf (ns : List Nd) (l m : List ByteArray) (i : Nat) (best : ByteArray) (found : Bool) : Prop :=
  (found = false → best = ByteArray.empty ∧ ∀ j, j < i → l.getD j ByteArray.empty ∉ m) ∧
  (found = true → best ∈ l ∧ best ∈ m ∧ (∃ j, j < i ∧ best = l.getD j ByteArray.empty) ∧ ∀ j, j < i → l.getD j ByteArray.empty ∈ m → l.getD j ByteArray.empty = best ∨ stOf ns (l.getD j ByteArray.empty) < stOf ns best ∨ (stOf ns (l.getD j ByteArray.empty) = stOf ns best ∧ ltB (l.getD j ByteArray.empty) best = true))
theorem BestOf.zero (ns : List Nd) (l m : List ByteArray) : BestOf ns l m 0 ByteArray.empty false := ⟨fun _ => ⟨rfl, fun j h => absurd h (by omega)⟩, fun h => nomatch h⟩
theorem BestOf.skip {ns : List Nd} {l m : List ByteArray} {i : Nat} {best : ByteArray} {found : Bool} (h : BestOf ns l m i best found) (hn : l.getD i ByteArray.empty ∉ m) : BestOf ns l m (i + 1) best found :=
  ⟨fun e => ⟨(h.1 e).1, fun j hj => by
    by_cases e2 : j = i
    · subst e2; exact hn
    · exact (h.1 e).2 j (by omega)⟩, fun e => ⟨(h.2 e).1, (h.2 e).2.1, (by obtain ⟨j, hj, e2⟩ := (h.2 e).2.2.1; exact ⟨j, by omega, e2⟩), fun j hj hm => by
    by_cases e2 : j = i
    · subst e2; exact absurd hm hn
    · exact (h.2 e).2.2.2 j (by omega) hm⟩⟩
theorem BestOf.keep {ns : List Nd} {l m : List ByteArray} {i : Nat} {best : ByteArray} (h : BestOf ns l m i best true) (hl : stOf ns (l.getD i ByteArray.empty) < stOf ns best) : BestOf ns l m (i + 1) best true :=
  ⟨fun e => (nomatch e), fun e => ⟨(h.2 e).1, (h.2 e).2.1, (by obtain ⟨j, hj, e2⟩ := (h.2 e).2.2.1; exact ⟨j, by omega, e2⟩), fun j hj hm => by
    by_cases e2 : j = i
    · subst e2; exact .inr (.inl hl)
    · exact (h.2 e).2.2.2 j (by omega) hm⟩⟩
theorem rises_at {l : List ByteArray} (h : Rises l) {i j : Nat} (hij : i < j) (hj : j < l.length) : ltB (l.getD i ByteArray.empty) (l.getD j ByteArray.empty) = true := by
  have hp := (List.pairwise_iff_getElem.1 h) i j (by omega) hj hij
  have e3 : l[i]'(by omega) = l.getD i ByteArray.empty := by simp [List.getD, show i < l.length by omega]
  have e4 : l[j] = l.getD j ByteArray.empty := by simp [List.getD, hj]
  rw [e3, e4] at hp
  exact hp
theorem BestOf.take {ns : List Nd} {l m : List ByteArray} {i : Nat} {best : ByteArray} {found : Bool} (h : BestOf ns l m i best found) (hr : Rises l) (hi : i < l.length) (hm : l.getD i ByteArray.empty ∈ m) (hg : found = true → stOf ns best ≤ stOf ns (l.getD i ByteArray.empty)) : BestOf ns l m (i + 1) (l.getD i ByteArray.empty) true :=
  ⟨fun e => (nomatch e), fun _ => ⟨getDS_mem hi, hm, ⟨i, by omega, rfl⟩, fun j hj hjm => by
    by_cases e2 : j = i
    · subst e2; exact .inl rfl
    · have hlt := rises_at hr (show j < i by omega) hi
      cases found with
      | false => exact absurd hjm ((h.1 rfl).2 j (by omega))
      | true =>
        have hg' := hg rfl
        rcases (h.2 rfl).2.2.2 j (by omega) hjm with e | h1 | ⟨h1, _⟩
        · rw [← e] at hg'
          rcases Int.lt_or_eq_of_le hg' with h3 | h3
          · exact .inr (.inl h3)
          · exact .inr (.inr ⟨h3, hlt⟩)
        · exact .inr (.inl (by omega))
        · rcases Int.lt_or_eq_of_le hg' with h3 | h3
          · exact .inr (.inl (by omega))
          · exact .inr (.inr ⟨by omega, hlt⟩)⟩⟩
theorem BestOf.base {ns : List Nd} {a b : ByteArray} {l m : List ByteArray} {best : ByteArray} {found : Bool} (hl : IsAnc ns a l) (hm : IsAnc ns b m) (ha : a ∈ keysOf ns) (hb : b ∈ keysOf ns) (h : BestOf ns l m l.length best found) :
    BaseIs ns a b best (if found then 0 else 14) := by
  cases found with
  | false =>
    obtain ⟨rfl, h2⟩ := h.1 rfl
    refine .inr (.inl ⟨⟨ha, hb⟩, fun y hy => ?_, rfl, rfl⟩)
    obtain ⟨j, hj, e⟩ := mem_getDS ((hl.mem y).2 hy.1)
    exact h2 j hj (by rw [e]; exact (hm.mem y).2 hy.2)
  | true =>
    obtain ⟨h1, h2, _, h3⟩ := h.2 rfl
    refine .inr (.inr ⟨⟨ha, hb⟩, ⟨⟨(hl.mem best).1 h1, (hm.mem best).1 h2⟩, fun y hy => ?_⟩, rfl⟩)
    obtain ⟨j, hj, rfl⟩ := mem_getDS ((hl.mem y).2 hy.1)
    exact h3 j hj ((hm.mem _).2 hy.2)
end Go.Proofs.Ytdjbmjkfpmchgaa
