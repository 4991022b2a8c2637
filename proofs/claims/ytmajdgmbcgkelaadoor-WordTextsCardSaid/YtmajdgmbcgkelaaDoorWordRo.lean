/-
  What the reference's Name answers, in its own order.
-/
import Derived.Test.YtmajdgmbcgkelaaDoorWordNamesP
namespace Go.Proofs.YtmajdgmbcgkelaaDoor
open Go.RowKit

def nmGo : Nat → List Nat → Bool
  | _, [] => true
  | p, c :: rs => letterP c && (!(decide (c = 47) && decide (p = 47)) && nmGo c rs)
theorem nameGo_nm : ∀ (rs : List Nat) (n last : Nat), 0 < n → n + rs.length ≤ 40 → nameGo n last rs = (nmGo last rs && (decide (lastOf last rs ≠ 46) && decide (lastOf last rs ≠ 47)))
  | [], n, last, h0, _ => by
    show (decide (0 < n) && _) = _
    rw [decide_eq_true h0]; rfl
  | c :: rs, n, last, h0, hn => by
    simp only [List.length_cons] at hn
    rw [name_cons]
    by_cases h1 : letterP c = false
    · rw [if_pos (.inr h1)]; unfold nmGo; rw [h1]; rfl
    · have h1' : letterP c = true := by simpa using h1
      rw [if_neg (fun h => h.elim (by omega) h1), if_neg (by omega)]
      by_cases h3 : c = 47 ∧ last = 47
      · rw [if_pos h3]; unfold nmGo; rw [decide_eq_true h3.1, decide_eq_true h3.2, h1']; rfl
      · rw [if_neg h3, nameGo_nm rs (n + 1) c (by omega) (by omega)]
        have e : (!(decide (c = 47) && decide (last = 47))) = true := by
          by_cases a : c = 47
          · rw [decide_eq_false (fun b => h3 ⟨a, b⟩), Bool.and_false]; rfl
          · rw [decide_eq_false a]; rfl
        show _ = ((letterP c && (!(decide (c = 47) && decide (last = 47)) && nmGo c rs)) && _)
        rw [h1', e, Bool.true_and, Bool.true_and]
        rfl
theorem name_nil : nameGo 0 47 [] = false := rfl
theorem name_long (rs : List Nat) (h : 40 < rs.length) : nameGo 0 47 rs = false := by
  cases hh : nameGo 0 47 rs with
  | false => rfl
  | true =>
    have := (nameGo_parts rs 0 47 hh (by omega)).2.1
    omega
theorem name_head (rs : List Nat) (h : rs.getD 0 0 = 45 ∨ rs.getD 0 0 = 46 ∨ rs.getD 0 0 = 47) : nameGo 0 47 rs = false := by
  cases rs with
  | nil => rfl
  | cons c rs =>
    have h : c = 45 ∨ c = 46 ∨ c = 47 := h
    rw [name_cons]
    by_cases h1 : 40 < 0 + 1 ∨ letterP c = false
    · rw [if_pos h1]
    · rw [if_neg h1]
      by_cases h2 : (0 : Nat) = 0 ∧ (c = 45 ∨ c = 46)
      · rw [if_pos h2]
      · rw [if_neg h2, if_pos (by omega)]
theorem lastOf_getD : ∀ (rs : List Nat) (l : Nat), 0 < rs.length → lastOf l rs = rs.getD (rs.length - 1) 0
  | [], _, h => by simp at h
  | [c], l, _ => rfl
  | c :: d :: rs, l, _ => by
    show lastOf c (d :: rs) = _
    rw [lastOf_getD (d :: rs) c (by simp)]
    simp [List.getD_eq_getElem?_getD]
theorem name_last (rs : List Nat) (h : rs.getD (rs.length - 1) 0 = 46 ∨ rs.getD (rs.length - 1) 0 = 47) : nameGo 0 47 rs = false := by
  cases hh : nameGo 0 47 rs with
  | false => rfl
  | true =>
    obtain ⟨a, _, c, d, _⟩ := nameGo_parts rs 0 47 hh (by omega)
    rw [lastOf_getD rs 47 (by omega)] at c d
    omega
theorem name_rest (rs : List Nat) (h1 : 0 < rs.length) (h2 : rs.length ≤ 40) (h3 : rs.getD 0 0 ≠ 45 ∧ rs.getD 0 0 ≠ 46 ∧ rs.getD 0 0 ≠ 47) (h4 : rs.getD (rs.length - 1) 0 ≠ 46 ∧ rs.getD (rs.length - 1) 0 ≠ 47) : nameGo 0 47 rs = nmGo 0 rs := by
  cases rs with
  | nil => simp at h1
  | cons c rs =>
    have h3 : c ≠ 45 ∧ c ≠ 46 ∧ c ≠ 47 := h3
    rw [← lastOf_getD (c :: rs) 47 h1] at h4
    have h4 : lastOf c rs ≠ 46 ∧ lastOf c rs ≠ 47 := h4
    simp only [List.length_cons] at h2
    rw [name_cons]
    show _ = (letterP c && (!(decide (c = 47) && decide ((0 : Nat) = 47)) && nmGo c rs))
    have e : (!(decide (c = 47) && decide ((0 : Nat) = 47))) = true := by rw [decide_eq_false h3.2.2]; rfl
    rw [e, Bool.true_and]
    cases hl : letterP c with
    | false => rw [if_pos (.inr rfl)]; rfl
    | true =>
      rw [if_neg (fun h => h.elim (by omega) (by simp)), if_neg (by omega), if_neg (by omega), nameGo_nm rs (0 + 1) c (by omega) (by omega), decide_eq_true h4.1, decide_eq_true h4.2, Bool.and_true, Bool.true_and]
      simp
end Go.Proofs.YtmajdgmbcgkelaaDoor
