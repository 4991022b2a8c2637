/-
  Names and texts as lists of signs: what a letter more, a blank, a point do. Plain lemmas.
-/
import Derived.Test.YtmajdgmbcgkelaaDoorWordN
namespace Go.Proofs.YtmajdgmbcgkelaaDoor
open Go.RowKit
open Go.Lib (decodeL validD encodeRune decodeL_width)

/-- The sign ahead of what follows. -/
def lastOf (last : Nat) : List Nat → Nat
  | [] => last
  | r :: rs => lastOf r rs

theorem nameGo_parts : ∀ (rs : List Nat) (n last : Nat), nameGo n last rs = true → n ≤ 40 →
    0 < n + rs.length ∧ n + rs.length ≤ 40 ∧ lastOf last rs ≠ 46 ∧ lastOf last rs ≠ 47 ∧ (∀ r ∈ rs, letterP r = true) ∧ ∀ ts, nameGo n last (rs ++ ts) = nameGo (n + rs.length) (lastOf last rs) ts
  | [], n, last, h, hn => by
    simp only [nameGo, Bool.and_eq_true, decide_eq_true_eq] at h
    exact ⟨h.1, hn, h.2.1, h.2.2, fun r hr => (nomatch hr), fun ts => rfl⟩
  | r :: rs, n, last, h, hn => by
    rw [name_cons] at h
    split at h
    · cases h
    · rename_i h1
      split at h
      · cases h
      · rename_i h2
        split at h
        · cases h
        · rename_i h3
          obtain ⟨a, b, c, d, e, f⟩ := nameGo_parts rs (n + 1) r h (by omega)
          refine ⟨by simp only [List.length_cons]; omega, by simp only [List.length_cons]; omega, c, d, ?_, fun ts => ?_⟩
          · intro x hx
            rcases List.mem_cons.1 hx with rfl | hx
            · have := fun h => h1 (.inr h)
              simpa using this
            · exact e x hx
          · rw [List.cons_append, name_cons, if_neg h1, if_neg h2, if_neg h3, f ts]
            simp only [List.length_cons, lastOf]
            rw [Nat.add_assoc, Nat.add_comm 1]

theorem nameGo_later : ∀ (rs : List Nat) (n last : Nat), nameGo n last rs = true → 0 < n → n + rs.length < 40 → nameGo (n + 1) last rs = true
  | [], n, last, h, hn, _ => by
    simp only [nameGo, Bool.and_eq_true, decide_eq_true_eq] at h ⊢
    exact ⟨by omega, h.2⟩
  | r :: rs, n, last, h, hn, hl => by
    simp only [List.length_cons] at hl
    rw [name_cons] at h ⊢
    split at h
    · cases h
    · rename_i h1
      rw [if_neg (by rintro (h | h); omega; exact h1 (.inr h))]
      split at h
      · cases h
      · rw [if_neg (by omega)]
        split at h
        · cases h
        · rename_i h3
          rw [if_neg h3]
          exact nameGo_later rs (n + 1) r h (by omega) (by omega)

theorem nameGo_head (rs : List Nat) (h : nameGo 0 47 rs = true) (hl : rs.length < 40) : nameGo 0 47 (97 :: rs) = true := by
  rw [name_cons, if_neg (by decide), if_neg (by decide), if_neg (by decide)]
  cases rs with
  | nil => cases h
  | cons r rs =>
    simp only [List.length_cons] at hl
    rw [name_cons] at h ⊢
    split at h
    · cases h
    · rename_i h1
      rw [if_neg (by rintro (h | h); omega; exact h1 (.inr h)), if_neg (by omega)]
      split at h
      · cases h
      · split at h
        · cases h
        · rename_i h3
          rw [if_neg (by omega)]
          exact nameGo_later rs 1 r h (by omega) (by omega)

theorem nameGo_bad : ∀ (rs : List Nat) (n last : Nat), 65533 ∈ rs → nameGo n last rs = false
  | [], _, _, h => nomatch h
  | r :: rs, n, last, h => by
    rw [name_cons]
    by_cases e : r = 65533
    · subst e
      rw [if_pos (.inr (by decide))]
    · have : 65533 ∈ rs := by
        rcases List.mem_cons.1 h with h | h
        · exact absurd h.symm e
        · exact h
      rw [nameGo_bad rs _ _ this]
      split
      · rfl
      · split
        · rfl
        · split <;> rfl
theorem name_valid (l : List UInt8) (h : nameL l = true) : validD l = true := by
  cases hv : validD l with
  | true => rfl
  | false =>
    have := nameGo_bad (runes l) 0 47 (has_bad l hv)
    unfold nameL at h
    rw [this] at h
    cases h

theorem letter_shown (r : Nat) (h : letterP r = true) : hid r = false := by
  unfold letterP at h
  unfold hid
  simp only [Bool.or_eq_true, Bool.and_eq_true, decide_eq_true_eq, ne_eq, decide_not, Bool.not_eq_true', decide_eq_false_iff_not] at h
  simp only [Bool.or_eq_false_iff, Bool.and_eq_false_iff, decide_eq_false_iff_not]
  omega
theorem textGo_shown : ∀ (rs : List Nat) (n : Nat), (∀ r ∈ rs, hid r = false) → n + rs.length ≤ 200 → textGo n rs = true
  | [], _, _, _ => rfl
  | r :: rs, n, h, hl => by
    simp only [List.length_cons] at hl
    rw [text_cons, if_neg (by rintro (a | ⟨a, _⟩); omega; rw [h r (by simp)] at a; cases a)]
    exact textGo_shown rs (n + 1) (fun x hx => h x (by simp [hx])) (by omega)
theorem textGo_le : ∀ (rs : List Nat) (n : Nat), textGo n rs = true → n ≤ 200 → n + rs.length ≤ 200
  | [], _, _, hn => by simpa using hn
  | r :: rs, n, h, hn => by
    rw [text_cons] at h
    split at h
    · cases h
    · rename_i h1
      have := textGo_le rs (n + 1) h (by omega)
      simp only [List.length_cons]
      omega

theorem ok_small (r : Nat) (h : r < 128) : okR r := .inl (by omega)
theorem enc_ascii (r : Nat) (h : r < 128) : enc [r] = [UInt8.ofNat r] := by
  rw [enc_cons, enc_nil]
  rcases head_enc r (ok_small r h) [] with ⟨_, e⟩ | ⟨e, _⟩
  · exact e
  · omega

/-- What the statement on names says of a name. -/
theorem names_law (l : List UInt8) (h : nameL l = true) :
    validD l = true ∧ ((runes l).length < 40 → nameL (l ++ [97]) = true ∧ nameL ([97] ++ l) = true) ∧ nameL (l ++ [32]) = false ∧ nameL (l ++ [46]) = false ∧ nameL (l ++ [47, 47, 97]) = false ∧ nameL ([45] ++ l) = false ∧ textL l = true := by
  have hv := name_valid l h
  obtain ⟨rs, hok, rfl⟩ := signs_of l hv
  have hr := runes_enc rs hok
  unfold nameL at h
  rw [hr] at h
  obtain ⟨p1, p2, p3, p4, p5, p6⟩ := nameGo_parts rs 0 47 h (by omega)
  have app : ∀ (t : List UInt8), nameL (enc rs ++ t) = nameGo 0 47 (rs ++ runes t) := fun t => by unfold nameL; rw [runes_append rs t hok]
  have pre : ∀ b : Nat, b < 128 → nameL ([UInt8.ofNat b] ++ enc rs) = nameGo 0 47 (b :: rs) := fun b hb => by
    have e : [UInt8.ofNat b] ++ enc rs = enc (b :: rs) := by rw [enc_cons, ← enc_ascii b hb, enc_cons, enc_nil, List.append_nil]
    unfold nameL
    rw [e, runes_enc (b :: rs) (fun x hx => by rcases List.mem_cons.1 hx with rfl | hx; exact ok_small _ hb; exact hok x hx)]
  refine ⟨hv, fun hlt => ?_, ?_, ?_, ?_, ?_, ?_⟩
  · rw [hr] at hlt
    refine ⟨?_, ?_⟩
    · rw [app, p6]
      have e : runes [97] = [97] := by kernel_rfl
      rw [e, name_cons, if_neg (by rintro (h | h); omega; revert h; decide), if_neg (by omega), if_neg (by omega)]
      simp only [nameGo]
      simp
    · exact (pre 97 (by omega)).trans (nameGo_head rs h hlt)
  · have e : runes [32] = [32] := by kernel_rfl
    rw [app, p6, e, name_cons, if_pos (.inr (by decide))]
  · have e : runes [46] = [46] := by kernel_rfl
    rw [app, p6, e, name_cons]
    split
    · rfl
    · split
      · rfl
      · split
        · rfl
        · simp [nameGo]
  · have e : runes [47, 47, 97] = [47, 47, 97] := by kernel_rfl
    rw [app, p6, e, name_cons]
    split
    · rfl
    · split
      · rfl
      · split
        · rfl
        · rw [name_cons]
          split
          · rfl
          · split
            · rfl
            · rw [if_pos ⟨rfl, rfl⟩]
  · exact (pre 45 (by omega)).trans (by rw [name_cons, if_neg (by decide), if_pos (by decide)])
  · unfold textL
    rw [hv, hr, Bool.true_and]
    exact textGo_shown rs 0 (fun r hr => letter_shown r (p5 r hr)) (by omega)
end Go.Proofs.YtmajdgmbcgkelaaDoor
