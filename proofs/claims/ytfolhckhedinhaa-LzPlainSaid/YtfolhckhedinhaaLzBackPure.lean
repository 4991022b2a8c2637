/-
  What Find finds makes the bytes again. Nothing of the program.
-/
import Derived.Test.YtfolhckhedinhaaLzRefPure
import Derived.Test.YtfolhckhedinhaaLzWalkJoins
namespace Go.Proofs.Ytfolhckhedinhaa
open Go.RowKit

theorem lcp_get (xs : List Int) : ∀ (m p a j : Nat), j < lcp xs p a m → xs.getD (p + j) 0 = xs.getD (a + j) 0 := by
  intro m
  induction m with
  | zero => intro p a j h; simp [lcp] at h
  | succ m ih =>
    intro p a j h
    rw [lcp] at h
    split at h
    · next he =>
      cases j with
      | zero => exact he
      | succ j =>
        have := ih (p + 1) (a + 1) j (by omega)
        rw [show p + (j + 1) = p + 1 + j by omega, show a + (j + 1) = a + 1 + j by omega]
        exact this
    · omega

/-- What a found piece keeps. -/
def Good (xs : List Int) (a : Nat) (l d : Nat) : Prop := l = 0 ∨ (3 ≤ l ∧ 1 ≤ d ∧ d ≤ 32768 ∧ d ≤ a ∧ l ≤ lcp xs (a - d) a (mostOf xs.length a) ∧ r3 xs (a - d) a = true)
theorem mW_good {xs : List Int} (hx : isB xs) (a : Nat) (ha : a + 3 ≤ xs.length) : ∀ (f : Nat) (p : Int) (l d : Nat), p < a → (0 ≤ p → code xs p.toNat = code xs a ∧ p.toNat + 3 ≤ xs.length) → Good xs a l d →
    Good xs a (mW xs a (mostOf xs.length a) f p l d).1 (mW xs a (mostOf xs.length a) f p l d).2 := by
  intro f
  induction f with
  | zero => intro p l d _ _ h; exact h
  | succ f ih =>
    intro p l d hp hc hg
    rw [mW]
    split
    · exact hg
    · next hn =>
      obtain ⟨P, rfl⟩ := Int.eq_ofNat_of_zero_le (show 0 ≤ p by omega)
      obtain ⟨c1, c2⟩ := hc (by omega)
      simp only [Int.toNat_natCast] at c1 c2 ⊢
      have hav : aheadV xs P = lastOf xs P (code xs a) := by rw [aheadV, if_pos c2, c1]
      have hb := aheadV_bd xs P
      have h3 := (r3_iff hx P a).2 ⟨ha, c1⟩
      refine ih _ _ _ (by omega) (fun h => by rw [hav] at h ⊢; exact lastOf_code xs P _ h) ?_
      split
      · have hl3 := lcp_three h3 (mostOf xs.length a) (by unfold mostOf; omega)
        have hs : a - (a - P) = P := by omega
        refine .inr ⟨by omega, by omega, by omega, by omega, ?_, ?_⟩
        · rw [hs]; exact Nat.le_refl _
        · rw [hs]; exact h3
      · exact hg
theorem mtch_good {xs : List Int} (hx : isB xs) (a : Nat) : Good xs a (mtch xs a).1 (mtch xs a).2 := by
  by_cases ha : a + 3 ≤ xs.length
  · have hav : aheadV xs a = lastOf xs a (code xs a) := by rw [aheadV, if_pos ha]
    have hb := aheadV_bd xs a
    exact mW_good hx a ha 64 (aheadV xs a) 0 0 hb.2 (fun h => by rw [hav] at h ⊢; exact lastOf_code xs a _ h) (.inl rfl)
  · unfold mtch
    rw [aheadV, if_neg ha, mW, if_pos (.inl (by omega))]
    exact .inl rfl

theorem take_succ_getD (xs : List Int) (k : Nat) (h : k < xs.length) : xs.take (k + 1) = xs.take k ++ [xs.getD k 0] := by
  rw [List.take_add_one, List.getD, List.getElem?_eq_getElem h]
  rfl
theorem copyN_take (xs : List Int) (a d m : Nat) (hd : 1 ≤ d) (hda : d ≤ a) (hm : a + m ≤ xs.length) : ∀ k, k ≤ lcp xs (a - d) a m → copyN (xs.take a) d k = xs.take (a + k) := by
  intro k
  induction k with
  | zero => intro _; rfl
  | succ k ih =>
    intro hk
    have hlm := lcp_le xs (a - d) a m
    have hl : (xs.take (a + k)).length = a + k := by rw [List.length_take]; omega
    rw [copyN, ih (by omega), ← Nat.add_assoc, take_succ_getD xs (a + k) (by omega), hl]
    congr 2
    have e := lcp_get xs m (a - d) a k (by omega)
    rw [← e, List.getD, List.getD, List.getElem?_take, if_pos (by omega), show a + k - d = a - d + k by omega]

theorem tokAt_may {xs : List Int} (hx : isB xs) (a : Nat) : mayT (tokAt xs a) = true := by
  have hb := getD_bd' hx a
  have hg := mtch_good hx a
  have hm := mtch_le xs a
  unfold mostOf at hm
  rw [mayT, decide_eq_true_iff]
  unfold tokAt
  split
  · exact .inl ⟨rfl, rfl, by dsimp only; omega, by dsimp only; omega⟩
  · rcases hg with h | h
    · omega
    · exact .inr ⟨by dsimp only; omega, by dsimp only; omega, by dsimp only; omega, by dsimp only; omega, by dsimp only; omega, rfl⟩
theorem tokAt_step (xs : List Int) (a : Nat) : ((stepAt xs a : Nat) : Int) = max (tokAt xs a).1 1 := by
  unfold stepAt tokAt
  split
  · rfl
  · dsimp only; omega
theorem tokAt_dist {xs : List Int} (a : Nat) : (tokAt xs a).2.1 ≤ a := by
  have := mtch_dist xs a
  unfold tokAt
  split <;> dsimp only <;> omega
theorem stepT_take {xs : List Int} (hx : isB xs) (a : Nat) (ha : a < xs.length) : stepT (xs.take a) (tokAt xs a) = xs.take (a + stepAt xs a) := by
  have hg := mtch_good hx a
  have hm := mtch_le xs a
  have hmo : a + mostOf xs.length a ≤ xs.length := by unfold mostOf; omega
  unfold stepT tokAt stepAt
  by_cases h0 : (mtch xs a).1 = 0
  · rw [if_pos h0, if_pos h0, if_pos rfl, take_succ_getD xs a ha]
  · rw [if_neg h0, if_neg h0]
    rcases hg with h | ⟨h1, h2, h3, h4, h5, _⟩
    · exact absurd h h0
    · dsimp only
      rw [if_neg (by omega), Int.toNat_natCast, Int.toNat_natCast]
      exact copyN_take xs a _ _ h2 h4 hmo _ h5
theorem iter_exp {xs : List Int} (hx : isB xs) (hl : xs.length ≤ 40000) (k : Nat) : expT (iter xs k).1 [] = (xs.take (iter xs k).2, 0) := by
  induction k with
  | zero => simp [iter, expT]
  | succ k ih =>
    rw [iter]
    split
    · next h =>
      dsimp only
      rw [expT_append _ _ _ (by rw [ih]), ih]
      dsimp only
      have hs := tokAt_step xs (iter xs k).2
      have hle := stepAt_le xs _ h
      have ht : (xs.take (iter xs k).2).length = (iter xs k).2 := by rw [List.length_take]; omega
      have he : errT (xs.take (iter xs k).2) (tokAt xs (iter xs k).2) = 0 :=
        errT_of (tokAt_may hx _) (by rw [ht]; exact tokAt_dist _) (by rw [ht]; omega)
      rw [expT, if_neg (by omega), expT, stepT_take hx _ h]
    · exact ih
theorem findL_exp {xs : List Int} (hx : isB xs) (hl : xs.length ≤ 40000) : expT (findL xs) [] = (xs, 0) := by
  rw [findL, iter_exp hx hl]
  have h1 := iter_le xs xs.length
  have h2 := iter_ge xs xs.length
  rw [List.take_of_length_le (by omega)]

/-! which token stands where -/
theorem iter_full (xs : List Int) (k : Nat) (h : (iter xs k).2 < xs.length) : (iter xs k).1.length = k := by
  induction k with
  | zero => rfl
  | succ k ih =>
    rw [iter] at h ⊢
    split at h
    · next h' => rw [if_pos h']; simp [ih h']
    · exact absurd h (by assumption)
theorem iter_pre (xs : List Int) (k j : Nat) : ∃ r, (iter xs (k + j)).1 = (iter xs k).1 ++ r := by
  induction j with
  | zero => exact ⟨[], by simp⟩
  | succ j ih =>
    obtain ⟨r, hr⟩ := ih
    rw [← Nat.add_assoc, iter]
    split
    · exact ⟨r ++ [tokAt xs (iter xs (k + j)).2], by dsimp only; rw [hr, List.append_assoc]⟩
    · exact ⟨r, hr⟩
/-- Short of the list's end, places are left, and the token is the place's. -/
theorem iter_tok (xs : List Int) (i : Nat) (h : i < (findL xs).length) : (iter xs i).2 < xs.length ∧ (findL xs)[i]? = some (tokAt xs (iter xs i).2) := by
  by_cases hlt : (iter xs i).2 < xs.length
  · refine ⟨hlt, ?_⟩
    have hi : i < xs.length := by
      have := iter_ge xs i
      omega
    obtain ⟨r, hr⟩ := iter_pre xs (i + 1) (xs.length - (i + 1))
    rw [show i + 1 + (xs.length - (i + 1)) = xs.length by omega] at hr
    rw [findL, hr, iter, if_pos hlt]
    have hf := iter_full xs i hlt
    dsimp only
    rw [List.append_assoc, List.getElem?_append_right (by omega), hf]
    simp
  · exfalso
    rw [← iter_end xs i hlt] at h
    have h2 : ∀ k, (iter xs k).1.length ≤ k := by
      intro k
      induction k with
      | zero => exact Nat.le_refl _
      | succ k ih =>
        rw [iter]
        split
        · simp; omega
        · omega
    have := h2 i
    omega
theorem iter_last (xs : List Int) : (iter xs (findL xs).length).2 = xs.length := by
  by_cases hlt : (iter xs (findL xs).length).2 < xs.length
  · exfalso
    have hf := iter_full xs _ hlt
    have hi : (findL xs).length < xs.length := by
      have := iter_ge xs (findL xs).length
      omega
    obtain ⟨r, hr⟩ := iter_pre xs ((findL xs).length + 1) (xs.length - ((findL xs).length + 1))
    rw [show (findL xs).length + 1 + (xs.length - ((findL xs).length + 1)) = xs.length by omega] at hr
    have e : (findL xs).length = ((iter xs ((findL xs).length + 1)).1 ++ r).length := by rw [← hr]; rfl
    rw [iter, if_pos hlt] at e
    simp [hf] at e
  · have := iter_le xs (findL xs).length
    omega
theorem findL_len (xs : List Int) : (findL xs).length ≤ xs.length := by
  have h1 := iter_len xs xs.length
  have h2 := iter_le xs xs.length
  unfold findL
  omega
end Go.Proofs.Ytfolhckhedinhaa
