/-
  One byte again and again: what is found. Nothing of the program.
-/
import Derived.Test.YtfolhckhedinhaaLzBackPure
namespace Go.Proofs.Ytfolhckhedinhaa
open Go.RowKit

theorem rep_getD (n : Nat) (c : Int) (j : Nat) (h : j < n) : (List.replicate n c).getD j 0 = c := by
  rw [List.getD, List.getElem?_eq_getElem (by simpa using h)]
  simp
theorem rep_code (n : Nat) (c : Int) (k : Nat) (h : k + 3 ≤ n) : code (List.replicate n c) k = c * 65536 + c * 256 + c := by
  unfold code
  rw [rep_getD _ _ _ (by omega), rep_getD _ _ _ (by omega), rep_getD _ _ _ (by omega)]
theorem rep_ahead (n : Nat) (c : Int) (a : Nat) (h : a + 3 ≤ n) : aheadV (List.replicate n c) a = (a : Int) - 1 := by
  have hl : (List.replicate n c).length = n := by simp
  rw [aheadV, if_pos (by rw [hl]; exact h)]
  cases a with
  | zero => rfl
  | succ a =>
    rw [lastOf, if_pos ⟨by rw [hl]; omega, by rw [rep_code _ _ _ (by omega), rep_code _ _ _ h]⟩]
    omega
theorem rep_lcp (n : Nat) (c : Int) : ∀ (m p a : Nat), p + m ≤ n → a + m ≤ n → lcp (List.replicate n c) p a m = m := by
  intro m
  induction m with
  | zero => intro p a _ _; rfl
  | succ m ih =>
    intro p a h1 h2
    rw [lcp, if_pos (by rw [rep_getD _ _ _ (by omega), rep_getD _ _ _ (by omega)]), ih _ _ (by omega) (by omega)]
theorem rep_mtch (n : Nat) (c : Int) (a : Nat) (h1 : 1 ≤ a) (h : a + 3 ≤ n) : mtch (List.replicate n c) a = (min 258 (n - a), 1) := by
  have hl : (List.replicate n c).length = n := by simp
  have hmo : mostOf n a = min 258 (n - a) := rfl
  unfold mtch
  rw [rep_ahead _ _ _ h, hl, mW, if_neg (by rw [hmo]; omega)]
  have e : ((a : Int) - 1).toNat = a - 1 := by omega
  rw [e, rep_lcp n c _ _ _ (by rw [hmo]; omega) (by rw [hmo]; omega), if_pos (by rw [hmo]; omega), if_pos (by rw [hmo]; omega), mW, if_pos (.inr (.inr rfl)), hmo]
  congr 1
  omega
theorem rep_mtch0 (n : Nat) (c : Int) (a : Nat) (h : a = 0 ∨ ¬ a + 3 ≤ n) : mtch (List.replicate n c) a = (0, 0) := by
  have hl : (List.replicate n c).length = n := by simp
  unfold mtch
  have : aheadV (List.replicate n c) a = -1 := by
    rcases h with rfl | h
    · by_cases h3 : 0 + 3 ≤ n
      · rw [rep_ahead _ _ _ h3]; rfl
      · rw [aheadV, if_neg (by rw [hl]; exact h3)]
    · rw [aheadV, if_neg (by rw [hl]; exact h)]
  rw [this, mW, if_pos (.inl (by omega))]
theorem rep_tok0 (n : Nat) (c : Int) (a : Nat) (ha : a < n) (h : a = 0 ∨ ¬ a + 3 ≤ n) : tokAt (List.replicate n c) a = (0, 0, c) ∧ stepAt (List.replicate n c) a = 1 := by
  unfold tokAt stepAt
  rw [rep_mtch0 n c a h, if_pos rfl, if_pos rfl, rep_getD _ _ _ ha]
  exact ⟨rfl, rfl⟩
theorem rep_tok (n : Nat) (c : Int) (a : Nat) (h1 : 1 ≤ a) (h : a + 3 ≤ n) : tokAt (List.replicate n c) a = (((min 258 (n - a) : Nat) : Int), 1, 0) ∧ stepAt (List.replicate n c) a = min 258 (n - a) := by
  unfold tokAt stepAt
  rw [rep_mtch n c a h1 h, if_neg (by dsimp only; omega), if_neg (by dsimp only; omega)]
  exact ⟨rfl, rfl⟩
theorem rep_iter1 (n : Nat) (c : Int) (h : 4 ≤ n) : (iter (List.replicate n c) 1).2 = 1 := by
  rw [iter, if_pos (by simp [iter]; omega)]
  show 0 + stepAt (List.replicate n c) 0 = 1
  rw [(rep_tok0 n c 0 (by omega) (.inl rfl)).2]
theorem rep_len2 (n : Nat) (c : Int) (h : 4 ≤ n) : 2 ≤ (findL (List.replicate n c)).length := by
  have hl : (List.replicate n c).length = n := by simp
  have h1 := iter_last (List.replicate n c)
  rw [hl] at h1
  have h2 := rep_iter1 n c h
  rcases Nat.lt_or_ge (findL (List.replicate n c)).length 2 with h3 | h3
  · rcases (by omega : (findL (List.replicate n c)).length = 0 ∨ (findL (List.replicate n c)).length = 1) with e | e
    · rw [e] at h1; simp [iter] at h1; omega
    · rw [e] at h1; omega
  · exact h3
end Go.Proofs.Ytfolhckhedinhaa
