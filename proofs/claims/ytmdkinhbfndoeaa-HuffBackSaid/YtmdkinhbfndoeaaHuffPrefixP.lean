/-
  Canonical codes: none begins another, each fits its length, those of a length rise.
-/
import Derived.Test.YtmdkinhbfndoeaaHuffPure
namespace Go.Proofs.Ytmdkinhbfndoeaa
open Go.RowKit

/-- One past the last code of a length. -/
def nextN (ls : List Int) (n : Nat) : Nat := base ls n + cnt ls n
theorem base_next (ls : List Int) (n : Nat) (h : 1 ≤ n) : base ls (n + 1) = nextN ls n * 2 := base_succ ls n h
theorem base_grow (ls : List Int) (n : Nat) (h : 1 ≤ n) : ∀ d, nextN ls n * 2 ^ (d + 1) ≤ base ls (n + d + 1)
  | 0 => by rw [base_next ls n h]; omega
  | d + 1 => by
    have ih := base_grow ls n h d
    rw [show n + (d + 1) + 1 = (n + d + 1) + 1 from rfl, base_next ls (n + d + 1) (by omega), Nat.pow_succ, ← Nat.mul_assoc]
    unfold nextN at ih ⊢
    omega
/-- What the lengths up to n weigh. -/
def krN (ls : List Int) (n : Nat) : Nat := (ls.map fun x => if 0 < x ∧ x ≤ (n : Int) then 2 ^ (15 - x).toNat else 0).sum
theorem krN_cons (x : Int) (ls : List Int) (n : Nat) : krN (x :: ls) n = (if 0 < x ∧ x ≤ (n : Int) then 2 ^ (15 - x).toNat else 0) + krN ls n := by simp [krN]
theorem cnt_cons (x : Int) (ls : List Int) (n : Nat) : cnt (x :: ls) n = (if x = (n : Int) then 1 else 0) + cnt ls n := by
  unfold cnt
  by_cases h : x = (n : Int)
  · simp [h]; omega
  · simp [h]
theorem krN_succ (ls : List Int) (n : Nat) : krN ls (n + 1) = krN ls n + cnt ls (n + 1) * 2 ^ (15 - (n + 1)) := by
  induction ls with
  | nil => simp [krN, cnt]
  | cons x ls ih =>
    rw [krN_cons, krN_cons, cnt_cons, ih]
    by_cases h : x = ((n + 1 : Nat) : Int)
    · rw [if_pos ⟨by omega, by omega⟩, if_neg (by omega), if_pos h, show (15 - x).toNat = 15 - (n + 1) by omega, Nat.add_mul]
      omega
    · by_cases h2 : 0 < x ∧ x ≤ (n : Int)
      · rw [if_pos ⟨h2.1, by omega⟩, if_pos h2, if_neg h, Nat.zero_add]; omega
      · rw [if_neg (by omega), if_neg h2, if_neg h]; simp only [Nat.zero_add]
theorem krN_le (ls : List Int) (n : Nat) : (krN ls n : Int) ≤ krS ls := by
  induction ls with
  | nil => simp [krN, krS]
  | cons x ls ih =>
    rw [krN_cons]
    have e : krS (x :: ls) = kr1 x + krS ls := by simp [krS]
    rw [e]
    by_cases h : 0 < x ∧ x ≤ (n : Int)
    · rw [if_pos h]
      unfold kr1
      rw [if_pos h.1]
      push_cast
      omega
    · rw [if_neg h]
      have := (kr1_bd x).1
      omega
theorem krN_zero (ls : List Int) : krN ls 0 = 0 := by
  induction ls with
  | nil => rfl
  | cons x ls ih => rw [krN_cons, ih, if_neg (by omega)]
theorem nextN_kr (ls : List Int) : ∀ n, n + 1 ≤ 15 → nextN ls (n + 1) * 2 ^ (15 - (n + 1)) = krN ls (n + 1)
  | 0, _ => by
    rw [krN_succ, krN_zero]
    simp [nextN, base]
  | n + 1, h => by
    have ih := nextN_kr ls n (by omega)
    have e : nextN ls (n + 1 + 1) = nextN ls (n + 1) * 2 + cnt ls (n + 1 + 1) := by
      show base ls (n + 1 + 1) + _ = _
      rw [base_next ls (n + 1) (by omega)]
    have e2 : 2 ^ (15 - (n + 1)) = 2 * 2 ^ (15 - (n + 1 + 1)) := by
      rw [show 15 - (n + 1) = (15 - (n + 1 + 1)) + 1 by omega, Nat.pow_succ]; omega
    rw [krN_succ, ← ih, e, e2, Nat.add_mul, ← Nat.mul_assoc]
theorem nextN_fits (ls : List Int) (n : Nat) (h1 : 1 ≤ n) (h : n ≤ 15) (hk : krS ls ≤ 32768) : nextN ls n ≤ 2 ^ n := by
  have e := nextN_kr ls (n - 1) (by omega)
  rw [show n - 1 + 1 = n by omega] at e
  have h2 := krN_le ls n
  have h3 : nextN ls n * 2 ^ (15 - n) ≤ 2 ^ n * 2 ^ (15 - n) := by
    rw [← Nat.pow_add, show n + (15 - n) = 15 by omega, e]
    omega
  exact Nat.le_of_mul_le_mul_right h3 (Nat.pow_pos (by decide))
theorem cnt_take_lt (ls : List Int) (i k n : Nat) (hi : i < k) (hk : k ≤ ls.length) (h : ls.getD i 0 = (n : Int)) : cnt (ls.take i) n + 1 ≤ cnt (ls.take k) n := by
  have e : ls.take k = ls.take i ++ (ls.getD i 0 :: (ls.take k).drop (i + 1)) := by
    have h1 : (ls.take k).take i = ls.take i := by rw [List.take_take, Nat.min_eq_left (by omega)]
    conv => lhs; rw [← List.take_append_drop i (ls.take k), h1]
    rw [List.drop_eq_getElem_cons (show i < (ls.take k).length by rw [List.length_take]; omega)]
    simp [List.getD, show i < ls.length by omega]
  rw [e]
  simp only [cnt, List.filter_append, List.length_append, List.filter_cons, h, decide_true, if_true, List.length_cons]
  omega
theorem code_lt (ls : List Int) (i n : Nat) (hi : i < ls.length) (h : ls.getD i 0 = (n : Int)) : codeN ls i + 1 ≤ nextN ls n := by
  have := cnt_take_lt ls i ls.length n hi (Nat.le_refl _) h
  rw [List.take_length] at this
  unfold codeN nextN
  rw [h, Int.toNat_natCast]
  omega
/-- Those of one length rise. -/
theorem code_rise (ls : List Int) (i k n : Nat) (hik : i < k) (hk : k < ls.length) (h1 : ls.getD i 0 = (n : Int)) (h2 : ls.getD k 0 = (n : Int)) : codeN ls i < codeN ls k := by
  have := cnt_take_lt ls i k n hik (by omega) h1
  unfold codeN
  rw [h1, h2, Int.toNat_natCast]
  omega
/-- None begins a longer one. -/
theorem code_prefix (ls : List Int) (i k n m : Nat) (hi : i < ls.length) (hk : k < ls.length) (h1 : ls.getD i 0 = (n : Int)) (h2 : ls.getD k 0 = (m : Int)) (hn : 1 ≤ n) (hnm : n < m) : codeN ls i < codeN ls k / 2 ^ (m - n) := by
  have a := code_lt ls i n hi h1
  have b := base_grow ls n hn (m - n - 1)
  rw [show m - n - 1 + 1 = m - n by omega, show n + (m - n - 1) + 1 = m by omega] at b
  have c : base ls m ≤ codeN ls k := by unfold codeN; rw [h2, Int.toNat_natCast]; omega
  have d : nextN ls n ≤ codeN ls k / 2 ^ (m - n) := (Nat.le_div_iff_mul_le (Nat.pow_pos (by decide))).2 (Nat.le_trans b c)
  omega
end Go.Proofs.Ytmdkinhbfndoeaa
