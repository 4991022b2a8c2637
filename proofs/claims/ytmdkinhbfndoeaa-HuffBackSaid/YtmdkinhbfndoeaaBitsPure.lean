/-
  Numbers of bytes, the least first: what a writer of bits has put. Nothing of the program.
-/
import Derived.Test.YtmdkinhbfndoeaaLib
namespace Go.Proofs.Ytmdkinhbfndoeaa
open Go.RowKit

/-- The number that bytes are, the least first. -/
def rlit (xs : List Int) : Int := xs.foldr (fun x n => n * 256 + x) 0
theorem rlit_nil : rlit [] = 0 := rfl
theorem rlit_cons (x : Int) (xs : List Int) : rlit (x :: xs) = rlit xs * 256 + x := rfl
theorem rlit_append (xs ys : List Int) : rlit (xs ++ ys) = rlit xs + 256 ^ xs.length * rlit ys := by
  induction xs with
  | nil => simp [rlit]
  | cons x xs ih => simp only [rlit, List.cons_append, List.foldr_cons, List.length_cons] at ih ⊢; rw [ih, Int.pow_succ, Int.add_mul, Int.mul_right_comm]; omega
theorem rlit_bd (xs : List Int) (h : isB xs) : 0 ≤ rlit xs ∧ rlit xs < 256 ^ xs.length := by
  induction xs with
  | nil => simp [rlit]
  | cons x xs ih =>
    have a := h x (by simp)
    have b := ih (fun y hy => h y (by simp [hy]))
    simp only [rlit, List.foldr_cons, List.length_cons] at b ⊢
    rw [Int.pow_succ]; omega
theorem rlit_set (xs : List Int) (m : Nat) (v : Int) (h : m < xs.length) : rlit (xs.set m v) = rlit xs + (v - xs.getD m 0) * 256 ^ m := by
  induction xs generalizing m with
  | nil => simp at h
  | cons x xs ih =>
    cases m with
    | zero => simp [rlit_cons]; omega
    | succ m =>
      have := ih m (by simpa using h)
      simp only [List.set_cons_succ, rlit_cons, this, Int.pow_succ, List.getD_cons_succ]
      rw [Int.add_mul, Int.mul_assoc]; omega
theorem rlit_inj (xs ys : List Int) (hx : isB xs) (hy : isB ys) (hl : xs.length = ys.length) (h : rlit xs = rlit ys) : xs = ys := by
  induction xs generalizing ys with
  | nil => cases ys with
    | nil => rfl
    | cons y ys => simp at hl
  | cons x xs ih =>
    cases ys with
    | nil => simp at hl
    | cons y ys =>
      rw [rlit_cons, rlit_cons] at h
      have a := hx x (by simp); have b := hy y (by simp)
      have e1 : x = y := by omega
      have e2 : rlit xs = rlit ys := by omega
      rw [e1, ih ys (fun z hz => hx z (by simp [hz])) (fun z hz => hy z (by simp [hz])) (by simpa using hl) e2]
theorem pow256 (k : Nat) : (256 : Int) ^ k = 2 ^ (8 * k) := by rw [Int.pow_mul]; rfl
/-- The last byte, where the number has few bits. -/
theorem rlit_top (xs : List Int) (m u : Nat) (hb : isB xs) (hl : xs.length = m + 1) (h : rlit xs < 2 ^ (8 * m + u)) : xs.getD m 0 < 2 ^ u := by
  have e : xs = xs.take m ++ [xs.getD m 0] := by
    rw [← take_getD xs m (by omega), List.take_of_length_le (by omega)]
  have h1 := rlit_append (xs.take m) [xs.getD m 0]
  rw [← e, List.length_take, hl, show min m (m + 1) = m by omega] at h1
  have h2 := (rlit_bd (xs.take m) (hb.take m)).1
  have h3 : rlit [xs.getD m 0] = xs.getD m 0 := by simp [rlit]
  rw [h3] at h1
  rw [Int.pow_add, ← pow256] at h
  have hp : (0 : Int) < 256 ^ m := Int.pow_pos (by decide)
  have h4 : 256 ^ m * xs.getD m 0 < 256 ^ m * 2 ^ u := by omega
  exact Int.lt_of_mul_lt_mul_left h4 (by omega)

/-- So many bits of n are in. -/
theorem put_step (N n c j t : Nat) : N + (n % 2 ^ j) * 2 ^ c + (n / 2 ^ j % 2 ^ t) * 2 ^ (c + j) = N + (n % 2 ^ (j + t)) * 2 ^ c := by
  rw [Nat.pow_add 2 j t, Nat.mod_mul, Nat.add_mul, Nat.pow_add 2 c j]
  have : n / 2 ^ j % 2 ^ t * (2 ^ c * 2 ^ j) = 2 ^ j * (n / 2 ^ j % 2 ^ t) * 2 ^ c := by
    rw [Nat.mul_comm (2 ^ c), ← Nat.mul_assoc, Nat.mul_comm (n / 2 ^ j % 2 ^ t)]
  omega
theorem put_fit (N n c j : Nat) (h : N < 2 ^ c) : N + (n % 2 ^ j) * 2 ^ c < 2 ^ (c + j) := by
  have h1 : n % 2 ^ j < 2 ^ j := Nat.mod_lt _ (Nat.pow_pos (by decide))
  have h2 : (n % 2 ^ j + 1) * 2 ^ c ≤ 2 ^ j * 2 ^ c := Nat.mul_le_mul_right _ h1
  rw [Nat.pow_add, Nat.mul_comm (2 ^ c)]
  rw [Nat.add_mul] at h2
  omega

/-- A byte more of bits. -/
theorem byte_step (xs : List Int) (m u t x N : Nat) (hb : isB xs) (hl : xs.length = m + 1) (hN : rlit xs = (N : Int)) (hf : N < 2 ^ (8 * m + u)) (hx : x < 2 ^ t) (hut : u + t ≤ 8) :
    0 ≤ xs.getD m 0 ∧ xs.getD m 0 < 2 ^ u ∧ 0 ≤ xs.getD m 0 + x * 2 ^ u ∧ xs.getD m 0 + x * 2 ^ u < 256 ∧ isB (xs.set m (xs.getD m 0 + x * 2 ^ u)) ∧ rlit (xs.set m (xs.getD m 0 + x * 2 ^ u)) = ((N + x * 2 ^ (8 * m + u) : Nat) : Int) := by
  have h0 := hb.get m (by omega)
  have h1 := rlit_top xs m u hb hl (by rw [hN]; exact_mod_cast hf)
  have h2 : (x + 1) * 2 ^ u ≤ 2 ^ t * 2 ^ u := Nat.mul_le_mul_right _ hx
  rw [← Nat.pow_add, Nat.add_mul] at h2
  have h3 : 2 ^ (t + u) ≤ 2 ^ 8 := Nat.pow_le_pow_right (by decide) (by omega)
  have h4 : ((x * 2 ^ u + 1 * 2 ^ u : Nat) : Int) ≤ ((2 ^ 8 : Nat) : Int) := by exact_mod_cast Nat.le_trans h2 h3
  have h5 : (0 : Int) ≤ ((x * 2 ^ u : Nat) : Int) := Int.natCast_nonneg _
  simp only [Int.natCast_add, Int.natCast_mul, Int.natCast_pow, Int.cast_ofNat_Int, Int.one_mul] at h4 h5
  have h6 : (2:Int) ^ 8 = 256 := by decide
  have h7 : 0 ≤ xs.getD m 0 + x * 2 ^ u ∧ xs.getD m 0 + x * 2 ^ u < 256 := by
    constructor <;> omega
  refine ⟨h0.1, h1, h7.1, h7.2, ?_, ?_⟩
  · intro y hy
    rcases List.mem_or_eq_of_mem_set hy with h | h
    · exact hb y h
    · rw [h]; exact h7
  · rw [rlit_set _ _ _ (by omega), hN, pow256]
    have : xs.getD m 0 + x * 2 ^ u - xs.getD m 0 = x * 2 ^ u := by omega
    rw [this, Int.mul_assoc, ← Int.pow_add, Nat.add_comm u]
    simp only [Int.natCast_add, Int.natCast_mul, Int.natCast_pow, Int.cast_ofNat_Int]

end Go.Proofs.Ytmdkinhbfndoeaa
