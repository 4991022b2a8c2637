/-
  Numbers and their bytes, there and back: plain arithmetic.
-/
import Derived.Test.YtckekklmjegajaaNum
namespace Go.Proofs.Ytckekklmjegajaa
open Go.RowKit

theorem lit_succ (n : Int) (m : Nat) : lit n (m + 1) = (n % 256) :: lit (n / 256) m := by
  apply ext_getD (by simp [lit_len])
  intro i hi
  rw [lit_len] at hi
  rw [lit_getD _ _ _ hi]
  cases i with
  | zero => simp
  | succ i =>
    rw [List.getD_cons_succ, lit_getD _ _ _ (by omega)]
    rw [show 8 * (i + 1) = 8 + 8 * i by omega, Int.pow_add, ← Int.ediv_ediv_of_nonneg (by decide)]
    rfl

theorem lit_rlit (xs : List Int) (h : isB xs) : lit (rlit xs) xs.length = xs := by
  induction xs with
  | nil => rfl
  | cons x xs ih =>
    have hx := h x (by simp)
    have := ih (fun y hy => h y (by simp [hy]))
    have e : rlit (x :: xs) = rlit xs * 256 + x := rfl
    rw [List.length_cons, lit_succ, e, show (rlit xs * 256 + x) % 256 = x by omega, show (rlit xs * 256 + x) / 256 = rlit xs by omega, this]

theorem big_rbig (xs : List Int) (h : isB xs) : big (rbig xs) xs.length = xs := by
  have h' : isB xs.reverse := fun x hx => h x (List.mem_reverse.1 hx)
  have := lit_rlit xs.reverse h'
  rw [← rbig_rev, List.reverse_reverse, List.length_reverse] at this
  rw [big, this, List.reverse_reverse]

theorem rlit_lit (n : Int) (m : Nat) (h0 : 0 ≤ n) (h : n < 256 ^ m) : rlit (lit n m) = n := by
  induction m generalizing n with
  | zero => simp [lit, rlit]; simp at h; omega
  | succ m ih =>
    rw [lit_succ]
    have e : ∀ (x : Int) xs, rlit (x :: xs) = rlit xs * 256 + x := fun _ _ => rfl
    rw [e, ih (n / 256) (by omega) (by rw [Int.pow_succ] at h; omega)]
    omega
theorem rbig_big (n : Int) (m : Nat) (h0 : 0 ≤ n) (h : n < 256 ^ m) : rbig (big n m) = n := by
  rw [big, rbig_rev, rlit_lit n m h0 h]

theorem fit_of (n : Int) (m : Nat) (h0 : 0 ≤ n) (h : n < 256 ^ m) (h1 : 1 ≤ m) (h6 : m ≤ 6) : fit n m = true := by
  rw [pow256_two] at h
  unfold fit
  rw [decide_eq_true_eq]
  refine ⟨by omega, by omega, h0, ?_⟩
  rw [show (8 * (m : Int)).toNat = 8 * m by omega]
  exact Int.ediv_eq_zero_of_lt h0 h
theorem fit_pow (m : Nat) : fit (2 ^ (8 * m)) m = false := by
  unfold fit
  rw [decide_eq_false_iff_not]
  rintro ⟨_, _, _, h⟩
  rw [show (8 * (m : Int)).toNat = 8 * m by omega, Int.ediv_self (Int.ne_of_gt (Int.pow_pos (by decide)))] at h
  exact absurd h (by decide)
theorem fit_lt {n : Int} {m : Nat} (h : fit n m = true) : 1 ≤ m ∧ m ≤ 6 ∧ 0 ≤ n ∧ n < 256 ^ m := by
  have := of_decide_eq_true h
  obtain ⟨a, b, c, d⟩ := this
  refine ⟨by omega, by omega, c, ?_⟩
  rw [show (8 * (m : Int)).toNat = 8 * m by omega] at d
  rw [pow256_two]
  have hp : (0 : Int) < 2 ^ (8 * m) := Int.pow_pos (by decide)
  generalize (2 : Int) ^ (8 * m) = P at *
  have h1 := Int.emod_def n P
  have h2 := Int.emod_lt_of_pos n hp
  rw [d, Int.mul_zero] at h1
  omega
end Go.Proofs.Ytckekklmjegajaa
