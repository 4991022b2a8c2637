/-
  CRC-32 by bits and by half bytes: plain arithmetic on natural numbers.
-/
import Derived.Test.YtckekklmjegajaaDoorLib
namespace Go.Proofs.YtckekklmjegajaaDoor
open Go.RowKit

def poly : Nat := 3988292384
/-- One bit of the sum. -/
def st1 (c : Nat) : Nat := (c / 2) ^^^ (if c % 2 = 1 then poly else 0)
def stN : Nat → Nat → Nat
  | 0, c => c
  | k + 1, c => stN k (st1 c)
theorem stN_succ' (k c : Nat) : stN (k + 1) c = st1 (stN k c) := by
  induction k generalizing c with
  | zero => rfl
  | succ k ih => rw [stN, ih (st1 c)]; rfl
theorem xor_two (a b : Nat) : (a ^^^ b) / 2 = a / 2 ^^^ b / 2 ∧ (a ^^^ b) % 2 = (a % 2 + b % 2) % 2 := by
  constructor
  · have := Nat.shiftRight_xor_distrib (a := a) (b := b) (i := 1)
    simpa [Nat.shiftRight_eq_div_pow] using this
  · have h := Nat.xor_mod_two_pow (a := a) (b := b) (n := 1)
    simp only [Nat.pow_one] at h
    rw [h]
    rcases Nat.mod_two_eq_zero_or_one a with ha | ha <;> rcases Nat.mod_two_eq_zero_or_one b with hb | hb <;> rw [ha, hb] <;> rfl
theorem st1_xor (a b : Nat) : st1 (a ^^^ b) = st1 a ^^^ st1 b := by
  unfold st1
  rw [(xor_two a b).1, (xor_two a b).2]
  rcases Nat.mod_two_eq_zero_or_one a with ha | ha <;> rcases Nat.mod_two_eq_zero_or_one b with hb | hb <;> rw [ha, hb] <;> simp
  · rw [Nat.xor_assoc]
  · rw [Nat.xor_assoc, Nat.xor_assoc]; congr 1; exact Nat.xor_comm _ _
  · rw [Nat.xor_assoc, ← Nat.xor_assoc poly, Nat.xor_comm poly, Nat.xor_assoc (b / 2), Nat.xor_self, Nat.xor_zero]
theorem stN_xor (k a b : Nat) : stN k (a ^^^ b) = stN k a ^^^ stN k b := by
  induction k generalizing a b with
  | zero => rfl
  | succ k ih => rw [stN, st1_xor, ih]; rfl
theorem stN_shift (k h : Nat) : stN k (h * 2 ^ k) = h := by
  induction k generalizing h with
  | zero => simp [stN]
  | succ k ih =>
    have e : h * 2 ^ (k + 1) = 2 * (h * 2 ^ k) := by rw [Nat.pow_succ, ← Nat.mul_assoc, Nat.mul_comm]
    have : st1 (h * 2 ^ (k + 1)) = h * 2 ^ k := by
      unfold st1
      rw [e, if_neg (by omega), Nat.xor_zero]; omega
    rw [stN, this, ih]
theorem st1_lt (c : Nat) (h : c < 2 ^ 32) : st1 c < 2 ^ 32 := by
  unfold st1
  apply Nat.xor_lt_two_pow
  · omega
  · split
    · decide
    · decide
theorem stN_lt (k c : Nat) (h : c < 2 ^ 32) : stN k c < 2 ^ 32 := by
  induction k generalizing c with
  | zero => exact h
  | succ k ih => exact ih _ (st1_lt c h)
theorem st1_zero (c : Nat) (h : c < 2 ^ 32) (h0 : st1 c = 0) : c = 0 := by
  unfold st1 at h0
  rcases Nat.mod_two_eq_zero_or_one c with hc | hc
  · rw [hc] at h0; simp at h0; omega
  · rw [hc] at h0
    simp only [if_true] at h0
    have e : c / 2 = poly := by
      have := congrArg (· ^^^ poly) h0
      simpa [Nat.xor_assoc] using this
    unfold poly at e
    omega
theorem stN_zero (k c : Nat) (h : c < 2 ^ 32) (h0 : stN k c = 0) : c = 0 := by
  induction k generalizing c with
  | zero => exact h0
  | succ k ih => exact st1_zero c h (ih _ (st1_lt c h) h0)
/-- Four bits at once. -/
theorem st4_eq (c : Nat) : stN 4 c = (c / 16) ^^^ stN 4 (c % 16) := by
  have e : c = (c / 16 * 2 ^ 4) ^^^ (c % 16) := by
    have h := Nat.two_pow_add_eq_or_of_lt (i := 4) (b := c % 16) (by omega) (c / 16)
    have h2 : (2 ^ 4 * (c / 16)) ||| (c % 16) = (2 ^ 4 * (c / 16)) ^^^ (c % 16) := by
      apply Nat.eq_of_testBit_eq
      intro i
      rw [Nat.testBit_or, Nat.testBit_xor]
      by_cases hi : i < 4
      · have h4 : decide (i ≥ 4) = false := by simp; omega
        rw [Nat.testBit_two_pow_mul, h4]; simp
      · have : (c % 16).testBit i = false := Nat.testBit_lt_two_pow (Nat.lt_of_lt_of_le (Nat.mod_lt _ (by decide)) (by have := Nat.pow_le_pow_right (n := 2) (by decide) (show 4 ≤ i by omega); simpa using this))
        rw [this]; simp
    rw [Nat.mul_comm, ← h2, ← h]
    simp only [Nat.reducePow]
    omega
  conv => lhs; rw [e]
  rw [stN_xor, stN_shift]
theorem stN_add (a b c : Nat) : stN (a + b) c = stN b (stN a c) := by
  induction a generalizing c with
  | zero => simp [stN]
  | succ a ih => rw [show a + 1 + b = (a + b) + 1 by omega, stN, ih]; rfl

/-- A byte taken in. -/
def cstep (s : Nat) (x : Nat) : Nat := stN 8 (s ^^^ x)
theorem cstep_half (s x : Nat) : cstep s x = (((s ^^^ x) / 16 ^^^ stN 4 ((s ^^^ x) % 16)) / 16) ^^^ stN 4 (((s ^^^ x) / 16 ^^^ stN 4 ((s ^^^ x) % 16)) % 16) := by
  unfold cstep
  rw [show (8 : Nat) = 4 + 4 from rfl, stN_add, st4_eq (s ^^^ x), st4_eq]
def craw (xs : List Int) : Nat := xs.foldl (fun s x => cstep s x.toNat) 4294967295
theorem craw_snoc (xs : List Int) (x : Int) : craw (xs ++ [x]) = cstep (craw xs) x.toNat := by simp [craw]
theorem cstep_lt (s x : Nat) (h : s < 2 ^ 32) (hx : x < 256) : cstep s x < 2 ^ 32 := stN_lt 8 _ (Nat.xor_lt_two_pow h (by omega))
theorem foldl_lt (xs : List Int) (hb : isB xs) (s : Nat) (h : s < 2 ^ 32) : xs.foldl (fun s x => cstep s x.toNat) s < 2 ^ 32 := by
  induction xs generalizing s with
  | nil => exact h
  | cons x xs ih => exact ih (fun y hy => hb y (by simp [hy])) _ (cstep_lt _ _ h (by have := hb x (by simp); omega))
theorem craw_lt (xs : List Int) (hb : isB xs) : craw xs < 2 ^ 32 := foldl_lt xs hb _ (by decide)
/-- The sum. -/
def crc (xs : List Int) : Nat := 4294967295 - craw xs
end Go.Proofs.YtckekklmjegajaaDoor
