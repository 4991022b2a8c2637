/-
  Numbers of bytes: bits that are read. Nothing of the program.
-/
import Derived.Test.YtmdkinhbfndoeaaBitsPure
namespace Go.Proofs.Ytmdkinhbfndoeaa
open Go.RowKit

/-- A byte of the number. -/
theorem rlit_digit (xs : List Int) (V m : Nat) (hb : isB xs) (hV : rlit xs = (V : Int)) (h : m < xs.length) : xs.getD m 0 = ((V / 256 ^ m % 256 : Nat) : Int) := by
  induction xs generalizing V m with
  | nil => simp at h
  | cons x xs ih =>
    have hx := hb x (by simp)
    have hb' : isB xs := fun y hy => hb y (by simp [hy])
    have h0 := (rlit_bd xs hb').1
    rw [rlit_cons] at hV
    cases m with
    | zero => simp; omega
    | succ m =>
      have hV' : rlit xs = ((V / 256 : Nat) : Int) := by omega
      have := ih (V / 256) m hb' hV' (by simpa using h)
      rw [List.getD_cons_succ, this, Nat.div_div_eq_div_mul, Nat.pow_succ, Nat.mul_comm 256]

/-- Some bits of a byte are bits of the number. -/
theorem bits_digit (V p t : Nat) (h : p % 8 + t ≤ 8) : V / 256 ^ (p / 8) % 256 / 2 ^ (p % 8) % 2 ^ t = V / 2 ^ p % 2 ^ t := by
  have e1 : (256 : Nat) ^ (p / 8) = 2 ^ (8 * (p / 8)) := by rw [Nat.pow_mul]
  have e2 : (256 : Nat) = 2 ^ (p % 8) * 2 ^ (8 - p % 8) := by
    rw [← Nat.pow_add, show p % 8 + (8 - p % 8) = 8 by omega]
  have e3 : V / 256 ^ (p / 8) % 256 / 2 ^ (p % 8) = V / 256 ^ (p / 8) / 2 ^ (p % 8) % 2 ^ (8 - p % 8) := by
    conv => lhs; arg 1; arg 2; rw [e2]
    rw [Nat.mod_mul_right_div_self]
  rw [e3, e1, Nat.div_div_eq_div_mul, ← Nat.pow_add, show 8 * (p / 8) + p % 8 = p by omega]
  exact Nat.mod_mod_of_dvd _ (Nat.pow_dvd_pow 2 (by omega))

theorem get_step (V p j t : Nat) : V / 2 ^ p % 2 ^ j + V / 2 ^ (p + j) % 2 ^ t * 2 ^ j = V / 2 ^ p % 2 ^ (j + t) := by
  rw [Nat.pow_add 2 j t, Nat.mod_mul, Nat.pow_add 2 p j, Nat.div_div_eq_div_mul, Nat.mul_comm (2 ^ j)]

/-- What is or'ed to the number. -/
theorem or_get (n x u t j : Nat) (hn : n < 2 ^ j) (hx : x < 256) (ht : u + t ≤ 8) (hj : j + t ≤ 24) :
    bits .or .u32 (n : Int) (bits .and .u32 ((x : Int) / 2 ^ u % 4294967296) ((2 ^ t - 1) % 4294967296) * 2 ^ j % 4294967296) = ((n + x / 2 ^ u % 2 ^ t * 2 ^ j : Nat) : Int) := by
  have h1 : ((2 : Int) ^ t - 1) % 4294967296 = 2 ^ t - 1 := by
    have : (t = 0 ∨ t = 1 ∨ t = 2 ∨ t = 3 ∨ t = 4 ∨ t = 5 ∨ t = 6 ∨ t = 7 ∨ t = 8) := by omega
    rcases this with rfl | rfl | rfl | rfl | rfl | rfl | rfl | rfl | rfl <;> rfl
  have h0 : (x : Int) / 2 ^ u = ((x / 2 ^ u : Nat) : Int) := by simp
  have hq : x / 2 ^ u ≤ x := Nat.div_le_self _ _
  rw [h1, h0]
  clear h0 h1
  generalize x / 2 ^ u = z at *
  rw [show (z : Int) % 4294967296 = z by omega]
  rw [mask_u32 t (by omega) _ (by omega) (by omega)]
  have h2 : (z : Int) % 2 ^ t = ((z % 2 ^ t : Nat) : Int) := by simp
  rw [h2]
  have h3 : z % 2 ^ t < 2 ^ t := Nat.mod_lt _ (Nat.pow_pos (by decide))
  clear h2
  generalize z % 2 ^ t = y at *
  have h4 : (y + 1) * 2 ^ j ≤ 2 ^ t * 2 ^ j := Nat.mul_le_mul_right _ h3
  rw [← Nat.pow_add, Nat.add_mul] at h4
  have h5 : 2 ^ (t + j) ≤ 2 ^ 24 := Nat.pow_le_pow_right (by decide) (by omega)
  have h7 : 0 < 2 ^ j := Nat.pow_pos (by decide)
  have h8 : y * 2 ^ j < 16777216 := by omega
  have hj2 : (2 : Nat) ^ j ≤ 2 ^ 24 := Nat.pow_le_pow_right (by decide) (by omega)
  have e2 : ((y * 2 ^ j : Nat) : Int) = (y : Int) * 2 ^ j := by simp
  have e3 : ((y * 2 ^ j : Nat) : Int) % 4294967296 = ((y * 2 ^ j : Nat) : Int) := by omega
  rw [← e2, e3, bits_or_comm, or_join_u32 j ((y * 2 ^ j : Nat) : Int) n (by omega) (by rw [e2]; exact Int.mul_emod_left _ _) (by omega) (by omega) (by exact_mod_cast hn) (by omega)]
  omega
end Go.Proofs.Ytmdkinhbfndoeaa
