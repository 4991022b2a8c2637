/-
  Canonical codes: Kraft's sum, how many codes of each length, the first of each, the codes by place. Nothing of the program.
-/
import Derived.Test.YtmdkinhbfndoeaaLib
namespace Go.Proofs.Ytmdkinhbfndoeaa
open Go.RowKit

def lensOk (ls : List Int) : Prop := ls.length ≤ 300 ∧ ∀ x ∈ ls, 0 ≤ x ∧ x ≤ 15
def kr1 (x : Int) : Int := if 0 < x then 2 ^ (15 - x).toNat else 0
def krS (ls : List Int) : Int := (ls.map kr1).sum
theorem krS_snoc (ls : List Int) (x : Int) : krS (ls ++ [x]) = krS ls + kr1 x := by simp [krS]
theorem kr1_bd (x : Int) : 0 ≤ kr1 x ∧ (0 ≤ x → kr1 x ≤ 16384) := by
  unfold kr1
  split
  · refine ⟨Int.le_of_lt (Int.pow_pos (by decide)), fun h => ?_⟩
    have : (15 - x).toNat ≤ 14 := by omega
    calc (2 : Int) ^ (15 - x).toNat ≤ 2 ^ 14 := by exact_mod_cast Nat.pow_le_pow_right (by decide) this
      _ = 16384 := by decide
  · exact ⟨Int.le_refl _, fun _ => by decide⟩
theorem krS_bd (ls : List Int) (h : ∀ x ∈ ls, 0 ≤ x) : 0 ≤ krS ls ∧ krS ls ≤ 16384 * ls.length := by
  induction ls with
  | nil => simp [krS]
  | cons x ls ih =>
    have := ih (fun y hy => h y (by simp [hy]))
    have b := kr1_bd x
    have b2 := b.2 (h x (by simp))
    simp only [krS, List.map_cons, List.sum_cons, List.length_cons] at this ⊢
    omega
/-- How many have a length. -/
def cnt (ls : List Int) (n : Nat) : Nat := (ls.filter fun x => decide (x = (n : Int))).length
theorem cnt_snoc (ls : List Int) (x : Int) (n : Nat) : cnt (ls ++ [x]) n = cnt ls n + if x = (n : Int) then 1 else 0 := by
  unfold cnt
  rw [List.filter_append, List.length_append]
  by_cases h : x = (n : Int) <;> simp [h]
theorem cnt_le (ls : List Int) (n : Nat) : cnt ls n ≤ ls.length := List.length_filter_le _ _
/-- The first code of each length. -/
def base (ls : List Int) : Nat → Nat
  | 0 => 0
  | 1 => 0
  | n + 2 => (base ls (n + 1) + cnt ls (n + 1)) * 2
theorem base_succ (ls : List Int) (n : Nat) (h : 1 ≤ n) : base ls (n + 1) = (base ls n + cnt ls n) * 2 := by
  match n, h with
  | n + 1, _ => rfl
theorem base_le (ls : List Int) (h : ls.length ≤ 300) : ∀ n, base ls n + 600 ≤ 600 * 2 ^ n
  | 0 => by simp [base]
  | 1 => by simp [base]
  | n + 2 => by
    have ih := base_le ls h (n + 1)
    have := cnt_le ls (n + 1)
    rw [base, Nat.pow_succ]
    omega
/-- The code of a place: its number. -/
def codeN (ls : List Int) (i : Nat) : Nat := base ls (ls.getD i 0).toNat + cnt (ls.take i) (ls.getD i 0).toNat
theorem codeN_le (ls : List Int) (i : Nat) (h : lensOk ls) (hi : i < ls.length) : codeN ls i ≤ 20000000 := by
  have hx := h.2 (ls.getD i 0) (by simp [List.getD, hi])
  have h1 := base_le ls h.1 (ls.getD i 0).toNat
  have h2 := cnt_le (ls.take i) (ls.getD i 0).toNat
  have h3 : (2 : Nat) ^ (ls.getD i 0).toNat ≤ 2 ^ 15 := Nat.pow_le_pow_right (by decide) (by omega)
  have h4 := h.1
  rw [List.length_take] at h2
  unfold codeN
  omega
/-- The codes by place: numbers and lengths. -/
def codeAt (ls : List Int) (i : Nat) : Int × Int := if 0 < ls.getD i 0 then ((codeN ls i : Int), ls.getD i 0) else (0, 0)
/-- How the codes lie in memory. -/
def codeCells (c : Int × Int) : List Value := [.int .u32 c.1, .int .i64 c.2]
end Go.Proofs.Ytmdkinhbfndoeaa
