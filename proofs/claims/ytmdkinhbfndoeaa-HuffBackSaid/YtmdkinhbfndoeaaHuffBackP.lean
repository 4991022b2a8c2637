/-
  Places that are written by their codes and read. Nothing of the program.
-/
import Derived.Test.YtmdkinhbfndoeaaHuffDecP
import Derived.Test.YtmdkinhbfndoeaaHuffPrefixW
import Derived.Test.YtmdkinhbfndoeaaBitsWr
namespace Go.Proofs.Ytmdkinhbfndoeaa
open Go.RowKit

def lenN (ls : List Int) (p : Nat) : Nat := (ls.getD p 0).toNat
def bitsOf (ls : List Int) : List Nat → Nat
  | [] => 0
  | p :: ps => lenN ls p + bitsOf ls ps
def encP (ls : List Int) : List Nat → Nat
  | [] => 0
  | p :: ps => revb (codeN ls p) (lenN ls p) + 2 ^ lenN ls p * encP ls ps
theorem bitsOf_append (ls : List Int) (ds es : List Nat) : bitsOf ls (ds ++ es) = bitsOf ls ds + bitsOf ls es := by
  induction ds with
  | nil => simp [bitsOf]
  | cons d ds ih => simp only [List.cons_append, bitsOf, ih]; omega
theorem encP_append (ls : List Int) (ds : List Nat) (d : Nat) : encP ls (ds ++ [d]) = encP ls ds + revb (codeN ls d) (lenN ls d) * 2 ^ bitsOf ls ds := by
  induction ds with
  | nil => simp [encP, bitsOf]
  | cons x ds ih =>
    simp only [List.cons_append, encP, bitsOf, ih, Nat.mul_add, Nat.pow_add]
    rw [Nat.mul_left_comm (2 ^ lenN ls x) (revb (codeN ls d) (lenN ls d))]
    omega
theorem encP_drop (ls : List Int) (ds : List Nat) (i : Nat) : encP ls ds / 2 ^ bitsOf ls (ds.take i) = encP ls (ds.drop i) := by
  induction ds generalizing i with
  | nil => simp [encP, bitsOf]
  | cons d ds ih =>
    cases i with
    | zero => simp [bitsOf]
    | succ i =>
      have h1 := revb_lt (codeN ls d) (lenN ls d)
      simp only [List.take_succ_cons, List.drop_succ_cons, bitsOf, encP]
      rw [Nat.pow_add, ← Nat.div_div_eq_div_mul, Nat.add_mul_div_left _ _ (Nat.pow_pos (by decide)), Nat.div_eq_of_lt h1, Nat.zero_add]
      exact ih i
theorem bitsOf_take (ls : List Int) (ds : List Nat) (i : Nat) (h : i < ds.length) : bitsOf ls (ds.take (i + 1)) = bitsOf ls (ds.take i) + lenN ls (ds.getD i 0) := by
  rw [← List.take_append_getElem h, bitsOf_append]
  simp [bitsOf, List.getD, h]
theorem bitsOf_le (ls : List Int) (ds : List Nat) (i : Nat) : bitsOf ls (ds.take i) ≤ bitsOf ls ds := by
  conv => rhs; rw [← List.take_append_drop i ds, bitsOf_append]
  omega
/-- A bit of a number that is turned round. -/
theorem revb_dig (n k j : Nat) (h : j < k) : revb n k / 2 ^ j % 2 = n / 2 ^ (k - 1 - j) % 2 := by
  induction k generalizing j with
  | zero => omega
  | succ k ih =>
    rw [revb]
    cases j with
    | zero => simp <;> omega
    | succ j =>
      have hb : n / 2 ^ k % 2 < 2 := Nat.mod_lt _ (by decide)
      rw [Nat.pow_succ, Nat.mul_comm (2 ^ j) 2, ← Nat.div_div_eq_div_mul, show (revb n k * 2 + n / 2 ^ k % 2) / 2 = revb n k by omega, ih j (by omega)]
      congr 3
      omega
theorem low_bit (r q k i : Nat) (h : i < k) : (r + 2 ^ k * q) / 2 ^ i % 2 = r / 2 ^ i % 2 := by
  have e : 2 ^ k = 2 ^ i * (2 * 2 ^ (k - i - 1)) := by rw [← Nat.pow_succ', ← Nat.pow_add]; congr 1; omega
  rw [e, Nat.mul_assoc, Nat.add_mul_div_left _ _ (Nat.pow_pos (by decide)), Nat.mul_assoc, Nat.add_mul_mod_self_left]
/-- The first bits of a code that was written. -/
theorem codeOf_enc (ls : List Int) (ds : List Nat) (j : Nat) (hj : j < ds.length) (hc : codeN ls (ds.getD j 0) < 2 ^ lenN ls (ds.getD j 0)) :
    ∀ l, l ≤ lenN ls (ds.getD j 0) → codeOf (encP ls ds) (bitsOf ls (ds.take j)) l = codeN ls (ds.getD j 0) / 2 ^ (lenN ls (ds.getD j 0) - l) := by
  have hd : ds.drop j = ds.getD j 0 :: ds.drop (j + 1) := by
    rw [List.drop_eq_getElem_cons hj]; simp [List.getD, hj]
  intro l
  induction l with
  | zero => intro _; rw [codeOf, Nat.sub_zero, Nat.div_eq_of_lt hc]
  | succ l ih =>
    intro hl
    have h1 := ih (by omega)
    have h2 : encP ls ds / 2 ^ (bitsOf ls (ds.take j) + l) % 2 = codeN ls (ds.getD j 0) / 2 ^ (lenN ls (ds.getD j 0) - 1 - l) % 2 := by
      rw [Nat.pow_add, ← Nat.div_div_eq_div_mul, encP_drop, hd, encP, low_bit _ _ _ _ (by omega), revb_dig _ _ _ (by omega)]
    rw [codeOf, h1, h2, show lenN ls (ds.getD j 0) - l = (lenN ls (ds.getD j 0) - 1 - l) + 1 by omega, show lenN ls (ds.getD j 0) - (l + 1) = lenN ls (ds.getD j 0) - 1 - l by omega, Nat.pow_succ, ← Nat.div_div_eq_div_mul]
    omega
/-- What is read there. -/
theorem next_enc (ls : List Int) (ds : List Nat) (j L : Nat) (hj : j < ds.length) (hk : lensOk ls) (hf : krS ls ≤ 32768) (hp : ds.getD j 0 < ls.length) (h1 : 0 < ls.getD (ds.getD j 0) 0) (hL : bitsOf ls (ds.take j) + lenN ls (ds.getD j 0) ≤ L) :
    NextIs ls (encP ls ds) L (bitsOf ls (ds.take j)) ((ds.getD j 0 : Nat) : Int) 0 (bitsOf ls (ds.take j) + lenN ls (ds.getD j 0)) := by
  have hx := hk.2 (ls.getD (ds.getD j 0) 0) (by
    generalize ds.getD j 0 = p at hp ⊢
    simp [List.getD, hp])
  have hy : ls.getD (ds.getD j 0) 0 = (lenN ls (ds.getD j 0) : Int) := by unfold lenN; omega
  have hc := code_fits ls (ds.getD j 0) (lenN ls (ds.getD j 0)) hp hy (by omega) (by omega) hf
  have hco := codeOf_enc ls ds j hj hc
  have hkk := hco (lenN ls (ds.getD j 0)) (Nat.le_refl _)
  rw [Nat.sub_self, Nat.pow_zero, Nat.div_one] at hkk
  obtain ⟨k, hk1⟩ : ∃ k, lenN ls (ds.getD j 0) = k + 1 := ⟨lenN ls (ds.getD j 0) - 1, by omega⟩
  rw [hk1] at hkk hy hL hco ⊢
  refine ⟨k, fun l h2 h3 i hit => ?_, .inr (.inr ⟨by omega, hL, rfl, rfl, ds.getD j 0, ⟨hp, hy, hkk.symm⟩, rfl⟩)⟩
  have h4 := code_prefix ls i (ds.getD j 0) l (k + 1) hit.1 hp hit.2.1 hy h2 (by omega)
  have h5 := hco l (by omega)
  have h6 := hit.2.2
  omega
end Go.Proofs.Ytmdkinhbfndoeaa
