/-
  The reference's search finds what the program's finds. Nothing of the program.
-/
import Derived.Test.YtfolhckhedinhaaLzFind
namespace Go.Proofs.Ytfolhckhedinhaa
open Go.RowKit

/-- The same three bytes at two places. -/
def r3 (xs : List Int) (i k : Nat) : Bool := decide (k + 3 ≤ xs.length) && (xs.getD i 0 == xs.getD k 0) && (xs.getD (i + 1) 0 == xs.getD (k + 1) 0) && (xs.getD (i + 2) 0 == xs.getD (k + 2) 0)
theorem getD_bd' {xs : List Int} (h : isB xs) (i : Nat) : 0 ≤ xs.getD i 0 ∧ xs.getD i 0 < 256 := by
  by_cases hi : i < xs.length
  · exact h.get i hi
  · simp [List.getD, List.getElem?_eq_none (by omega : xs.length ≤ i)]
theorem r3_iff {xs : List Int} (h : isB xs) (i k : Nat) : r3 xs i k = true ↔ k + 3 ≤ xs.length ∧ code xs i = code xs k := by
  have a0 := getD_bd' h i; have a1 := getD_bd' h (i + 1); have a2 := getD_bd' h (i + 2)
  have b0 := getD_bd' h k; have b1 := getD_bd' h (k + 1); have b2 := getD_bd' h (k + 2)
  unfold r3 code
  simp only [Bool.and_eq_true, decide_eq_true_eq, beq_iff_eq]
  constructor
  · rintro ⟨⟨⟨h0, h1⟩, h2⟩, h3⟩; exact ⟨h0, by omega⟩
  · rintro ⟨h0, h1⟩; exact ⟨⟨⟨h0, by omega⟩, by omega⟩, by omega⟩

def rW (xs : List Int) (a : Nat) : Nat → Nat → Nat → Nat → Nat × Nat
  | 0, _, l, d => (l, d)
  | i + 1, s, l, d => if (a : Int) - i ≤ 32768 ∧ s < 64 then
      (if r3 xs i a = true then rW xs a i (s + 1) (if l < lcp xs i a (mostOf xs.length a) then lcp xs i a (mostOf xs.length a) else l) (if l < lcp xs i a (mostOf xs.length a) then a - i else d) else rW xs a i s l d)
      else (l, d)

theorem rW_full (xs : List Int) (a : Nat) : ∀ (r s d : Nat), rW xs a r s (mostOf xs.length a) d = (mostOf xs.length a, d) := by
  intro r
  induction r with
  | zero => intro s d; rfl
  | succ i ih =>
    intro s d
    rw [rW]
    have := lcp_le xs i a (mostOf xs.length a)
    split
    · split
      · rw [if_neg (by omega), if_neg (by omega)]; exact ih _ _
      · exact ih _ _
    · rfl
theorem rW_stop (xs : List Int) (a i s : Nat) (h : ¬ ((a : Int) - i ≤ 32768 ∧ s < 64)) (l d : Nat) : ∀ r, r ≤ i + 1 → rW xs a r s l d = (l, d) := by
  intro r hr
  cases r with
  | zero => rfl
  | succ r => rw [rW, if_neg (by omega)]
theorem rW_none (xs : List Int) (a : Nat) (h : ¬ a + 3 ≤ xs.length) : ∀ (r s l d : Nat), rW xs a r s l d = (l, d) := by
  intro r
  induction r with
  | zero => intro s l d; rfl
  | succ i ih =>
    intro s l d
    rw [rW]
    have h3 : r3 xs i a = false := by unfold r3; simp [h]
    rw [h3]
    split
    · exact ih _ _ _
    · rfl
theorem rW_skip {xs : List Int} (hx : isB xs) (a : Nat) (ha : a + 3 ≤ xs.length) (s l d : Nat) : ∀ r, r ≤ a → rW xs a r s l d = rW xs a (lastOf xs r (code xs a) + 1).toNat s l d := by
  intro r
  induction r with
  | zero => intro _; rfl
  | succ r ih =>
    intro hr
    rw [lastOf]
    by_cases hc : r + 3 ≤ xs.length ∧ code xs r = code xs a
    · rw [if_pos hc]; rfl
    · rw [if_neg hc]
      have h3 : ¬ r3 xs r a = true := fun h => hc ⟨by omega, ((r3_iff hx r a).1 h).2⟩
      have hb := lastOf_bd xs r (code xs a)
      rw [rW]
      by_cases hs : (a : Int) - r ≤ 32768 ∧ s < 64
      · rw [if_pos hs, if_neg h3]; exact ih (by omega)
      · rw [if_neg hs, rW_stop xs a r s hs l d _ (by omega)]
theorem lastOf_code (xs : List Int) (k : Nat) (c : Int) (h : 0 ≤ lastOf xs k c) : code xs (lastOf xs k c).toNat = c ∧ (lastOf xs k c).toNat + 3 ≤ xs.length := by
  induction k with
  | zero => simp [lastOf] at h
  | succ k ih =>
    rw [lastOf] at h ⊢
    split
    · next hc => simpa using And.intro hc.2 hc.1
    · next hc => rw [if_neg hc] at h; exact ih h
theorem mW_rW {xs : List Int} (hx : isB xs) (a : Nat) (ha : a + 3 ≤ xs.length) : ∀ (f s : Nat) (p : Int) (l d : Nat), s + f = 64 → -1 ≤ p → p < a → (0 ≤ p → code xs p.toNat = code xs a ∧ p.toNat + 3 ≤ xs.length) → l ≤ mostOf xs.length a →
    mW xs a (mostOf xs.length a) f p l d = rW xs a (p + 1).toNat s l d := by
  intro f
  induction f with
  | zero =>
    intro s p l d hs h1 h2 _ _
    rw [mW]
    cases hr : (p + 1).toNat with
    | zero => rfl
    | succ r => rw [rW, if_neg (by omega)]
  | succ f ih =>
    intro s p l d hs h1 h2 hc hl
    rw [mW]
    by_cases hp : p < 0
    · rw [if_pos (.inl hp), show (p + 1).toNat = 0 by omega]; rfl
    · obtain ⟨P, rfl⟩ := Int.eq_ofNat_of_zero_le (show 0 ≤ p by omega)
      obtain ⟨c1, c2⟩ := hc (by omega)
      simp only [Int.toNat_natCast] at c1 c2 ⊢
      rw [show ((P : Int) + 1).toNat = P + 1 by omega, rW]
      by_cases hd : (a : Int) - P > 32768
      · rw [if_pos (.inr (.inl hd)), if_neg (by omega)]
      · rw [if_pos (show (a : Int) - P ≤ 32768 ∧ s < 64 by omega), if_pos ((r3_iff hx P a).2 ⟨ha, c1⟩)]
        by_cases hm : l = mostOf xs.length a
        · rw [if_pos (.inr (.inr hm))]
          subst hm
          have := lcp_le xs P a (mostOf xs.length a)
          rw [if_neg (by omega), if_neg (by omega), rW_full]
        · rw [if_neg (by rintro (h | h | h) <;> omega)]
          have hav : aheadV xs P = lastOf xs P (code xs a) := by rw [aheadV, if_pos c2, c1]
          have hb := aheadV_bd xs P
          have hle := lcp_le xs P a (mostOf xs.length a)
          rw [ih (s + 1) (aheadV xs P) _ _ (by omega) hb.1 (by omega) (fun h => by rw [hav] at h ⊢; exact lastOf_code xs P _ h) (by split <;> omega), hav]
          exact (rW_skip hx a ha _ _ _ P (by omega)).symm
theorem rmtch_eq {xs : List Int} (hx : isB xs) (a : Nat) : rW xs a a 0 0 0 = mtch xs a := by
  unfold mtch
  by_cases ha : a + 3 ≤ xs.length
  · have hav : aheadV xs a = lastOf xs a (code xs a) := by rw [aheadV, if_pos ha]
    have hb := aheadV_bd xs a
    rw [mW_rW hx a ha 64 0 (aheadV xs a) 0 0 (by omega) hb.1 hb.2 (fun h => by rw [hav] at h ⊢; exact lastOf_code xs a _ h) (Nat.zero_le _), hav]
    exact rW_skip hx a ha _ _ _ a (Nat.le_refl _)
  · rw [rW_none xs a ha, aheadV, if_neg ha, mW, if_pos (.inl (by omega))]
theorem lcp_three {xs : List Int} {i k : Nat} (h : r3 xs i k = true) (m : Nat) (hm : 3 ≤ m) : lcp xs i k m = 3 + lcp xs (i + 3) (k + 3) (m - 3) := by
  unfold r3 at h
  simp only [Bool.and_eq_true, decide_eq_true_eq, beq_iff_eq] at h
  obtain ⟨⟨⟨_, h1⟩, h2⟩, h3⟩ := h
  obtain ⟨m, rfl⟩ : ∃ q, m = q + 3 := ⟨m - 3, by omega⟩
  rw [lcp, if_pos h1, lcp, if_pos h2, lcp, if_pos h3, Nat.add_sub_cancel]
  show lcp xs (i + 3) (k + 3) m + 1 + 1 + 1 = 3 + lcp xs (i + 3) (k + 3) m
  omega
end Go.Proofs.Ytfolhckhedinhaa
