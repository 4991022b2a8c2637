/-
  Decoders of canonical codes: where symbols stand, what is read. Nothing of the program.
-/
import Derived.Test.YtmdkinhbfndoeaaHuffPrefixP
namespace Go.Proofs.Ytmdkinhbfndoeaa
open Go.RowKit

/-- How many codes are shorter. -/
def offN (ls : List Int) : Nat → Nat
  | 0 => 0
  | n + 1 => offN ls n + if n = 0 then 0 else cnt ls n
theorem offN_succ (ls : List Int) (n : Nat) (h : 1 ≤ n) : offN ls (n + 1) = offN ls n + cnt ls n := by rw [offN, if_neg (by omega)]
theorem offN_mono (ls : List Int) (m : Nat) : ∀ d, offN ls m ≤ offN ls (m + d)
  | 0 => Nat.le_refl _
  | d + 1 => by
    have := offN_mono ls m d
    rw [← Nat.add_assoc, offN]; omega
theorem offN_lt (ls : List Int) (m n : Nat) (h1 : 1 ≤ m) (h : m < n) : offN ls m + cnt ls m ≤ offN ls n := by
  rw [← offN_succ ls m h1]
  have := offN_mono ls (m + 1) (n - (m + 1))
  rwa [show m + 1 + (n - (m + 1)) = n by omega] at this
/-- So many are of the lengths below n. -/
def lowB (n : Nat) (x : Int) : Bool := decide (0 < x ∧ x < (n : Int))
theorem lowB_yes {n : Nat} {x : Int} (h : 0 < x ∧ x < (n : Int)) : lowB n x = true := decide_eq_true h
theorem lowB_no {n : Nat} {x : Int} (h : ¬ (0 < x ∧ x < (n : Int))) : ¬ lowB n x = true := by unfold lowB; simpa using h
theorem offN_le (ls : List Int) (n : Nat) : offN ls n = (ls.filter (lowB n)).length := by
  induction n with
  | zero =>
    rw [offN]
    symm
    rw [List.length_eq_zero_iff, List.filter_eq_nil_iff]
    intro x _; exact lowB_no (by omega)
  | succ n ih =>
    rw [offN, ih]
    clear ih
    induction ls with
    | nil => simp [cnt]
    | cons x ls ih =>
      rw [cnt_cons]
      by_cases hn : n = 0
      · subst hn
        simp only [if_true, Nat.add_zero] at ih ⊢
        rw [List.filter_cons_of_neg (lowB_no (by omega)), List.filter_cons_of_neg (lowB_no (by omega))]
        exact ih
      · rw [if_neg hn] at ih ⊢
        by_cases h : (0 : Int) < x ∧ x < (n : Int)
        · rw [List.filter_cons_of_pos (lowB_yes h), List.filter_cons_of_pos (lowB_yes (by omega)), if_neg (by omega), List.length_cons, List.length_cons]
          omega
        · by_cases h3 : x = (n : Int)
          · rw [List.filter_cons_of_neg (lowB_no h), List.filter_cons_of_pos (lowB_yes (by omega)), if_pos h3, List.length_cons]
            omega
          · rw [List.filter_cons_of_neg (lowB_no h), List.filter_cons_of_neg (lowB_no (by omega)), if_neg h3]
            omega
theorem offN_len (ls : List Int) (n : Nat) : offN ls n ≤ ls.length := by rw [offN_le]; exact List.length_filter_le _ _
/-- Where a place stands. -/
def posN (ls : List Int) (i y : Nat) : Nat := offN ls y + cnt (ls.take i) y
theorem posN_lt (ls : List Int) (i y : Nat) (hi : i < ls.length) (hy : ls.getD i 0 = (y : Int)) (h1 : 1 ≤ y) (h15 : y ≤ 15) : posN ls i y < offN ls 16 := by
  have a := cnt_take_lt ls i ls.length y hi (Nat.le_refl _) hy
  rw [List.take_length] at a
  have b := offN_lt ls y 16 h1 (by omega)
  unfold posN; omega
theorem posN_inj (ls : List Int) (i j y z : Nat) (hij : j < i) (hi : i < ls.length) (hy : ls.getD i 0 = (y : Int)) (hz : ls.getD j 0 = (z : Int)) (h1 : 1 ≤ y) (h2 : 1 ≤ z) : posN ls i y ≠ posN ls j z := by
  have a := cnt_take_lt ls i ls.length y hi (Nat.le_refl _) hy
  have b := cnt_take_lt ls j ls.length z (by omega) (Nat.le_refl _) hz
  rw [List.take_length] at a b
  unfold posN
  rcases Nat.lt_trichotomy y z with h | h | h
  · have := offN_lt ls y z h1 h; omega
  · subst h
    have := cnt_take_lt ls j i y hij (by omega) hz
    omega
  · have := offN_lt ls z y h2 h; omega
/-- Each of the first i places stands where it must. -/
def SymTo (ls S : List Int) (i : Nat) : Prop := S.length = offN ls 16 ∧ ∀ j, j < i → ∀ y : Nat, 1 ≤ y → ls.getD j 0 = (y : Int) → S.getD (posN ls j y) 0 = (j : Int)
theorem symTo_zero (ls S : List Int) (h : S.length = offN ls 16) : SymTo ls S 0 := ⟨h, fun _ h => absurd h (by omega)⟩
theorem symTo_no (ls S : List Int) (i : Nat) (h : SymTo ls S i) (hi : ¬ 0 < ls.getD i 0) : SymTo ls S (i + 1) :=
  ⟨h.1, fun j hj y hy e => by
    by_cases hji : j = i
    · subst hji; omega
    · exact h.2 j (by omega) y hy e⟩
theorem symTo_yes (ls S : List Int) (i y : Nat) (h : SymTo ls S i) (hi : i < ls.length) (hy : ls.getD i 0 = (y : Int)) (h1 : 1 ≤ y) (h15 : y ≤ 15) : SymTo ls (S.set (posN ls i y) i) (i + 1) :=
  ⟨by rw [List.length_set]; exact h.1, fun j hj z hz e => by
    have hl := posN_lt ls i y hi hy h1 h15
    rw [getD_set]
    by_cases hji : j = i
    · subst hji
      obtain rfl : y = z := by omega
      rw [if_pos ⟨rfl, by rw [h.1]; exact hl⟩]
    · rw [if_neg (fun hh => posN_inj ls i j y z (by omega) hi hy e h1 hz hh.1)]
      exact h.2 j (by omega) z hz e⟩
/-- The k-th of a length. -/
theorem nth_of (ls : List Int) (n k : Nat) (h : k < cnt ls n) : ∃ i, i < ls.length ∧ ls.getD i 0 = (n : Int) ∧ cnt (ls.take i) n = k := by
  have key : ∀ m, m ≤ ls.length → k < cnt (ls.take m) n → ∃ i, i < m ∧ ls.getD i 0 = (n : Int) ∧ cnt (ls.take i) n = k := by
    intro m
    induction m with
    | zero => intro _ h; simp [cnt] at h
    | succ m ih =>
      intro hm h
      by_cases hk : k < cnt (ls.take m) n
      · obtain ⟨i, h1, h2, h3⟩ := ih (by omega) hk
        exact ⟨i, by omega, h2, h3⟩
      · rw [take_getD ls m (by omega), cnt_snoc] at h
        by_cases e : ls.getD m 0 = (n : Int)
        · rw [if_pos e] at h
          exact ⟨m, by omega, e, by omega⟩
        · rw [if_neg e] at h; omega
  obtain ⟨i, h1, h2, h3⟩ := key ls.length (Nat.le_refl _) (by rw [List.take_length]; exact h)
  exact ⟨i, h1, h2, h3⟩
/-- The numbers behind the first loop's rounds. -/
def offL (ls : List Int) (k : Nat) : List Int := (List.range 17).map fun m => if m ≤ k then ((offN ls m : Nat) : Int) else 0
theorem offL_len (ls : List Int) (k : Nat) : (offL ls k).length = 17 := by simp [offL]
theorem offL_getD (ls : List Int) (k m : Nat) (h : m < 17) : (offL ls k).getD m 0 = if m ≤ k then ((offN ls m : Nat) : Int) else 0 := by unfold offL; rw [getD_map_range, if_pos h]
theorem offL_set (ls : List Int) (k : Nat) (h : k + 1 < 17) : offL ls (k + 1) = (offL ls k).set (k + 1) ((offN ls (k + 1) : Nat) : Int) := by
  refine ext_getD (by rw [List.length_set, offL_len, offL_len]) fun m hm => ?_
  rw [offL_len] at hm
  rw [getD_set, offL_getD _ _ _ hm, offL_getD _ _ _ hm, offL_len]
  by_cases e : k + 1 = m
  · rw [if_pos (show m ≤ k + 1 by omega), if_pos (show k + 1 = m ∧ k + 1 < 17 from ⟨e, h⟩), e]
  · rw [if_neg (show ¬ (k + 1 = m ∧ k + 1 < 17) from fun h => e h.1)]
    by_cases h2 : m ≤ k
    · rw [if_pos h2, if_pos (by omega)]
    · rw [if_neg h2, if_neg (by omega)]
theorem offL_zero (ls : List Int) : offL ls 0 = List.replicate 17 0 := by
  refine ext_getD (by rw [offL_len]; rfl) fun m hm => ?_
  rw [offL_len] at hm
  rw [offL_getD _ _ _ hm]
  have e : (List.replicate 17 (0 : Int)).getD m 0 = 0 := by rw [List.getD, List.getElem?_replicate]; split <;> rfl
  rw [e]
  split
  · rename_i h; obtain rfl : m = 0 := by omega
    rfl
  · rfl
/-- The next places behind so many. -/
def nowO (ls : List Int) (i : Nat) : List Int := (List.range 17).map fun m => ((offN ls m + (if m = 0 then 0 else cnt (ls.take i) m) : Nat) : Int)
theorem nowO_len (ls : List Int) (i : Nat) : (nowO ls i).length = 17 := by simp [nowO]
theorem nowO_getD (ls : List Int) (i m : Nat) (h : m < 17) : (nowO ls i).getD m 0 = ((offN ls m + (if m = 0 then 0 else cnt (ls.take i) m) : Nat) : Int) := by unfold nowO; rw [getD_map_range, if_pos h]
theorem nowO_zero (ls : List Int) : nowO ls 0 = offL ls 16 := by
  refine ext_getD (by rw [nowO_len, offL_len]) fun m hm => ?_
  rw [nowO_len] at hm
  rw [nowO_getD _ _ _ hm, offL_getD _ _ _ hm, if_pos (show m ≤ 16 by omega)]
  by_cases h : m = 0
  · rw [if_pos h, Nat.add_zero]
  · rw [if_neg h]; simp [cnt]
theorem nowO_no (ls : List Int) (i : Nat) (hi : i < ls.length) (h : ¬ 0 < ls.getD i 0) : nowO ls (i + 1) = nowO ls i := by
  refine ext_getD (by rw [nowO_len, nowO_len]) fun m hm => ?_
  rw [nowO_len] at hm
  rw [nowO_getD _ _ _ hm, nowO_getD _ _ _ hm]
  by_cases h0 : m = 0
  · rw [if_pos h0, if_pos h0]
  · rw [if_neg h0, if_neg h0, take_getD ls i hi, cnt_snoc, if_neg (show ¬ ls.getD i 0 = (m : Int) by omega), Nat.add_zero]
theorem nowO_at (ls : List Int) (i y : Nat) (h0 : 1 ≤ y) (h15 : y < 16) : (nowO ls i).getD y 0 = ((posN ls i y : Nat) : Int) := by
  rw [nowO_getD _ _ _ (by omega), if_neg (by omega)]; rfl
theorem nowO_set (ls : List Int) (i y : Nat) (hi : i < ls.length) (hy : ls.getD i 0 = (y : Int)) (h0 : 1 ≤ y) (h15 : y < 16) : nowO ls (i + 1) = (nowO ls i).set y ((posN ls i y : Nat) + 1 : Int) := by
  refine ext_getD (by rw [List.length_set, nowO_len, nowO_len]) fun m hm => ?_
  rw [nowO_len] at hm
  rw [getD_set, nowO_getD _ _ _ hm, nowO_getD _ _ _ hm, nowO_len, take_getD ls i hi, cnt_snoc, hy]
  by_cases hm0 : m = 0
  · rw [if_pos hm0, if_neg (show ¬ (y = m ∧ y < 17) by omega), if_pos hm0]
  · by_cases e : y = m
    · subst e
      rw [if_neg hm0, if_pos (show y = y ∧ y < 17 from ⟨rfl, by omega⟩), if_pos rfl]
      unfold posN; omega
    · rw [if_neg hm0, if_neg (show ¬ (y = m ∧ y < 17) from fun h => e h.1), if_neg hm0, if_neg (show ¬ (y : Int) = (m : Int) by omega), Nat.add_zero]

/-! What is read -/
/-- The first n bits from p on as a number, the first one the greatest. -/
def codeOf (V p : Nat) : Nat → Nat
  | 0 => 0
  | n + 1 => 2 * codeOf V p n + V / 2 ^ (p + n) % 2
theorem codeOf_lt (V p : Nat) : ∀ n, codeOf V p n < 2 ^ n
  | 0 => by simp [codeOf]
  | n + 1 => by
    have := codeOf_lt V p n
    have h2 : V / 2 ^ (p + n) % 2 < 2 := Nat.mod_lt _ (by decide)
    rw [codeOf, Nat.pow_succ]; omega
/-- A place's code. -/
def Hit (ls : List Int) (V p n i : Nat) : Prop := i < ls.length ∧ ls.getD i 0 = (n : Int) ∧ codeN ls i = codeOf V p n
theorem hit_one {ls : List Int} {V p n i j : Nat} (h : Hit ls V p n i) (k : Hit ls V p n j) : i = j := by
  rcases Nat.lt_trichotomy i j with e | e | e
  · have := code_rise ls i j n e k.1 h.2.1 k.2.1; have := h.2.2; have := k.2.2; omega
  · exact e
  · have := code_rise ls j i n e h.1 k.2.1 h.2.1; have := h.2.2; have := k.2.2; omega
/-- None of length up to m was met. -/
def NoHit (ls : List Int) (V p m : Nat) : Prop := ∀ l, 1 ≤ l → l ≤ m → ∀ i, ¬ Hit ls V p l i
theorem noHit_zero (ls : List Int) (V p : Nat) : NoHit ls V p 0 := fun l h1 h2 => by omega
theorem noHit_succ {ls : List Int} {V p m : Nat} (h : NoHit ls V p m) (k : ∀ i, ¬ Hit ls V p (m + 1) i) : NoHit ls V p (m + 1) := fun l h1 h2 i => by
  by_cases e : l = m + 1
  · subst e; exact k i
  · exact h l h1 (by omega) i
/-- What Next answers: the place, the error, how many bits were passed over. -/
def NextIs (ls : List Int) (V L p : Nat) (v e : Int) (q : Nat) : Prop :=
  ∃ m, NoHit ls V p m ∧ ((m < 15 ∧ L = p + m ∧ v = 0 ∧ e = 2 ∧ q = p + m) ∨ (m = 15 ∧ v = 0 ∧ e = 4 ∧ q = p + 15 ∧ p + 15 ≤ L) ∨ (m < 15 ∧ p + m + 1 ≤ L ∧ e = 0 ∧ q = p + m + 1 ∧ ∃ i, Hit ls V p (m + 1) i ∧ v = (i : Int)))
theorem next_one {ls : List Int} {V L p : Nat} {v e v' e' : Int} {q q' : Nat} (h : NextIs ls V L p v e q) (k : NextIs ls V L p v' e' q') : v = v' ∧ e = e' ∧ q = q' := by
  obtain ⟨m, h1, h⟩ := h
  obtain ⟨m', k1, k⟩ := k
  rcases h with ⟨a, b, c, d, f⟩ | ⟨a, b, c, d, f⟩ | ⟨a, b, c, d, i, hi, f⟩ <;> rcases k with ⟨a', b', c', d', f'⟩ | ⟨a', b', c', d', f'⟩ | ⟨a', b', c', d', i', hi', f'⟩
  · omega
  · omega
  · by_cases x : m < m' + 1
    · omega
    · exact absurd hi' (h1 _ (by omega) (by omega) _)
  · omega
  · omega
  · exact absurd hi' (h1 _ (by omega) (by omega) _)
  · by_cases x : m' < m + 1
    · omega
    · exact absurd hi (k1 _ (by omega) (by omega) _)
  · exact absurd hi (k1 _ (by omega) (by omega) _)
  · rcases Nat.lt_trichotomy m m' with x | x | x
    · exact absurd hi (k1 _ (by omega) (by omega) _)
    · subst x
      have := hit_one hi hi'
      omega
    · exact absurd hi' (h1 _ (by omega) (by omega) _)
/-- One bit more: hit or not. -/
theorem hit_of {ls : List Int} {V p n : Nat} (h1 : base ls n ≤ codeOf V p n) (h2 : codeOf V p n < base ls n + cnt ls n) :
    ∃ i, Hit ls V p n i ∧ posN ls i n = offN ls n + (codeOf V p n - base ls n) := by
  obtain ⟨i, a, b, c⟩ := nth_of ls n (codeOf V p n - base ls n) (by omega)
  refine ⟨i, ⟨a, b, ?_⟩, ?_⟩
  · unfold codeN; rw [b, Int.toNat_natCast, c]; omega
  · unfold posN; rw [c]
theorem hit_no {ls : List Int} {V p n : Nat} (h : ¬ codeOf V p n < base ls n + cnt ls n) : ∀ i, ¬ Hit ls V p n i := by
  rintro i ⟨a, b, c⟩
  have := code_lt ls i n a b
  unfold nextN at this
  omega
end Go.Proofs.Ytmdkinhbfndoeaa
