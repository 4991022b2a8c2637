/-
  What is set is told, nothing else changes: the lists.
-/
import Derived.Test.YtdlmcjcdmjkhhaaPixSet
namespace Go.Proofs.Ytdlmcjcdmjkhhaa
open Go.RowKit

theorem getD_splice (xs B : List Int) (p m i : Nat) (h : p + m ≤ xs.length) (hB : B.length = m) : (xs.take p ++ (B ++ xs.drop (p + m))).getD i 0 = if i < p then xs.getD i 0 else if i < p + m then B.getD (i - p) 0 else xs.getD i 0 := by
  have h1 : (xs.take p).length = p := by simp; omega
  simp only [List.getD]
  by_cases c1 : i < p
  · rw [if_pos c1, List.getElem?_append_left (by omega), List.getElem?_take_of_lt c1]
  · rw [if_neg c1, List.getElem?_append_right (by omega), h1]
    by_cases c2 : i < p + m
    · rw [if_pos c2, List.getElem?_append_left (by omega)]
    · rw [if_neg c2, List.getElem?_append_right (by omega), List.getElem?_drop, hB]
      congr 2; omega
theorem getD_sub (S : List Int) (q m i : Nat) : ((S.drop q).take m).getD i 0 = if i < m then S.getD (q + i) 0 else 0 := by
  simp only [List.getD, List.getElem?_take, List.getElem?_drop]
  split <;> simp

theorem setList_len (W H C D : Int) (xs : List Int) (x y c v : Int) (n : Nat) (hl : xs.length = n) (hm : mayR W H C D n = true) (hi : InR W H C x y c) : (setList W H C D xs x y c v).length = n := by
  have hb := (mayR_spec hm).1
  have hq := plAt_in hb hi
  have hs := (mayR_spec hm).2
  simp [setList, big_len]; omega
theorem setList_isB (W H C D : Int) (xs : List Int) (x y c v : Int) (h : isB xs) : isB (setList W H C D xs x y c v) := (h.take _).append ((big_isB _ _).append (h.drop _))

theorem rbig_big (v : Int) (m : Nat) (hm : 1 ≤ m ∧ m ≤ 2) (hf : fit v m = true) : rbig (big v m) = v := by
  have h : 1 ≤ (m : Int) ∧ (m : Int) ≤ 6 ∧ 0 ≤ v ∧ v / 2 ^ (8 * (m : Int)).toNat = 0 := of_decide_eq_true hf
  rcases (by omega : m = 1 ∨ m = 2) with rfl | rfl
  · have e : v / 256 = 0 := h.2.2.2
    have : big v 1 = [v % 256] := by simp [big, lit]
    rw [this]; simp [rbig]; omega
  · have e : v / 65536 = 0 := h.2.2.2
    have : big v 2 = [v / 256 % 256, v % 256] := by simp [big, lit, List.range_succ]
    rw [this]; simp [rbig]; omega

theorem at_set_same (W H C D : Int) (xs : List Int) (x y c v : Int) (n : Nat) (hl : xs.length = n) (hm : mayR W H C D n = true) (hi : InR W H C x y c) (hf : fit v (D / 8) = true) : atNum W H C D (setList W H C D xs x y c v) x y c = v := by
  have hb := (mayR_spec hm).1
  have hq := plAt_in hb hi
  have hs := (mayR_spec hm).2
  have hD := hb.2.2.2.2.2.2
  obtain ⟨m, hmm, hm1⟩ : ∃ m : Nat, D / 8 = m ∧ 1 ≤ m ∧ m ≤ 2 := ⟨(D / 8).toNat, by omega, by omega⟩
  rw [hmm] at hf hq
  unfold atNum setList
  rw [hmm]
  simp only [Int.toNat_natCast]
  generalize plAt W H C D x y c = pl at *
  obtain ⟨p, rfl⟩ : ∃ p : Nat, pl = p := ⟨pl.toNat, by omega⟩
  simp only [Int.toNat_natCast]
  have : ((xs.take p ++ (big v m ++ xs.drop (p + m))).drop p).take m = big v m := by
    apply ext_getD
    · simp [big_len]; omega
    · intro i hi
      have hi' : i < m := by simp at hi; omega
      rw [getD_sub, if_pos hi', getD_splice _ _ _ _ _ (by omega) (big_len _ _), if_neg (by omega), if_pos (by omega), show p + i - p = i by omega]
  rw [this]
  exact rbig_big v m hm1 hf

/-- Two places lie apart. -/
theorem plAt_apart {W H C D x y c i j k : Int} (hb : Bnds W H C D) (h1 : InR W H C x y c) (h2 : InR W H C i j k) (hne : ¬ (i = x ∧ j = y ∧ k = c)) :
    plAt W H C D i j k + D / 8 ≤ plAt W H C D x y c ∨ plAt W H C D x y c + D / 8 ≤ plAt W H C D i j k := by
  have b1 := plAt_bd hb h1
  have b2 := plAt_bd hb h2
  have hr := row_bd W H C D
  obtain ⟨a1, a2, a3, a4, a5, a6⟩ := h1
  obtain ⟨e1, e2, e3, e4, e5, e6⟩ := h2
  have hD := hb.2.2.2.2.2.2
  have hC : C = 1 ∨ C = 2 ∨ C = 3 ∨ C = 4 := by have := hb.2.2.2.2.1; have := hb.2.2.2.2.2.1; omega
  unfold plAt
  rcases Int.lt_trichotomy j y with h | h | h
  · have := Int.mul_le_mul_of_nonneg_right (show j + 1 ≤ y by omega) hr.1
    rw [Int.add_mul] at this
    omega
  · subst h
    rcases hC with rfl | rfl | rfl | rfl <;> rcases hD with rfl | rfl <;> omega
  · have := Int.mul_le_mul_of_nonneg_right (show y + 1 ≤ j by omega) hr.1
    rw [Int.add_mul] at this
    omega

theorem at_set_other (W H C D : Int) (xs : List Int) (x y c v i j k : Int) (n : Nat) (hl : xs.length = n) (hm : mayR W H C D n = true) (hi : InR W H C x y c) (hj : InR W H C i j k) (hne : ¬ (i = x ∧ j = y ∧ k = c)) :
    atNum W H C D (setList W H C D xs x y c v) i j k = atNum W H C D xs i j k := by
  have hb := (mayR_spec hm).1
  have hq := plAt_in hb hi
  have hq2 := plAt_in hb hj
  have hs := (mayR_spec hm).2
  have hD := hb.2.2.2.2.2.2
  have hap := plAt_apart hb hi hj hne
  obtain ⟨m, hmm, hm1⟩ : ∃ m : Nat, D / 8 = m ∧ 1 ≤ m ∧ m ≤ 2 := ⟨(D / 8).toNat, by omega, by omega⟩
  rw [hmm] at hq hq2 hap
  unfold atNum setList
  rw [hmm]
  simp only [Int.toNat_natCast]
  generalize plAt W H C D x y c = pl at *
  generalize plAt W H C D i j k = ql at *
  obtain ⟨p, rfl⟩ : ∃ p : Nat, pl = p := ⟨pl.toNat, by omega⟩
  obtain ⟨q, rfl⟩ : ∃ q : Nat, ql = q := ⟨ql.toNat, by omega⟩
  simp only [Int.toNat_natCast]
  congr 1
  apply ext_getD
  · simp [big_len]; omega
  · intro z hz
    have hz' : z < m := by simp at hz; omega
    rw [getD_sub, getD_sub, if_pos hz', if_pos hz', getD_splice _ _ _ _ _ (by omega) (big_len _ _)]
    by_cases c1 : q + z < p
    · rw [if_pos c1]
    · rw [if_neg c1, if_neg (by omega)]

/-- What At gives. -/
def atVal (W H C D : Int) (n : Nat) (xs : List Int) (x y c : Int) : Int := if atErr W H C D n x y c = 0 then atNum W H C D xs x y c else 0
theorem atErr_zero {W H C D : Int} {n : Nat} {x y c : Int} : atErr W H C D n x y c = 0 ↔ mayR W H C D n = true ∧ InR W H C x y c := by
  unfold atErr
  by_cases h : mayR W H C D n = true
  · by_cases h2 : InR W H C x y c <;> simp [h, h2]
  · simp [h]
theorem at_any (W H C D : Int) (a : Option Addr) (n cap : Nat) (xs : List Int) (x y c : Int) (w : World) (hr : Reads .u8 w a n cap xs) (hx : isB xs) (hH : -9223372036854775808 ≤ H ∧ H ≤ 9223372036854775807) :
    Calls Try.prog 11 #[ras W H C D a n cap, .int .i64 x, .int .i64 y, .int .i64 c] w fun e w' => e = .returned (.tuple #[.int .i64 (atVal W H C D n xs x y c), .int .i64 (atErr W H C D n x y c)]) ∧ Below w.heap.size w w' := by
  unfold atVal
  by_cases h : atErr W H C D n x y c = 0
  · rw [if_pos h, h]
    obtain ⟨h1, h2⟩ := atErr_zero.1 h
    exact at_yes W H C D a n cap xs x y c w hr hx h1 h2
  · rw [if_neg h]
    exact at_not W H C D a n cap x y c w hH h
end Go.Proofs.Ytdlmcjcdmjkhhaa
