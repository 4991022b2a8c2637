/-
  CRC-32 and Adler-32 of lists that are taken together by exclusive or, and of a list in which one byte was turned: plain arithmetic.
-/
import Derived.Test.YtckekklmjegajaaDoorCrc
namespace Go.Proofs.YtckekklmjegajaaDoor
open Go.RowKit

theorem cstep_xor3 (s t u x y z : Nat) : cstep (s ^^^ t ^^^ u) (x ^^^ y ^^^ z) = cstep s x ^^^ cstep t y ^^^ cstep u z := by
  unfold cstep
  rw [← stN_xor, ← stN_xor]
  congr 1
  apply Nat.eq_of_testBit_eq
  intro i
  simp only [Nat.testBit_xor]
  cases s.testBit i <;> cases t.testBit i <;> cases u.testBit i <;> cases x.testBit i <;> cases y.testBit i <;> cases z.testBit i <;> rfl

/-- Three lists taken together. -/
def xor3 (xs ys zs : List Int) (i : Nat) : Int := (((xs.getD i 0).toNat ^^^ (ys.getD i 0).toNat ^^^ (zs.getD i 0).toNat : Nat) : Int)
theorem craw_take_xor (xs ys zs ds : List Int) (n : Nat) (hx : xs.length = n) (hy : ys.length = n) (hz : zs.length = n) (hd : ds.length = n) (h : ∀ i, i < n → ds.getD i 0 = xor3 xs ys zs i) :
    ∀ k, k ≤ n → craw (ds.take k) = craw (xs.take k) ^^^ craw (ys.take k) ^^^ craw (zs.take k) := by
  intro k
  induction k with
  | zero => intro _; rw [List.take_zero, List.take_zero, List.take_zero, List.take_zero]; decide
  | succ k ih =>
    intro hk
    rw [take_getD ds k (by omega), take_getD xs k (by omega), take_getD ys k (by omega), take_getD zs k (by omega), craw_snoc, craw_snoc, craw_snoc, craw_snoc, ih (by omega), h k (by omega)]
    unfold xor3
    rw [Int.toNat_natCast, cstep_xor3]
theorem craw_xor (xs ys zs ds : List Int) (n : Nat) (hx : xs.length = n) (hy : ys.length = n) (hz : zs.length = n) (hd : ds.length = n) (h : ∀ i, i < n → ds.getD i 0 = xor3 xs ys zs i) :
    craw ds = craw xs ^^^ craw ys ^^^ craw zs := by
  have := craw_take_xor xs ys zs ds n hx hy hz hd h n (Nat.le_refl _)
  rw [List.take_of_length_le (by omega), List.take_of_length_le (by omega), List.take_of_length_le (by omega), List.take_of_length_le (by omega)] at this
  exact this
theorem not_xor (s : Nat) (h : s < 2 ^ 32) : 4294967295 - s = 4294967295 ^^^ s := by
  have h2 : (BitVec.allOnes 32 ^^^ BitVec.ofNat 32 s).toNat = 2 ^ 32 - 1 - s := by
    rw [BitVec.allOnes_xor, BitVec.toNat_not, BitVec.toNat_ofNat, Nat.mod_eq_of_lt h]
  rw [BitVec.toNat_xor, BitVec.toNat_allOnes, BitVec.toNat_ofNat, Nat.mod_eq_of_lt h] at h2
  exact h2.symm
theorem crc_xor (xs ys zs ds : List Int) (n : Nat) (bx : isB xs) (by_ : isB ys) (bz : isB zs) (bd : isB ds) (hx : xs.length = n) (hy : ys.length = n) (hz : zs.length = n) (hd : ds.length = n) (h : ∀ i, i < n → ds.getD i 0 = xor3 xs ys zs i) :
    crc ds = crc xs ^^^ crc ys ^^^ crc zs := by
  unfold crc
  rw [not_xor _ (craw_lt _ bd), not_xor _ (craw_lt _ bx), not_xor _ (craw_lt _ by_), not_xor _ (craw_lt _ bz), craw_xor xs ys zs ds n hx hy hz hd h]
  apply Nat.eq_of_testBit_eq
  intro i
  simp only [Nat.testBit_xor]
  cases (4294967295 : Nat).testBit i <;> cases (craw xs).testBit i <;> cases (craw ys).testBit i <;> cases (craw zs).testBit i <;> rfl
theorem crc_lt (xs : List Int) : crc xs < 2 ^ 32 := by unfold crc; omega

/-! ### A byte turned -/
theorem cstep_inj (s t x : Nat) (hs : s < 2 ^ 32) (ht : t < 2 ^ 32) (h : cstep s x = cstep t x) : s = t := by
  unfold cstep at h
  have e : stN 8 (s ^^^ t) = 0 := by
    have h1 : s ^^^ t = (s ^^^ x) ^^^ (t ^^^ x) := by
      apply Nat.eq_of_testBit_eq
      intro i
      simp only [Nat.testBit_xor]
      cases s.testBit i <;> cases t.testBit i <;> cases x.testBit i <;> rfl
    rw [h1, stN_xor, h, Nat.xor_self]
  have z := stN_zero 8 _ (Nat.xor_lt_two_pow hs ht) e
  have := congrArg (· ^^^ t) z
  simpa [Nat.xor_assoc] using this
theorem cstep_byte (s x y : Nat) (hx : x < 256) (hy : y < 256) (h : cstep s x = cstep s y) : x = y := by
  have h1 : ∀ a b, cstep a b = cstep b a := fun a b => by unfold cstep; rw [Nat.xor_comm]
  rw [h1 s x, h1 s y] at h
  exact cstep_inj x y s (by omega) (by omega) h
theorem foldl_inj (l : List Int) (hl : isB l) : ∀ (s t : Nat), s < 2 ^ 32 → t < 2 ^ 32 → l.foldl (fun s x => cstep s x.toNat) s = l.foldl (fun s x => cstep s x.toNat) t → s = t := by
  induction l with
  | nil => intro s t _ _ h; exact h
  | cons x l ih =>
    intro s t hs ht h
    have hx := hl x (by simp)
    have := ih (fun y hy => hl y (by simp [hy])) _ _ (cstep_lt s _ hs (by omega)) (cstep_lt t _ ht (by omega)) h
    exact cstep_inj s t _ hs ht this
theorem set_split (xs : List Int) (i : Nat) (v : Int) (h : i < xs.length) : xs.set i v = xs.take i ++ v :: xs.drop (i + 1) ∧ xs = xs.take i ++ xs.getD i 0 :: xs.drop (i + 1) := by
  constructor
  · rw [List.set_eq_take_append_cons_drop, if_pos h]
  · have e : xs.getD i 0 = xs[i] := by simp [List.getD, h]
    rw [e, List.getElem_cons_drop, List.take_append_drop]
theorem crc_turned (xs : List Int) (bx : isB xs) (i : Nat) (v : Int) (h : i < xs.length) (hv : 0 ≤ v ∧ v < 256) (hne : v ≠ xs.getD i 0) : crc (xs.set i v) ≠ crc xs := by
  obtain ⟨e1, e2⟩ := set_split xs i v h
  intro hc
  have hx := bx.get i h
  have bd : isB (xs.drop (i + 1)) := bx.drop _
  have bs : isB (xs.set i v) := by
    rw [e1]
    exact (bx.take i).append (fun y hy => by
      rcases List.mem_cons.1 hy with rfl | hy
      · exact hv
      · exact bd y hy)
  have hr : craw (xs.set i v) = craw xs := by
    have l1 := craw_lt _ bs
    have l2 := craw_lt _ bx
    unfold crc at hc
    omega
  rw [e1] at hr
  have hr2 : craw (xs.take i ++ v :: xs.drop (i + 1)) = craw (xs.take i ++ xs.getD i 0 :: xs.drop (i + 1)) := by rw [hr]; exact congrArg craw e2
  unfold craw at hr2
  rw [List.foldl_append, List.foldl_append, List.foldl_cons, List.foldl_cons] at hr2
  have l3 := foldl_lt (xs.take i) (bx.take i) 4294967295 (by decide)
  have := foldl_inj _ bd _ _ (cstep_lt _ _ l3 (by omega)) (cstep_lt _ _ l3 (by omega)) hr2
  have := cstep_byte _ _ _ (by omega) (by omega) this
  omega
theorem adls_first (l : List Int) : ∀ (p q r s : Int), (l.foldl adl (p, q)).1 % 65521 = (l.foldl adl (r, s)).1 % 65521 → p % 65521 = r % 65521 := by
  induction l with
  | nil => intro p q r s h; exact h
  | cons x l ih =>
    intro p q r s h
    have := ih ((p + x) % 65521) ((q + (p + x) % 65521) % 65521) ((r + x) % 65521) ((s + (r + x) % 65521) % 65521) h
    omega
theorem adler_turned (xs : List Int) (bx : isB xs) (i : Nat) (v : Int) (h : i < xs.length) (hv : 0 ≤ v ∧ v < 256) (hne : v ≠ xs.getD i 0) : adler (xs.set i v) ≠ adler xs := by
  obtain ⟨e1, e2⟩ := set_split xs i v h
  intro hc
  have hx := bx.get i h
  have d1 := adls_bd (xs.set i v)
  have d2 := adls_bd xs
  have hf : (adls (xs.set i v)).1 = (adls xs).1 := by unfold adler at hc; omega
  have hf2 : (adls (xs.take i ++ v :: xs.drop (i + 1))).1 = (adls (xs.take i ++ xs.getD i 0 :: xs.drop (i + 1))).1 := by rw [← e1, ← e2]; exact hf
  unfold adls at hf2
  rw [List.foldl_append, List.foldl_append, List.foldl_cons, List.foldl_cons] at hf2
  have := adls_first (xs.drop (i + 1)) ((((xs.take i).foldl adl (1, 0)).1 + v) % 65521) _ ((((xs.take i).foldl adl (1, 0)).1 + xs.getD i 0) % 65521) _ (by exact congrArg (· % 65521) hf2)
  omega
end Go.Proofs.YtckekklmjegajaaDoor
