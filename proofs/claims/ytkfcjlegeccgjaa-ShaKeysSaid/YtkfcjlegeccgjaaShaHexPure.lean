/-
  The key's text is a key: what its digits stand for.
-/
import Derived.Test.YtkfcjlegeccgjaaShaFirst
namespace Go.Proofs.Ytkfcjlegeccgjaa
open Go.RowKit

theorem hexL_getD (xs : List Int) : ∀ j, j < xs.length → (hexL xs).getD (2 * j) 0 = hexD (xs.getD j 0 / 16) ∧ (hexL xs).getD (2 * j + 1) 0 = hexD (xs.getD j 0 % 16) := by
  induction xs with
  | nil => intro j h; simp at h
  | cons x xs ih =>
    intro j h
    have e : hexL (x :: xs) = hexD (x / 16) :: hexD (x % 16) :: hexL xs := rfl
    rw [e]
    cases j with
    | zero => exact ⟨rfl, rfl⟩
    | succ j =>
      rw [show 2 * (j + 1) = 2 * j + 1 + 1 by omega, List.getD_cons_succ, List.getD_cons_succ, List.getD_cons_succ, List.getD_cons_succ, List.getD_cons_succ]
      exact ih j (by simp at h; omega)
theorem byteAt_str (ys : List Int) (hb : isB ys) (i : Nat) (h : i < ys.length) : byteAt (strOfNums ys) i = ys.getD i 0 := by
  have hs : i < (strOfNums ys).size := by rw [strOfNums_size]; exact h
  have hx := hb.get i h
  unfold byteAt
  rw [dif_pos hs]
  have e : (strOfNums ys)[i] = UInt8.ofNat (ys.getD i 0).toNat := by
    show (strOfNums ys).data[i]'_ = _
    simp [strOfNums, List.getD, h]
  rw [e, UInt8.toNat_ofNat']
  omega
theorem dig_hexD (n : Int) (h : 0 ≤ n) (h' : n < 16) : dig (hexD n) = n := by
  unfold hexD dig
  split
  · rw [if_pos (by omega)]; omega
  · rw [if_neg (by omega), if_pos (by omega)]; omega
theorem hex_ok (xs : List Int) (h : isB xs) : hexOk (strOfNums (hexL xs)) ∧ pairs (strOfNums (hexL xs)) xs.length = xs ∧ (strOfNums (hexL xs)).size = 2 * xs.length := by
  have hs : (strOfNums (hexL xs)).size = 2 * xs.length := by rw [strOfNums_size, hexL_len]
  have hB := hexL_isB xs h
  have key : ∀ j, j < xs.length → dig (byteAt (strOfNums (hexL xs)) (2 * j)) = xs.getD j 0 / 16 ∧ dig (byteAt (strOfNums (hexL xs)) (2 * j + 1)) = xs.getD j 0 % 16 := by
    intro j hj
    have hx := h.get j hj
    rw [byteAt_str _ hB _ (by rw [hexL_len]; omega), byteAt_str _ hB _ (by rw [hexL_len]; omega), (hexL_getD xs j hj).1, (hexL_getD xs j hj).2, dig_hexD _ (by omega) (by omega), dig_hexD _ (by omega) (by omega)]
    exact ⟨rfl, rfl⟩
  refine ⟨⟨by omega, fun j hj => ?_⟩, ?_, hs⟩
  · have hx := h.get j (by omega)
    have := key j (by omega)
    unfold okAt
    omega
  · apply ext_getD (pairs_len _ _)
    intro j hj
    rw [pairs_len] at hj
    rw [pairs, getD_map_range, if_pos hj]
    have := key j hj
    unfold pairAt
    omega

end Go.Proofs.Ytkfcjlegeccgjaa
