/-
  SHA-256 by blocks: all whole blocks first, then the closing ones.
-/
import Derived.Test.YtkfcjlegeccgjaaShaClosing
namespace Go.Proofs.Ytkfcjlegeccgjaa
open Go.RowKit

theorem blk_append_l (a t : List Int) (k K : Nat) (ha : a.length = 64 * K) (hk : k < K) : blk (a ++ t) k = blk a k := by
  unfold blk
  rw [List.drop_append_of_le_length (by omega), List.take_append_of_le_length (by rw [List.length_drop]; omega)]
theorem blk_append_r (a t : List Int) (j K : Nat) (ha : a.length = 64 * K) : blk (a ++ t) (K + j) = blk t j := by
  unfold blk
  rw [List.drop_append, show List.drop (64 * (K + j)) a = [] from List.drop_eq_nil_of_le (by omega), List.nil_append, ha, show 64 * (K + j) - 64 * K = 64 * j by omega]
theorem mixN_append_l (st a t : List Int) (K : Nat) (ha : a.length = 64 * K) : ∀ k, k ≤ K → mixN st (a ++ t) k = mixN st a k
  | 0, _ => rfl
  | k + 1, h => by rw [mixN, mixN, mixN_append_l st a t K ha k (by omega), blk_append_l a t k K ha (by omega)]
theorem mixN_append_r (st a t : List Int) (K : Nat) (ha : a.length = 64 * K) : ∀ j, mixN st (a ++ t) (K + j) = mixN (mixN st a K) t j
  | 0 => mixN_append_l st a t K ha K (Nat.le_refl _)
  | j + 1 => by rw [show K + (j + 1) = (K + j) + 1 from rfl, mixN, mixN, mixN_append_r st a t K ha j, blk_append_r a t j K ha]
theorem blk_take (xs : List Int) (K k : Nat) (hk : k < K) : blk (xs.take (64 * K)) k = blk xs k := by
  unfold blk
  rw [List.drop_take, List.take_take, Nat.min_eq_left (by omega)]
theorem mixN_take (st xs : List Int) (K : Nat) : ∀ k, k ≤ K → mixN st (xs.take (64 * K)) k = mixN st xs k
  | 0, _ => rfl
  | k + 1, h => by rw [mixN, mixN, mixN_take st xs K k (by omega), blk_take xs K k (by omega)]
theorem msg_parts (xs : List Int) (K : Nat) : msg xs = xs.take (64 * K) ++ closeS (xs.drop (64 * K)) xs.length := by
  unfold msg closeS
  rw [← List.append_assoc (xs.take _), List.take_append_drop]
theorem shaS_parts (xs : List Int) (n : Nat) (hn : xs.length = n) :
    shaS xs = mixN (mixN hSha xs (n / 64)) (closeS (xs.drop (64 * (n / 64))) n) ((closeS (xs.drop (64 * (n / 64))) n).length / 64) := by
  subst hn
  have ha : (xs.take (64 * (xs.length / 64))).length = 64 * (xs.length / 64) := by rw [List.length_take]; omega
  unfold shaS
  rw [msg_parts xs (xs.length / 64), List.length_append, ha, show (64 * (xs.length / 64) + (closeS (xs.drop (64 * (xs.length / 64))) xs.length).length) / 64 = xs.length / 64 + (closeS (xs.drop (64 * (xs.length / 64))) xs.length).length / 64 by omega,
    mixN_append_r _ _ _ _ ha, mixN_take _ _ _ _ (Nat.le_refl _)]
theorem closeS_isB (rest : List Int) (n : Nat) (h : isB rest) : isB (closeS rest n) := by
  unfold closeS
  refine h.append (isB.append (isB.one (by decide) (by decide)) (isB.append (fun x hx => ?_) (fun x hx => ?_)))
  · have := List.eq_of_mem_replicate hx; omega
  · unfold be8 at hx
    obtain ⟨i, _, rfl⟩ := List.mem_map.1 hx
    omega
theorem blk_isB {xs : List Int} (h : isB xs) (k : Nat) : isB (blk xs k) := (h.drop _).take _
/-- The words so far as bytes. -/
theorem flat4_snoc (ws : List Int) (x : Int) : (ws ++ [x]).flatMap bytes4 = ws.flatMap bytes4 ++ bytes4 x := by simp
end Go.Proofs.Ytkfcjlegeccgjaa
