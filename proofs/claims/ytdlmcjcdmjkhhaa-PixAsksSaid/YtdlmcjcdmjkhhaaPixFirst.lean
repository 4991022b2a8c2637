/-
  The statements' first function of chapter 9, and Few.
-/
import Derived.Test.YtdlmcjcdmjkhhaaEncode
namespace Go.Proofs.Ytdlmcjcdmjkhhaa
open Go.RowKit

set_option maxHeartbeats 400000 in
theorem first_any (w : World) :
    Calls Try.prog 8 #[] w fun e w' => e = .returned (.bool true) ∧ Below w.heap.size w w' := by
  go_enter Try.func8, Try.ntmps8
  go_wp2_with fail
  refine (encode_yes 1 1 1 8 _ 1 1 [7] _ (by exact reads_alloc _ [7] _ _ _ rfl (by decide) _ rfl) (isB_of_all _ (by decide)) (by decide)).mono ?_
  rintro e w1 ⟨g1, c1, rfl, ho1, hb1⟩
  have e1 : hdr 1 1 1 8 ++ [7] = [82, 0, 1, 0, 1, 1, 8, 7] := by decide
  rw [e1] at ho1
  simp only [Nat.reduceAdd] at ho1 ⊢
  have s1 := run_bytes_string (reads_of_owns ho1) 24 5 Try.underlying24 Try.underlying5 9 Try.underlying9
  have q1 : ((strOfNums [82, 0, 1, 0, 1, 1, 8, 7]).toList == [82, 0, 1, 0, 1, 1, 8, 7]) = true := by rw [ByteArray.toList_eq]; decide
  go_wp2
  go_ret
  exact ⟨rfl, ((Below.refl _ _).alloc (Nat.le_refl _) _).trans (hb1.mono (by simp))⟩

theorem few_any (W H C D : Int) (a : Option Addr) (n cap : Nat) (w : World) :
    Calls Try.prog 9 #[ras W H C D a n cap] w fun e w' => e = .returned (.bool (decide (n ≤ 20000))) ∧ Below w.heap.size w w' := by
  by_cases h : n ≤ 20000
  all_goals
    go_enter Try.func9, Try.ntmps9
    go_wp2
    go_ret
    refine ⟨ret_bool ?_, (Below.refl _ _).alloc (Nat.le_refl _) _⟩
    simp <;> omega
end Go.Proofs.Ytdlmcjcdmjkhhaa
