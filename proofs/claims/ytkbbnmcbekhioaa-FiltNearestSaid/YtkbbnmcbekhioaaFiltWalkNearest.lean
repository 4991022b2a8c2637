/-
  The walk of the statement FiltNearest.
-/
import Derived.Test.YtkbbnmcbekhioaaFiltFirst
namespace Go.Proofs.Ytkbbnmcbekhioaa
open Go.RowKit

set_option maxRecDepth 100000 in
set_option maxHeartbeats 2000000 in
theorem nearest_in (a b c : Int) (w : World) (ha : 0 ≤ a ∧ a ≤ 255) (hb : 0 ≤ b ∧ b ≤ 255) (hc : 0 ≤ c ∧ c ≤ 255) :
    Calls Try.prog 7 #[.int .i64 a, .int .i64 b, .int .i64 c] w fun e w' => e = .returned (.bool true) ∧ Below w.heap.size w w' := by
  have ha1 := ha.1; have ha2 := ha.2; have hb1 := hb.1; have hb2 := hb.2; have hc1 := hc.1; have hc2 := hc.2
  have HP : Hid (pae a b c = if far b c ≤ far a c ∧ far b c ≤ far (a + b) (2 * c) then a else if far a c ≤ far (a + b) (2 * c) then b else c) := rfl
  clear ha hb hc
  have HW : Hid (wt [a] = if 127 < a then 256 - a else a) := by simp [Hid, wt, wt1]
  by_cases h1 : b < c <;> by_cases h2 : a < c <;> by_cases h3 : a + b < 2 * c
  all_goals try (exfalso; omega)
  all_goals
    go_enter Try.func7, Try.ntmps7
    go_wp2_with fail
    refine (first_any w).mono ?_; rintro e w1 ⟨rfl, hw1⟩
    go_wp2_with fail
    refine (paeth_any a b c w1 (by omega) (by omega) (by omega)).mono ?_; rintro e w2 ⟨rfl, rfl⟩
    generalize pae a b c = p at *
    go_wp2_with (first | (go_at_call 8; refine (first_any _).mono ?_; rintro e w3 ⟨rfl, hw3⟩) | (go_at_call 17; refine (weight_any _ 1 1 [a] _ (by exact reads_alloc _ [a] _ _ _ rfl (by unfold maxLen; simp) _ rfl) (isB.one (by omega) (by omega)) (by omega)).mono ?_; rintro e w4 ⟨rfl, rfl⟩))
  all_goals go_ret
  all_goals go_tidy
  all_goals refine ⟨?_, by first | exact (below_size hw1 hw3).alloc (below_size hw1 hw3).size _ | exact below_size hw1 hw3⟩
  all_goals have HP := HP.out
  all_goals have HW := HW.out
  all_goals first
    | (refine ret_bool ?_; rw [beq_iff_eq, HW]; split <;> omega)
    | (exfalso; simp only [far] at HP; (repeat' split at HP) <;> omega)

set_option maxRecDepth 100000 in
set_option maxHeartbeats 1000000 in
theorem walk_FiltNearest (a b c : Int) (w : World) (h0 : -9223372036854775808 ≤ a ∧ a ≤ 9223372036854775807) (h1 : -9223372036854775808 ≤ b ∧ b ≤ 9223372036854775807) (h2 : -9223372036854775808 ≤ c ∧ c ≤ 9223372036854775807) :
    Calls Try.prog 7 #[.int .i64 a, .int .i64 b, .int .i64 c] w fun e w' => e = .returned (.bool true) ∧ Below w.heap.size w w' := by
  by_cases hc : a < 0 ∨ 255 < a ∨ b < 0 ∨ 255 < b ∨ c < 0 ∨ 255 < c
  · go_enter Try.func7, Try.ntmps7
    go_wp2_with fail
    refine (first_any w).mono ?_; rintro e w1 ⟨rfl, hb1⟩
    go_wp2_with (go_at_call 8; refine (first_any _).mono ?_; rintro e w' ⟨rfl, hb2⟩)
    all_goals go_ret
    all_goals exact ⟨rfl, below_size hb1 hb2⟩
  · exact nearest_in a b c w (by omega) (by omega) (by omega)
end Go.Proofs.Ytkbbnmcbekhioaa
