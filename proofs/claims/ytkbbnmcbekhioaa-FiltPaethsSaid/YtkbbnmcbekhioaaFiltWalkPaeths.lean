/-
  The walks of the statements FiltPaeths.
-/
import Derived.Test.YtkbbnmcbekhioaaFiltFirst
namespace Go.Proofs.Ytkbbnmcbekhioaa
open Go.RowKit

set_option maxRecDepth 100000 in
set_option maxHeartbeats 1000000 in
theorem walk_FiltPaeths (a b c : Int) (w : World) (h0 : -9223372036854775808 ≤ a ∧ a ≤ 9223372036854775807) (h1 : -9223372036854775808 ≤ b ∧ b ≤ 9223372036854775807) (h2 : -9223372036854775808 ≤ c ∧ c ≤ 9223372036854775807) :
    Calls Try.prog 4 #[.int .i64 a, .int .i64 b, .int .i64 c] w fun e w' => e = .returned (.bool true) ∧ Below w.heap.size w w' := by
  by_cases hc : a < 0 ∨ 255 < a ∨ b < 0 ∨ 255 < b ∨ c < 0 ∨ 255 < c
  · go_enter Try.func4, Try.ntmps4
    go_wp2_with fail
    refine (first_any w).mono ?_; rintro e w1 ⟨rfl, hb1⟩
    go_wp2_with (go_at_call 8; refine (first_any _).mono ?_; rintro e w' ⟨rfl, hb2⟩)
    all_goals go_ret
    all_goals exact ⟨rfl, below_size hb1 hb2⟩
  · have k1 := pae_one a b c
    have hp : ((pae a b c == a) || (pae a b c == b) || (pae a b c == c)) = true := by simp; omega
    have ha : ¬ a < 0 := by omega
    have ha' : ¬ 255 < a := by omega
    have hb : ¬ b < 0 := by omega
    have hb' : ¬ 255 < b := by omega
    have hc1 : ¬ c < 0 := by omega
    have hc' : ¬ 255 < c := by omega
    clear hc k1
    go_enter Try.func4, Try.ntmps4
    go_wp2_with fail
    refine (first_any w).mono ?_; rintro e w1 ⟨rfl, hb1⟩
    go_wp2_with fail
    refine (paeth_any a b c w1 (by omega) (by omega) (by omega)).mono ?_; rintro e w2 ⟨rfl, rfl⟩
    go_wp2_with fail
    refine (first_any w2).mono ?_; rintro e w3 ⟨rfl, hb3⟩
    go_wp2_with fail
    refine (rpaeth_any a b c w3 (by omega) (by omega) (by omega)).mono ?_; rintro e w4 ⟨rfl, rfl⟩
    have hb4 := below_size hb1 hb3
    go_wp2_with fail
    all_goals go_ret
    all_goals refine ⟨?_, hb4⟩
    all_goals go_tidy
    all_goals first | rfl | exact ret_bool (by simp_all)

end Go.Proofs.Ytkbbnmcbekhioaa
