/-
  The reference's letter.
-/
import Derived.Test.YtmajdgmbcgkelaaDoorWordRa
namespace Go.Proofs.YtmajdgmbcgkelaaDoor
open Go.RowKit

set_option maxRecDepth 100000 in
set_option maxHeartbeats 20000000 in
theorem rletter_any (c : Nat) (w : World) : Calls Tryd.prog 35 #[.int .i64 (c : Nat)] w fun e w' => e = .returned (.bool (letterP c)) ∧ w' = w := by
  by_cases h0 : (c : Int) ≤ 44
  · have k0 : (0 : Int) ≤ c := by omega
    have e : letterP c = false := by unfold letterP; simp; omega
    rw [e]
    clear e
    have n45 : ((c : Int) == 45) = false := by simp; omega
    have n95 : ((c : Int) == 95) = false := by simp; omega
    have n46 : ((c : Int) == 46) = false := by simp; omega
    have n47 : ((c : Int) == 47) = false := by simp; omega
    have n215 : ((c : Int) != 215) = true := by simp; omega
    have n247 : ((c : Int) != 247) = true := by simp; omega
    go_enter Tryd.func35, Tryd.ntmps35
    go_wp2
    all_goals go_ret
    all_goals exact ⟨ret_bool (by first | rfl | (simp; omega)), rfl⟩
  by_cases h45 : c = 45
  · subst h45
    have e : letterP 45 = true := by decide
    rw [e]
    clear e
    go_enter Tryd.func35, Tryd.ntmps35
    go_wp2
    all_goals go_ret
    all_goals exact ⟨ret_bool (by first | rfl | (simp; omega)), rfl⟩
  by_cases h46 : c = 46
  · subst h46
    have e : letterP 46 = true := by decide
    rw [e]
    clear e
    go_enter Tryd.func35, Tryd.ntmps35
    go_wp2
    all_goals go_ret
    all_goals exact ⟨ret_bool (by first | rfl | (simp; omega)), rfl⟩
  by_cases h47 : c = 47
  · subst h47
    have e : letterP 47 = true := by decide
    rw [e]
    clear e
    go_enter Tryd.func35, Tryd.ntmps35
    go_wp2
    all_goals go_ret
    all_goals exact ⟨ret_bool (by first | rfl | (simp; omega)), rfl⟩
  by_cases h48 : (c : Int) ≤ 57
  · have k0 : (48 : Int) ≤ c := by omega
    have e : letterP c = true := by unfold letterP; simp; omega
    rw [e]
    clear e
    have n45 : ((c : Int) == 45) = false := by simp; omega
    have n95 : ((c : Int) == 95) = false := by simp; omega
    have n46 : ((c : Int) == 46) = false := by simp; omega
    have n47 : ((c : Int) == 47) = false := by simp; omega
    have n215 : ((c : Int) != 215) = true := by simp; omega
    have n247 : ((c : Int) != 247) = true := by simp; omega
    go_enter Tryd.func35, Tryd.ntmps35
    go_wp2
    all_goals go_ret
    all_goals exact ⟨ret_bool (by first | rfl | (simp; omega)), rfl⟩
  by_cases h58 : (c : Int) ≤ 64
  · have k0 : (58 : Int) ≤ c := by omega
    have e : letterP c = false := by unfold letterP; simp; omega
    rw [e]
    clear e
    have n45 : ((c : Int) == 45) = false := by simp; omega
    have n95 : ((c : Int) == 95) = false := by simp; omega
    have n46 : ((c : Int) == 46) = false := by simp; omega
    have n47 : ((c : Int) == 47) = false := by simp; omega
    have n215 : ((c : Int) != 215) = true := by simp; omega
    have n247 : ((c : Int) != 247) = true := by simp; omega
    go_enter Tryd.func35, Tryd.ntmps35
    go_wp2
    all_goals go_ret
    all_goals exact ⟨ret_bool (by first | rfl | (simp; omega)), rfl⟩
  by_cases h65 : (c : Int) ≤ 90
  · have k0 : (65 : Int) ≤ c := by omega
    have e : letterP c = true := by unfold letterP; simp; omega
    rw [e]
    clear e
    have n45 : ((c : Int) == 45) = false := by simp; omega
    have n95 : ((c : Int) == 95) = false := by simp; omega
    have n46 : ((c : Int) == 46) = false := by simp; omega
    have n47 : ((c : Int) == 47) = false := by simp; omega
    have n215 : ((c : Int) != 215) = true := by simp; omega
    have n247 : ((c : Int) != 247) = true := by simp; omega
    go_enter Tryd.func35, Tryd.ntmps35
    go_wp2
    all_goals go_ret
    all_goals exact ⟨ret_bool (by first | rfl | (simp; omega)), rfl⟩
  by_cases h91 : (c : Int) ≤ 94
  · have k0 : (91 : Int) ≤ c := by omega
    have e : letterP c = false := by unfold letterP; simp; omega
    rw [e]
    clear e
    have n45 : ((c : Int) == 45) = false := by simp; omega
    have n95 : ((c : Int) == 95) = false := by simp; omega
    have n46 : ((c : Int) == 46) = false := by simp; omega
    have n47 : ((c : Int) == 47) = false := by simp; omega
    have n215 : ((c : Int) != 215) = true := by simp; omega
    have n247 : ((c : Int) != 247) = true := by simp; omega
    go_enter Tryd.func35, Tryd.ntmps35
    go_wp2
    all_goals go_ret
    all_goals exact ⟨ret_bool (by first | rfl | (simp; omega)), rfl⟩
  by_cases h95 : c = 95
  · subst h95
    have e : letterP 95 = true := by decide
    rw [e]
    clear e
    go_enter Tryd.func35, Tryd.ntmps35
    go_wp2
    all_goals go_ret
    all_goals exact ⟨ret_bool (by first | rfl | (simp; omega)), rfl⟩
  by_cases h96 : c = 96
  · subst h96
    have e : letterP 96 = false := by decide
    rw [e]
    clear e
    go_enter Tryd.func35, Tryd.ntmps35
    go_wp2
    all_goals go_ret
    all_goals exact ⟨ret_bool (by first | rfl | (simp; omega)), rfl⟩
  by_cases h97 : (c : Int) ≤ 122
  · have k0 : (97 : Int) ≤ c := by omega
    have e : letterP c = true := by unfold letterP; simp; omega
    rw [e]
    clear e
    have n45 : ((c : Int) == 45) = false := by simp; omega
    have n95 : ((c : Int) == 95) = false := by simp; omega
    have n46 : ((c : Int) == 46) = false := by simp; omega
    have n47 : ((c : Int) == 47) = false := by simp; omega
    have n215 : ((c : Int) != 215) = true := by simp; omega
    have n247 : ((c : Int) != 247) = true := by simp; omega
    go_enter Tryd.func35, Tryd.ntmps35
    go_wp2
    all_goals go_ret
    all_goals exact ⟨ret_bool (by first | rfl | (simp; omega)), rfl⟩
  by_cases h123 : (c : Int) ≤ 191
  · have k0 : (123 : Int) ≤ c := by omega
    have e : letterP c = false := by unfold letterP; simp; omega
    rw [e]
    clear e
    have n45 : ((c : Int) == 45) = false := by simp; omega
    have n95 : ((c : Int) == 95) = false := by simp; omega
    have n46 : ((c : Int) == 46) = false := by simp; omega
    have n47 : ((c : Int) == 47) = false := by simp; omega
    have n215 : ((c : Int) != 215) = true := by simp; omega
    have n247 : ((c : Int) != 247) = true := by simp; omega
    go_enter Tryd.func35, Tryd.ntmps35
    go_wp2
    all_goals go_ret
    all_goals exact ⟨ret_bool (by first | rfl | (simp; omega)), rfl⟩
  by_cases h192 : (c : Int) ≤ 214
  · have k0 : (192 : Int) ≤ c := by omega
    have e : letterP c = true := by unfold letterP; simp; omega
    rw [e]
    clear e
    have n45 : ((c : Int) == 45) = false := by simp; omega
    have n95 : ((c : Int) == 95) = false := by simp; omega
    have n46 : ((c : Int) == 46) = false := by simp; omega
    have n47 : ((c : Int) == 47) = false := by simp; omega
    have n215 : ((c : Int) != 215) = true := by simp; omega
    have n247 : ((c : Int) != 247) = true := by simp; omega
    go_enter Tryd.func35, Tryd.ntmps35
    go_wp2
    all_goals go_ret
    all_goals exact ⟨ret_bool (by first | rfl | (simp; omega)), rfl⟩
  by_cases h215 : c = 215
  · subst h215
    have e : letterP 215 = false := by decide
    rw [e]
    clear e
    go_enter Tryd.func35, Tryd.ntmps35
    go_wp2
    all_goals go_ret
    all_goals exact ⟨ret_bool (by first | rfl | (simp; omega)), rfl⟩
  by_cases h216 : (c : Int) ≤ 246
  · have k0 : (216 : Int) ≤ c := by omega
    have e : letterP c = true := by unfold letterP; simp; omega
    rw [e]
    clear e
    have n45 : ((c : Int) == 45) = false := by simp; omega
    have n95 : ((c : Int) == 95) = false := by simp; omega
    have n46 : ((c : Int) == 46) = false := by simp; omega
    have n47 : ((c : Int) == 47) = false := by simp; omega
    have n215 : ((c : Int) != 215) = true := by simp; omega
    have n247 : ((c : Int) != 247) = true := by simp; omega
    go_enter Tryd.func35, Tryd.ntmps35
    go_wp2
    all_goals go_ret
    all_goals exact ⟨ret_bool (by first | rfl | (simp; omega)), rfl⟩
  by_cases h247 : c = 247
  · subst h247
    have e : letterP 247 = false := by decide
    rw [e]
    clear e
    go_enter Tryd.func35, Tryd.ntmps35
    go_wp2
    all_goals go_ret
    all_goals exact ⟨ret_bool (by first | rfl | (simp; omega)), rfl⟩
  by_cases h248 : (c : Int) ≤ 591
  · have k0 : (248 : Int) ≤ c := by omega
    have e : letterP c = true := by unfold letterP; simp; omega
    rw [e]
    clear e
    have n45 : ((c : Int) == 45) = false := by simp; omega
    have n95 : ((c : Int) == 95) = false := by simp; omega
    have n46 : ((c : Int) == 46) = false := by simp; omega
    have n47 : ((c : Int) == 47) = false := by simp; omega
    have n215 : ((c : Int) != 215) = true := by simp; omega
    have n247 : ((c : Int) != 247) = true := by simp; omega
    go_enter Tryd.func35, Tryd.ntmps35
    go_wp2
    all_goals go_ret
    all_goals exact ⟨ret_bool (by first | rfl | (simp; omega)), rfl⟩
  by_cases h592 : (c : Int) ≤ 879
  · have k0 : (592 : Int) ≤ c := by omega
    have e : letterP c = false := by unfold letterP; simp; omega
    rw [e]
    clear e
    have n45 : ((c : Int) == 45) = false := by simp; omega
    have n95 : ((c : Int) == 95) = false := by simp; omega
    have n46 : ((c : Int) == 46) = false := by simp; omega
    have n47 : ((c : Int) == 47) = false := by simp; omega
    have n215 : ((c : Int) != 215) = true := by simp; omega
    have n247 : ((c : Int) != 247) = true := by simp; omega
    go_enter Tryd.func35, Tryd.ntmps35
    go_wp2
    all_goals go_ret
    all_goals exact ⟨ret_bool (by first | rfl | (simp; omega)), rfl⟩
  by_cases h880 : (c : Int) ≤ 1279
  · have k0 : (880 : Int) ≤ c := by omega
    have e : letterP c = true := by unfold letterP; simp; omega
    rw [e]
    clear e
    have n45 : ((c : Int) == 45) = false := by simp; omega
    have n95 : ((c : Int) == 95) = false := by simp; omega
    have n46 : ((c : Int) == 46) = false := by simp; omega
    have n47 : ((c : Int) == 47) = false := by simp; omega
    have n215 : ((c : Int) != 215) = true := by simp; omega
    have n247 : ((c : Int) != 247) = true := by simp; omega
    go_enter Tryd.func35, Tryd.ntmps35
    go_wp2
    all_goals go_ret
    all_goals exact ⟨ret_bool (by first | rfl | (simp; omega)), rfl⟩
  by_cases h1280 : (c : Int) ≤ 19967
  · have k0 : (1280 : Int) ≤ c := by omega
    have e : letterP c = false := by unfold letterP; simp; omega
    rw [e]
    clear e
    have n45 : ((c : Int) == 45) = false := by simp; omega
    have n95 : ((c : Int) == 95) = false := by simp; omega
    have n46 : ((c : Int) == 46) = false := by simp; omega
    have n47 : ((c : Int) == 47) = false := by simp; omega
    have n215 : ((c : Int) != 215) = true := by simp; omega
    have n247 : ((c : Int) != 247) = true := by simp; omega
    go_enter Tryd.func35, Tryd.ntmps35
    go_wp2
    all_goals go_ret
    all_goals exact ⟨ret_bool (by first | rfl | (simp; omega)), rfl⟩
  by_cases h19968 : (c : Int) ≤ 40959
  · have k0 : (19968 : Int) ≤ c := by omega
    have e : letterP c = true := by unfold letterP; simp; omega
    rw [e]
    clear e
    have n45 : ((c : Int) == 45) = false := by simp; omega
    have n95 : ((c : Int) == 95) = false := by simp; omega
    have n46 : ((c : Int) == 46) = false := by simp; omega
    have n47 : ((c : Int) == 47) = false := by simp; omega
    have n215 : ((c : Int) != 215) = true := by simp; omega
    have n247 : ((c : Int) != 247) = true := by simp; omega
    go_enter Tryd.func35, Tryd.ntmps35
    go_wp2
    all_goals go_ret
    all_goals exact ⟨ret_bool (by first | rfl | (simp; omega)), rfl⟩
  have k0 : (40960 : Int) ≤ c := by omega
  have e : letterP c = false := by unfold letterP; simp; omega
  rw [e]
  clear e
  have n45 : ((c : Int) == 45) = false := by simp; omega
  have n95 : ((c : Int) == 95) = false := by simp; omega
  have n46 : ((c : Int) == 46) = false := by simp; omega
  have n47 : ((c : Int) == 47) = false := by simp; omega
  have n215 : ((c : Int) != 215) = true := by simp; omega
  have n247 : ((c : Int) != 247) = true := by simp; omega
  go_enter Tryd.func35, Tryd.ntmps35
  go_wp2
  all_goals go_ret
  all_goals exact ⟨ret_bool (by first | rfl | (simp; omega)), rfl⟩
end Go.Proofs.YtmajdgmbcgkelaaDoor
