/-
  The small functions of package word: signs.
-/
import Derived.Test.YtmajdgmbcgkelaaDoorWordP
import Derived.Test.YtmajdgmbcgkelaaDoorShelf
import Derived.WalkMore
import Derived.BigCall
import Derived.Below
namespace Go.Proofs.YtmajdgmbcgkelaaDoor
open Go.RowKit
open Go.Lib (decodeL validD encodeRune)

/-- The tables of the library that package word's calls read. -/
structure Tabs (w : World) : Prop where
  u8 : Lib.Utf8Tabs 0 1 w
  z : w.cell? ⟨4, 15, none⟩ = some (.int .u8 4)

theorem Tabs.below {w w' : World} (h : Tabs w) (hb : Below w.heap.size w w') : Tabs w' := by
  have k : ∀ p v, w.cell? p = some v → w'.cell? p = some v := fun p v hc => (hb.cell (World.block_lt_of_cell? _ _ hc)).trans hc
  exact ⟨⟨fun c hc => k _ _ (h.u8.1 c hc), fun i hi => ⟨k _ _ (h.u8.2 i hi).1, k _ _ (h.u8.2 i hi).2⟩⟩, k _ _ h.z⟩

theorem hidden_any (c : Nat) (w : World) : Calls Tryd.prog 36 #[.int .i32 (c : Nat)] w fun e w' => e = .returned (.bool (hid c)) ∧ w' = w := by
  by_cases h1 : (c : Int) < 32
  · have e : hid c = true := by unfold hid; simp; omega
    rw [e]
    go_enter Tryd.func36, Tryd.ntmps36
    go_wp2
    go_ret
    exact ⟨rfl, rfl⟩
  · by_cases h2 : (127 : Int) ≤ c
    · by_cases h3 : (c : Int) ≤ 159
      · have e : hid c = true := by unfold hid; simp; omega
        rw [e]
        go_enter Tryd.func36, Tryd.ntmps36
        go_wp2
        go_ret
        exact ⟨rfl, rfl⟩
      · have e : hid c = false := by unfold hid; simp; omega
        rw [e]
        go_enter Tryd.func36, Tryd.ntmps36
        go_wp2
        go_ret
        exact ⟨rfl, rfl⟩
    · have e : hid c = false := by unfold hid; simp; omega
      rw [e]
      go_enter Tryd.func36, Tryd.ntmps36
      go_wp2
      go_ret
      exact ⟨rfl, rfl⟩

theorem escaped_any (c : Nat) (w : World) : Calls Tryd.prog 27 #[.int .i32 (c : Nat)] w fun e w' => e = .returned (.bool (escd c)) ∧ w' = w := by
  by_cases h1 : (c : Int) = 34
  · have e : escd c = true := by unfold escd; simp; omega
    rw [e]
    go_enter Tryd.func27, Tryd.ntmps27
    go_wp2
    go_ret
    exact ⟨rfl, rfl⟩
  · by_cases h2 : (c : Int) = 92
    · have e : escd c = true := by unfold escd; simp; omega
      rw [e]
      go_enter Tryd.func27, Tryd.ntmps27
      go_wp2
      go_ret
      exact ⟨rfl, rfl⟩
    · have e : escd c = hid c := by
        unfold escd
        rw [decide_eq_false (by omega), decide_eq_false (by omega), Bool.false_or, Bool.false_or]
      rw [e]
      go_enter Tryd.func27, Tryd.ntmps27
      go_wp2_with fail
      refine (hidden_any c w).mono ?_; rintro e w1 ⟨rfl, rfl⟩
      go_wp2
      go_ret
      exact ⟨ret_bool (by simp [h1, h2]), rfl⟩

set_option maxRecDepth 100000 in
set_option maxHeartbeats 1000000 in
theorem nameSign_any (c : Nat) (w : World) : Calls Tryd.prog 34 #[.int .i32 (c : Nat)] w fun e w' => e = .returned (.bool (letterP c)) ∧ w' = w := by
  by_cases h0 : (c : Int) ≤ 44
  · have k0 : (0 : Int) ≤ c := by omega
    have e : letterP c = false := by unfold letterP; simp; omega
    rw [e]
    clear e
    go_enter Tryd.func34, Tryd.ntmps34
    go_wp2
    go_ret
    exact ⟨ret_bool (by first | rfl | (simp; omega)), rfl⟩
  by_cases h45 : c = 45
  · subst h45
    have e : letterP 45 = true := by decide
    rw [e]
    clear e
    go_enter Tryd.func34, Tryd.ntmps34
    go_wp2
    go_ret
    exact ⟨ret_bool (by first | rfl | (simp; omega)), rfl⟩
  by_cases h46 : c = 46
  · subst h46
    have e : letterP 46 = true := by decide
    rw [e]
    clear e
    go_enter Tryd.func34, Tryd.ntmps34
    go_wp2
    go_ret
    exact ⟨ret_bool (by first | rfl | (simp; omega)), rfl⟩
  by_cases h47 : c = 47
  · subst h47
    have e : letterP 47 = true := by decide
    rw [e]
    clear e
    go_enter Tryd.func34, Tryd.ntmps34
    go_wp2
    go_ret
    exact ⟨ret_bool (by first | rfl | (simp; omega)), rfl⟩
  by_cases h48 : (c : Int) ≤ 57
  · have k0 : (48 : Int) ≤ c := by omega
    have e : letterP c = true := by unfold letterP; simp; omega
    rw [e]
    clear e
    go_enter Tryd.func34, Tryd.ntmps34
    go_wp2
    go_ret
    exact ⟨ret_bool (by first | rfl | (simp; omega)), rfl⟩
  by_cases h58 : (c : Int) ≤ 64
  · have k0 : (58 : Int) ≤ c := by omega
    have e : letterP c = false := by unfold letterP; simp; omega
    rw [e]
    clear e
    go_enter Tryd.func34, Tryd.ntmps34
    go_wp2
    go_ret
    exact ⟨ret_bool (by first | rfl | (simp; omega)), rfl⟩
  by_cases h65 : (c : Int) ≤ 90
  · have k0 : (65 : Int) ≤ c := by omega
    have e : letterP c = true := by unfold letterP; simp; omega
    rw [e]
    clear e
    go_enter Tryd.func34, Tryd.ntmps34
    go_wp2
    go_ret
    exact ⟨ret_bool (by first | rfl | (simp; omega)), rfl⟩
  by_cases h91 : (c : Int) ≤ 94
  · have k0 : (91 : Int) ≤ c := by omega
    have e : letterP c = false := by unfold letterP; simp; omega
    rw [e]
    clear e
    go_enter Tryd.func34, Tryd.ntmps34
    go_wp2
    go_ret
    exact ⟨ret_bool (by first | rfl | (simp; omega)), rfl⟩
  by_cases h95 : c = 95
  · subst h95
    have e : letterP 95 = true := by decide
    rw [e]
    clear e
    go_enter Tryd.func34, Tryd.ntmps34
    go_wp2
    go_ret
    exact ⟨ret_bool (by first | rfl | (simp; omega)), rfl⟩
  by_cases h96 : c = 96
  · subst h96
    have e : letterP 96 = false := by decide
    rw [e]
    clear e
    go_enter Tryd.func34, Tryd.ntmps34
    go_wp2
    go_ret
    exact ⟨ret_bool (by first | rfl | (simp; omega)), rfl⟩
  by_cases h97 : (c : Int) ≤ 122
  · have k0 : (97 : Int) ≤ c := by omega
    have e : letterP c = true := by unfold letterP; simp; omega
    rw [e]
    clear e
    go_enter Tryd.func34, Tryd.ntmps34
    go_wp2
    go_ret
    exact ⟨ret_bool (by first | rfl | (simp; omega)), rfl⟩
  by_cases h123 : (c : Int) ≤ 191
  · have k0 : (123 : Int) ≤ c := by omega
    have e : letterP c = false := by unfold letterP; simp; omega
    rw [e]
    clear e
    go_enter Tryd.func34, Tryd.ntmps34
    go_wp2
    go_ret
    exact ⟨ret_bool (by first | rfl | (simp; omega)), rfl⟩
  by_cases h192 : (c : Int) ≤ 214
  · have k0 : (192 : Int) ≤ c := by omega
    have e : letterP c = true := by unfold letterP; simp; omega
    rw [e]
    clear e
    go_enter Tryd.func34, Tryd.ntmps34
    go_wp2
    go_ret
    exact ⟨ret_bool (by first | rfl | (simp; omega)), rfl⟩
  by_cases h215 : c = 215
  · subst h215
    have e : letterP 215 = false := by decide
    rw [e]
    clear e
    go_enter Tryd.func34, Tryd.ntmps34
    go_wp2
    go_ret
    exact ⟨ret_bool (by first | rfl | (simp; omega)), rfl⟩
  by_cases h216 : (c : Int) ≤ 246
  · have k0 : (216 : Int) ≤ c := by omega
    have e : letterP c = true := by unfold letterP; simp; omega
    rw [e]
    clear e
    go_enter Tryd.func34, Tryd.ntmps34
    go_wp2
    go_ret
    exact ⟨ret_bool (by first | rfl | (simp; omega)), rfl⟩
  by_cases h247 : c = 247
  · subst h247
    have e : letterP 247 = false := by decide
    rw [e]
    clear e
    go_enter Tryd.func34, Tryd.ntmps34
    go_wp2
    go_ret
    exact ⟨ret_bool (by first | rfl | (simp; omega)), rfl⟩
  by_cases h248 : (c : Int) ≤ 591
  · have k0 : (248 : Int) ≤ c := by omega
    have e : letterP c = true := by unfold letterP; simp; omega
    rw [e]
    clear e
    go_enter Tryd.func34, Tryd.ntmps34
    go_wp2
    go_ret
    exact ⟨ret_bool (by first | rfl | (simp; omega)), rfl⟩
  by_cases h592 : (c : Int) ≤ 879
  · have k0 : (592 : Int) ≤ c := by omega
    have e : letterP c = false := by unfold letterP; simp; omega
    rw [e]
    clear e
    go_enter Tryd.func34, Tryd.ntmps34
    go_wp2
    go_ret
    exact ⟨ret_bool (by first | rfl | (simp; omega)), rfl⟩
  by_cases h880 : (c : Int) ≤ 1279
  · have k0 : (880 : Int) ≤ c := by omega
    have e : letterP c = true := by unfold letterP; simp; omega
    rw [e]
    clear e
    go_enter Tryd.func34, Tryd.ntmps34
    go_wp2
    go_ret
    exact ⟨ret_bool (by first | rfl | (simp; omega)), rfl⟩
  by_cases h1280 : (c : Int) ≤ 19967
  · have k0 : (1280 : Int) ≤ c := by omega
    have e : letterP c = false := by unfold letterP; simp; omega
    rw [e]
    clear e
    go_enter Tryd.func34, Tryd.ntmps34
    go_wp2
    go_ret
    exact ⟨ret_bool (by first | rfl | (simp; omega)), rfl⟩
  by_cases h19968 : (c : Int) ≤ 40959
  · have k0 : (19968 : Int) ≤ c := by omega
    have e : letterP c = true := by unfold letterP; simp; omega
    rw [e]
    clear e
    go_enter Tryd.func34, Tryd.ntmps34
    go_wp2
    go_ret
    exact ⟨ret_bool (by first | rfl | (simp; omega)), rfl⟩
  have k0 : (40960 : Int) ≤ c := by omega
  have e : letterP c = false := by unfold letterP; simp; omega
  rw [e]
  clear e
  go_enter Tryd.func34, Tryd.ntmps34
  go_wp2
  go_ret
  exact ⟨ret_bool (by first | rfl | (simp; omega)), rfl⟩
end Go.Proofs.YtmajdgmbcgkelaaDoor
