/-
  The walk of the statement WordNames.
-/
import Derived.Test.YtmajdgmbcgkelaaDoorWordFirst
import Derived.Test.YtmajdgmbcgkelaaDoorWordNamesP
namespace Go.Proofs.YtmajdgmbcgkelaaDoor
open Go.RowKit
open Go.Lib (decodeL validD encodeRune decodeL_width)

theorem app_list (s t : ByteArray) : (s ++ t).data.toList = s.data.toList ++ t.data.toList := by simp

set_option maxRecDepth 100000 in
set_option maxHeartbeats 2000000 in
theorem walk_WordNames (s : ByteArray) (w : World) (hT : Tabs w) (hs : s.size ≤ maxLen) :
    Calls Tryd.prog 7 #[.string s] w fun e w' => e = .returned (.bool true) ∧ Below w.heap.size w w' := by
  have hs63 : (s.size : Int) ≤ 9223372036854775807 := by unfold maxLen at hs; omega
  by_cases hbig : (5000 : Int) < s.size
  · clear hs
    go_enter Tryd.func7, Tryd.ntmps7
    go_wp2_with fail
    refine (first_any w hT).mono ?_; rintro e w1 ⟨rfl, hb1⟩
    go_wp2_with fail
    refine (first_any w1 (hT.below hb1)).mono ?_; rintro e w2 ⟨rfl, hb2⟩
    go_wp2_with fail
    go_ret
    exact ⟨rfl, below_size hb1 hb2⟩
  · have hs5 : s.size ≤ 5000 := by omega
    have cC := fun (w1 : World) (h : Tabs w1) => count_any s w1 (by omega) h
    have cN := fun (t : ByteArray) (b : Bool) (h : nameL t.data.toList = b) (w1 : World) => (h ▸ name_any t w1 : Calls Tryd.prog 17 #[.string t] w1 fun e w' => e = .returned (.bool b) ∧ Below w1.heap.size w1 w')
    have HS := Lib.hid hs5
    cases hn : nameL s.data.toList with
    | false =>
      have c0 := fun w1 => cN s false hn w1
      clear hs cN
      go_enter Tryd.func7, Tryd.ntmps7
      go_wp2_with fail
      refine (first_any w hT).mono ?_; rintro e w1 ⟨rfl, hb1⟩
      go_wp2_with fail
      refine (cC w1 (hT.below hb1)).mono ?_; rintro e w2 ⟨hc, hb2⟩
      have hb12 := below_size hb1 hb2
      rcases hc with ⟨_, rfl⟩ | ⟨_, rfl⟩
      · go_wp2_with fail
        refine (c0 w2).mono ?_; rintro e w3 ⟨rfl, hb3⟩
        have hb13 := below_size hb12 hb3
        go_wp2_with fail
        refine (first_any w3 (hT.below hb13)).mono ?_; rintro e w4 ⟨rfl, hb4⟩
        go_wp2_with fail
        go_ret
        exact ⟨rfl, below_size hb13 hb4⟩
      · go_wp2_with fail
        refine (c0 w2).mono ?_; rintro e w3 ⟨rfl, hb3⟩
        have hb13 := below_size hb12 hb3
        go_wp2_with fail
        refine (first_any w3 (hT.below hb13)).mono ?_; rintro e w4 ⟨rfl, hb4⟩
        go_wp2_with fail
        go_ret
        exact ⟨rfl, below_size hb13 hb4⟩
    | true =>
      obtain ⟨hv, h97, h32, h46, h47, h45, htx⟩ := names_law _ hn
      have c0 := fun w1 => cN s true hn w1
      have c32 := fun w1 => cN (s ++ ⟨#[32]⟩) false (by rw [app_list]; exact h32) w1
      have c46 := fun w1 => cN (s ++ ⟨#[46]⟩) false (by rw [app_list]; exact h46) w1
      have c47 := fun w1 => cN (s ++ ⟨#[47, 47, 97]⟩) false (by rw [app_list]; exact h47) w1
      have c45 := fun w1 => cN (⟨#[45]⟩ ++ s) false (by rw [app_list]; exact h45) w1
      have c97 := fun (h : (runes s.data.toList).length < 40) w1 => cN (s ++ ⟨#[97]⟩) true (by rw [app_list]; exact (h97 h).1) w1
      have d97 := fun (h : (runes s.data.toList).length < 40) w1 => cN (⟨#[97]⟩ ++ s) true (by rw [app_list]; exact (h97 h).2) w1
      have cT := fun (w1 : World) (h : Tabs w1) => (htx ▸ text_any s w1 (by omega) h : Calls Tryd.prog 19 #[.string s] w1 fun e w' => e = .returned (.bool true) ∧ Below w1.heap.size w1 w')
      have hsm : (s.size : Int) ≤ 5000 := by omega
      generalize (runes s.data.toList).length = m at *
      have HV := Lib.hid hv
      clear hs cN h97 h32 h46 h47 h45 htx hn hv
      by_cases hm : (40 : Int) ≤ m
      · clear c97 d97
        go_enter Tryd.func7, Tryd.ntmps7
        go_wp2_with fail
        refine (first_any w hT).mono ?_; rintro e w1 ⟨rfl, hb1⟩
        go_wp2_with fail
        refine (cC w1 (hT.below hb1)).mono ?_; rintro e w2 ⟨hc, hb2⟩
        have hb12 := below_size hb1 hb2
        rcases hc with ⟨_, rfl⟩ | ⟨hf, _⟩
        case inr => rw [HV.out] at hf; cases hf
        go_wp2_with fail
        refine (c0 w2).mono ?_; rintro e w3 ⟨rfl, hb3⟩
        have hb13 := below_size hb12 hb3
        go_wp2_with fail
        refine (first_any w3 (hT.below hb13)).mono ?_; rintro e w4 ⟨rfl, hb4⟩
        have hb14 := below_size hb13 hb4
        go_wp2_with fail
        refine (c32 w4).mono ?_; rintro e w5 ⟨rfl, hb5⟩
        go_wp2_with fail
        refine (c46 w5).mono ?_; rintro e w6 ⟨rfl, hb6⟩
        go_wp2_with fail
        refine (c47 w6).mono ?_; rintro e w7 ⟨rfl, hb7⟩
        go_wp2_with fail
        refine (c45 w7).mono ?_; rintro e w8 ⟨rfl, hb8⟩
        have hb18 := below_size hb14 (below_size hb5 (below_size hb6 (below_size hb7 hb8)))
        go_wp2_with fail
        refine (cT w8 (hT.below hb18)).mono ?_; rintro e w9 ⟨rfl, hb9⟩
        go_wp2_with fail
        go_ret
        exact ⟨rfl, below_size hb18 hb9⟩
      · have c97 := c97 (by omega)
        have d97 := d97 (by omega)
        go_enter Tryd.func7, Tryd.ntmps7
        go_wp2_with fail
        refine (first_any w hT).mono ?_; rintro e w1 ⟨rfl, hb1⟩
        go_wp2_with fail
        refine (cC w1 (hT.below hb1)).mono ?_; rintro e w2 ⟨hc, hb2⟩
        have hb12 := below_size hb1 hb2
        rcases hc with ⟨_, rfl⟩ | ⟨hf, _⟩
        case inr => rw [HV.out] at hf; cases hf
        go_wp2_with fail
        refine (c0 w2).mono ?_; rintro e w3 ⟨rfl, hb3⟩
        have hb13 := below_size hb12 hb3
        go_wp2_with fail
        refine (first_any w3 (hT.below hb13)).mono ?_; rintro e w4 ⟨rfl, hb4⟩
        have hb14 := below_size hb13 hb4
        go_wp2_with fail
        refine (c97 w4).mono ?_; rintro e w5 ⟨rfl, hb5⟩
        go_wp2_with fail
        refine (d97 w5).mono ?_; rintro e w6 ⟨rfl, hb6⟩
        have hb16 := below_size hb14 (below_size hb5 hb6)
        go_wp2_with fail
        refine (c32 w6).mono ?_; rintro e w7 ⟨rfl, hb7⟩
        go_wp2_with fail
        refine (c46 w7).mono ?_; rintro e w8 ⟨rfl, hb8⟩
        go_wp2_with fail
        refine (c47 w8).mono ?_; rintro e w9 ⟨rfl, hb9⟩
        go_wp2_with fail
        refine (c45 w9).mono ?_; rintro e w10 ⟨rfl, hb10⟩
        have hb18 := below_size hb16 (below_size hb7 (below_size hb8 (below_size hb9 hb10)))
        go_wp2_with fail
        refine (cT w10 (hT.below hb18)).mono ?_; rintro e w11 ⟨rfl, hb11⟩
        go_wp2_with fail
        go_ret
        exact ⟨rfl, below_size hb18 hb11⟩
end Go.Proofs.YtmajdgmbcgkelaaDoor
