/-
  The walk of the statement WordTexts.
-/
import Derived.Test.YtmajdgmbcgkelaaDoorWordFirst
import Derived.Test.YtmajdgmbcgkelaaDoorWordRm
import Derived.Test.YtmajdgmbcgkelaaDoorWordRz
namespace Go.Proofs.YtmajdgmbcgkelaaDoor
open Go.RowKit
open Go.Lib (decodeL validD encodeRune decodeL_width)

set_option maxRecDepth 100000 in
theorem texts_big (s : ByteArray) (n : Int) (w : World) (hT : Tabs w) (hs63 : (s.size : Int) ≤ 9223372036854775807) (h1 : (5000 : Int) < s.size) :
    Calls Tryd.prog 3 #[.string s, .int .i64 n] w fun e w' => e = .returned (.bool true) ∧ Below w.heap.size w w' := by
  go_enter Tryd.func3, Tryd.ntmps3
  go_wp2_with fail
  refine (first_any w hT).mono ?_; rintro e w1 ⟨rfl, hb1⟩
  go_wp2_with fail
  refine (first_any w1 (hT.below hb1)).mono ?_; rintro e w2 ⟨rfl, hb2⟩
  go_wp2_with fail
  go_ret
  exact ⟨rfl, below_size hb1 hb2⟩

set_option maxRecDepth 100000 in
set_option maxHeartbeats 4000000 in
theorem texts_go (s : ByteArray) (n : Int) (w : World) (hT : Tabs w) (h1 : ¬ (5000 : Int) < s.size) (hs63 : (s.size : Int) ≤ 9223372036854775807) (m ec : Int) (C Q : ByteArray) (NB TB : Bool)
    (c1 : ∀ w : World, Tabs w → Calls Tryd.prog 11 #[.string s] w fun e w' => e = .returned (.tuple #[.int .i64 m, .int .i64 ec]) ∧ Below w.heap.size w w')
    (c2 : ∀ w : World, Calls Tryd.prog 12 #[.string s] w fun e w' => e = .returned (.tuple #[.int .i64 m, .int .i64 ec]) ∧ Below w.heap.size w w')
    (c3 : ∀ w : World, Tabs w → Calls Tryd.prog 13 #[.string s] w fun e w' => e = .returned (.tuple #[.string Q, .int .i64 ec]) ∧ Below w.heap.size w w')
    (c4 : ∀ w : World, Calls Tryd.prog 14 #[.string s] w fun e w' => e = .returned (.tuple #[.string Q, .int .i64 ec]) ∧ Below w.heap.size w w')
    (c5 : ∀ w : World, Tabs w → Calls Tryd.prog 15 #[.string s, .int .i64 n] w fun e w' => e = .returned (.string C) ∧ Below w.heap.size w w')
    (c6 : ∀ w : World, Calls Tryd.prog 16 #[.string s, .int .i64 n] w fun e w' => e = .returned (.string C) ∧ Below w.heap.size w w')
    (c7 : ∀ w : World, Calls Tryd.prog 17 #[.string s] w fun e w' => e = .returned (.bool NB) ∧ Below w.heap.size w w')
    (c8 : ∀ w : World, Calls Tryd.prog 18 #[.string s] w fun e w' => e = .returned (.bool NB) ∧ Below w.heap.size w w')
    (c9 : ∀ w : World, Tabs w → Calls Tryd.prog 19 #[.string s] w fun e w' => e = .returned (.bool TB) ∧ Below w.heap.size w w')
    (c10 : ∀ w : World, Calls Tryd.prog 20 #[.string s] w fun e w' => e = .returned (.bool TB) ∧ Below w.heap.size w w') :
    Calls Tryd.prog 3 #[.string s, .int .i64 n] w fun e w' => e = .returned (.bool true) ∧ Below w.heap.size w w' := by
  have r1 := str_eq C
  have r2 := str_eq Q
  go_enter Tryd.func3, Tryd.ntmps3
  go_wp2_with fail
  refine (first_any w hT).mono ?_; rintro e w1 ⟨rfl, hb1⟩
  go_wp2_with fail
  refine (c1 w1 (hT.below hb1)).mono ?_; rintro e w2 ⟨rfl, hb2⟩
  have hb2 := below_size hb1 hb2
  go_wp2_with fail
  refine (c2 w2).mono ?_; rintro e w3 ⟨rfl, hb3⟩
  have hb3 := below_size hb2 hb3
  go_wp2_with fail
  refine (c3 w3 (hT.below hb3)).mono ?_; rintro e w4 ⟨rfl, hb4⟩
  have hb4 := below_size hb3 hb4
  go_wp2_with fail
  refine (c4 w4).mono ?_; rintro e w5 ⟨rfl, hb5⟩
  have hb5 := below_size hb4 hb5
  go_wp2_with fail
  refine (first_any w5 (hT.below hb5)).mono ?_; rintro e w6 ⟨rfl, hb6⟩
  have hb6 := below_size hb5 hb6
  go_wp2_with fail
  refine (c5 w6 (hT.below hb6)).mono ?_; rintro e w7 ⟨rfl, hb7⟩
  have hb7 := below_size hb6 hb7
  go_wp2_with fail
  refine (c6 w7).mono ?_; rintro e w8 ⟨rfl, hb8⟩
  have hb8 := below_size hb7 hb8
  go_wp2_with fail
  refine (c7 w8).mono ?_; rintro e w9 ⟨rfl, hb9⟩
  have hb9 := below_size hb8 hb9
  go_wp2_with fail
  refine (c8 w9).mono ?_; rintro e w10 ⟨rfl, hb10⟩
  have hb10 := below_size hb9 hb10
  go_wp2_with fail
  refine (c9 w10 (hT.below hb10)).mono ?_; rintro e w11 ⟨rfl, hb11⟩
  have hb11 := below_size hb10 hb11
  go_wp2_with fail
  refine (c10 w11).mono ?_; rintro e w12 ⟨rfl, hb12⟩
  have hb12 := below_size hb11 hb12
  go_wp2_with fail
  go_ret
  exact ⟨rfl, hb12⟩

theorem walk_WordTexts (s : ByteArray) (n : Int) (w : World) (hT : Tabs w) (hs : s.size ≤ maxLen) (hn : -9223372036854775808 ≤ n ∧ n ≤ 9223372036854775807) :
    Calls Tryd.prog 3 #[.string s, .int .i64 n] w fun e w' => e = .returned (.bool true) ∧ Below w.heap.size w w' := by
  have hs63 : (s.size : Int) ≤ 9223372036854775807 := by unfold maxLen at hs; omega
  by_cases h : (5000 : Int) < s.size
  · exact texts_big s n w hT hs63 h
  · have h5 : s.size ≤ 5000 := by omega
    have c1 := fun (w1 : World) (h : Tabs w1) => count_any s w1 (by omega) h
    have c2 := fun (w1 : World) => rcount_any s w1 h5
    have c3 := fun (w1 : World) (h : Tabs w1) => quote_any s w1 (by omega) h
    have c4 := fun (w1 : World) => rquote_any s w1 h5
    have c5 := fun (w1 : World) (h : Tabs w1) => clip_any s n w1 (by omega) hn.1 hn.2 h
    have c6 := fun (w1 : World) => rclip_any s n w1 h5 hn.1 hn.2
    have c7 := fun (w1 : World) => name_any s w1
    have c8 := fun (w1 : World) => rname_any s w1 h5
    have c9 := fun (w1 : World) (h : Tabs w1) => text_any s w1 (by omega) h
    have c10 := fun (w1 : World) => rtext_any s w1 h5
    cases hv : validD s.data.toList with
    | true =>
      simp only [hv, Bool.true_eq_false, false_and, or_false, true_and] at c1 c2 c3 c4 c5 c6
      exact texts_go s n w hT h hs63 _ _ _ _ _ _ c1 c2 c3 c4 c5 c6 c7 c8 c9 c10
    | false =>
      simp only [hv, Bool.false_eq_true, false_and, false_or, true_and] at c1 c2 c3 c4 c5 c6
      exact texts_go s n w hT h hs63 _ _ _ _ _ _ c1 c2 c3 c4 c5 c6 c7 c8 c9 c10
end Go.Proofs.YtmajdgmbcgkelaaDoor
