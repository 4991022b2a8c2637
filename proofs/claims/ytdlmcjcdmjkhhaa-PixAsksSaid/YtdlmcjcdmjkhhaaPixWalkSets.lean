/-
  The walk of PixSets.
-/
import Derived.Test.YtdlmcjcdmjkhhaaPixFirst
import Derived.Test.YtdlmcjcdmjkhhaaPixSetPure
namespace Go.Proofs.Ytdlmcjcdmjkhhaa
open Go.RowKit

set_option maxRecDepth 100000 in
set_option maxHeartbeats 2000000 in
theorem sets_few (W H C D : Int) (a : Option Addr) (n cap : Nat) (x y c v i j k : Int) (w : World) (h : ¬ n ≤ 20000) :
    Calls Try.prog 6 #[ras W H C D a n cap, .int .i64 x, .int .i64 y, .int .i64 c, .int .i64 v, .int .i64 i, .int .i64 j, .int .i64 k] w fun e w' => e = .returned (.bool true) ∧ Below w.heap.size w w' := by
  have hF := fun w' => few_any W H C D a n cap w'
  simp only [h, decide_false] at hF
  go_enter Try.func6, Try.ntmps6
  go_wp2_with fail
  refine (first_any _).mono ?_; rintro e w1 ⟨rfl, hb1⟩
  have hb1' := below_size ((Below.refl _ _).alloc (Nat.le_refl _) _) hb1
  have hbx := (rbox_alloc w W H C D a n cap _).below hb1
  have c0 := hbx.box.c0; have c1 := hbx.box.c1; have c2 := hbx.box.c2; have c3 := hbx.box.c3; have c4 := hbx.c4
  clear hb1
  go_wp2_with fail
  refine (hF _).mono ?_; rintro e w2 ⟨rfl, hb2⟩
  have hb2' := below_size hb1' hb2
  go_wp2_with fail
  refine (first_any _).mono ?_; rintro e w4 ⟨rfl, hb4⟩
  have hb4' := below_size hb2' hb4
  go_wp2
  go_ret
  exact ⟨rfl, hb4'⟩

set_option maxRecDepth 100000 in
set_option maxHeartbeats 2000000 in
theorem sets_not (W H C D : Int) (a : Option Addr) (n cap : Nat) (x y c v i j k : Int) (w : World) (hH : -9223372036854775808 ≤ H ∧ H ≤ 9223372036854775807) (hv : -9223372036854775808 ≤ v ∧ v ≤ 9223372036854775807) (h : n ≤ 20000) (he : setErr W H C D n x y c v ≠ 0) :
    Calls Try.prog 6 #[ras W H C D a n cap, .int .i64 x, .int .i64 y, .int .i64 c, .int .i64 v, .int .i64 i, .int .i64 j, .int .i64 k] w fun e w' => e = .returned (.bool true) ∧ Below w.heap.size w w' := by
  have hF := fun w' => few_any W H C D a n cap w'
  simp only [h, decide_true] at hF
  have HS := Lib.hid (fun w' => set_not W H C D a n cap x y c v w' hH hv he)
  have he' : (setErr W H C D n x y c v != 0) = true := by simpa using he
  generalize setErr W H C D n x y c v = E at *
  clear he
  go_enter Try.func6, Try.ntmps6
  go_wp2_with fail
  refine (first_any _).mono ?_; rintro e w1 ⟨rfl, hb1⟩
  have hb1' := below_size ((Below.refl _ _).alloc (Nat.le_refl _) _) hb1
  have hbx := (rbox_alloc w W H C D a n cap _).below hb1
  have c0 := hbx.box.c0; have c1 := hbx.box.c1; have c2 := hbx.box.c2; have c3 := hbx.box.c3; have c4 := hbx.c4
  clear hb1
  go_wp2_with fail
  refine (hF _).mono ?_; rintro e w2 ⟨rfl, hb2⟩
  have hb2' := below_size hb1' hb2
  have hbx2 := hbx.below hb2
  clear c0 c1 c2 c3 c4
  have c0 := hbx2.box.c0; have c1 := hbx2.box.c1; have c2 := hbx2.box.c2; have c3 := hbx2.box.c3; have c4 := hbx2.c4
  clear hb2 hbx
  go_wp2_with fail
  refine (HS.out _).mono ?_; rintro e w3 ⟨rfl, hb3⟩
  have hb3' := below_size hb2' hb3
  clear c0 c1 c2 c3 c4
  clear hb3 hbx2
  go_wp2_with fail
  refine (first_any _).mono ?_; rintro e w4 ⟨rfl, hb4⟩
  have hby := (rbox_alloc w3 0 0 0 0 Option.none 0 0 _).below hb4
  have hb4' := below_size (hb3'.alloc hb3'.size _) hb4
  have c0 := hby.box.c0; have c1 := hby.box.c1; have c2 := hby.box.c2; have c3 := hby.box.c3; have c4 := hby.c4
  clear hb4
  go_wp2_with fail
  go_ret
  exact ⟨rfl, hb4'⟩

theorem setErr_zero {W H C D : Int} {n : Nat} {x y c v : Int} (h : setErr W H C D n x y c v = 0) : mayR W H C D n = true ∧ InR W H C x y c ∧ fit v (D / 8) = true := by
  unfold setErr at h
  by_cases h1 : mayR W H C D n = true
  · rw [if_pos h1] at h
    by_cases h2 : InR W H C x y c
    · rw [if_pos h2] at h
      by_cases h3 : fit v (D / 8) = true
      · exact ⟨h1, h2, h3⟩
      · rw [if_neg h3] at h; simp at h
    · rw [if_neg h2] at h; simp at h
  · rw [if_neg h1] at h; simp at h

set_option maxRecDepth 100000 in
set_option maxHeartbeats 4000000 in
theorem sets_yes (W H C D : Int) (a : Option Addr) (n cap : Nat) (xs : List Int) (x y c v i j k : Int) (w : World) (hr : Reads .u8 w a n cap xs) (hb : isB xs) (hH : -9223372036854775808 ≤ H ∧ H ≤ 9223372036854775807) (hv : -9223372036854775808 ≤ v ∧ v ≤ 9223372036854775807) (h : n ≤ 20000) (he : setErr W H C D n x y c v = 0) :
    Calls Try.prog 6 #[ras W H C D a n cap, .int .i64 x, .int .i64 y, .int .i64 c, .int .i64 v, .int .i64 i, .int .i64 j, .int .i64 k] w fun e w' => e = .returned (.bool true) ∧ Below w.heap.size w w' := by
  have hF := fun w' => few_any W H C D a n cap w'
  simp only [h, decide_true] at hF
  obtain ⟨hm, hi, hf⟩ := setErr_zero he
  have hS := fun w' hr' => set_yes W H C D a n cap xs x y c v w' hr' hv hm hi hf
  have hSb := setList_isB W H C D xs x y c v hb
  have a1 : atVal W H C D n (setList W H C D xs x y c v) x y c = v := by
    rw [atVal, if_pos (atErr_zero.2 ⟨hm, hi⟩), at_set_same W H C D xs x y c v n hr.len hm hi hf]
  have a2 : atErr W H C D n x y c = 0 := atErr_zero.2 ⟨hm, hi⟩
  have a3 : ¬ (i = x ∧ j = y ∧ k = c) → atVal W H C D n (setList W H C D xs x y c v) i j k = atVal W H C D n xs i j k := by
    intro hne
    unfold atVal
    by_cases h0 : atErr W H C D n i j k = 0
    · rw [if_pos h0, if_pos h0, at_set_other W H C D xs x y c v i j k n hr.len hm hi (atErr_zero.1 h0).2 hne]
    · rw [if_neg h0, if_neg h0]
  have t1 := fun a n cap w' hr' => at_any W H C D a n cap (setList W H C D xs x y c v) x y c w' hr' hSb hH
  have t2 := fun a n cap w' hr' => at_any W H C D a n cap (setList W H C D xs x y c v) i j k w' hr' hSb hH
  have t3 := fun a n cap w' hr' => at_any W H C D a n cap xs i j k w' hr' hb hH
  have T1 := Lib.hid (fun (a : Option Addr) (cap : Nat) (w' : World) hr' => t1 a n cap w' hr')
  have T2 := Lib.hid (fun (a : Option Addr) (cap : Nat) (w' : World) hr' => t2 a n cap w' hr')
  have T3 := Lib.hid (fun (w' : World) hr' => t3 a n cap w' hr')
  clear t1 t2 t3
  rw [a1, a2] at T1
  have hM := fun (b : Option Addr) (cap : Nat) w' => may_any W H C D b n cap w' hH
  rw [hm] at hM
  generalize setList W H C D xs x y c v = S at *
  generalize atVal W H C D n S i j k = b at *
  generalize atVal W H C D n xs i j k = d at *
  generalize atErr W H C D n i j k = E at *
  have HS := Lib.hid hS; have HM := Lib.hid hM; have HR := Lib.hid hr
  clear hS hM hr a1 a2 hSb hb hf hm hi he
  by_cases hne : i = x ∧ j = y ∧ k = c
  all_goals
    first
      | (obtain ⟨rfl, rfl, rfl⟩ := hne)
      | (have hbd := a3 hne; subst hbd)
    clear a3
    go_enter Try.func6, Try.ntmps6
    go_wp2_with fail
    refine (first_any _).mono ?_; rintro e w1 ⟨rfl, hb1⟩
    have hb1' := below_size ((Below.refl _ _).alloc (Nat.le_refl _) _) hb1
    have hbx := (rbox_alloc w W H C D a n cap _).below hb1
    have c0 := hbx.box.c0; have c1 := hbx.box.c1; have c2 := hbx.box.c2; have c3 := hbx.box.c3; have c4 := hbx.c4
    clear hb1
    go_wp2_with fail
    refine (hF _).mono ?_; rintro e w2 ⟨rfl, hb2⟩
    have hb2' := below_size hb1' hb2
    have hbx2 := hbx.below hb2
    clear c0 c1 c2 c3 c4
    have c0 := hbx2.box.c0; have c1 := hbx2.box.c1; have c2 := hbx2.box.c2; have c3 := hbx2.box.c3; have c4 := hbx2.c4
    clear hb2 hbx
    go_wp2_with fail
    refine (HS.out _ (HR.out.below hb2')).mono ?_; rintro e w3 ⟨g3, k3, rfl, o3, hb3⟩
    have hr3 := Lib.hid ((reads_of_owns o3).below ((Below.refl _ _).alloc (Nat.le_refl _) (.cells #[.int .i64 W, .int .i64 H, .int .i64 C, .int .i64 D, .slice (some ⟨g3, 0, Option.none⟩) n k3] 26)))
    have hbx3 := (hbx2.below hb3).below ((Below.refl _ _).alloc (Nat.le_refl _) (.cells #[.int .i64 W, .int .i64 H, .int .i64 C, .int .i64 D, .slice (some ⟨g3, 0, Option.none⟩) n k3] 26))
    have hby3 := rbox_alloc w3 W H C D (some ⟨g3, 0, Option.none⟩) n k3 26
    have hb3' := below_size hb2' hb3
    have hb3'' := hb3'.alloc hb3'.size (.cells #[.int .i64 W, .int .i64 H, .int .i64 C, .int .i64 D, .slice (some ⟨g3, 0, Option.none⟩) n k3] 26)
    clear c0 c1 c2 c3 c4
    clear hb3 hbx2 hb2' hb3' o3
    go_wp2_with fail
    generalize w3.alloc (.cells #[.int .i64 W, .int .i64 H, .int .i64 C, .int .i64 D, .slice (some ⟨g3, 0, Option.none⟩) n k3] 26) = w4 at *
    generalize w3.heap.size = gs at *
    refine (T1.out _ _ _ hr3.out).mono ?_; rintro e w5 ⟨rfl, hb5⟩
    have hr5 := Lib.hid (hr3.out.below hb5)
    have hbx5 := hbx3.below hb5
    have hby5 := hby3.below hb5
    have hb5' := below_size hb3'' hb5
    have d0 := hby5.box.c0; have d1 := hby5.box.c1; have d2 := hby5.box.c2; have d3 := hby5.box.c3; have d4 := hby5.c4
    clear hb5 hby3 hbx3 hr3 hb3''
    go_wp2_with fail
    refine (T2.out _ _ _ hr5.out).mono ?_; rintro e w6 ⟨rfl, hb6⟩
    have hbx6 := hbx5.below hb6
    have hby6 := hby5.below hb6
    have hb6' := below_size hb5' hb6
    clear d0 d1 d2 d3 d4
    have c0 := hbx6.box.c0; have c1 := hbx6.box.c1; have c2 := hbx6.box.c2; have c3 := hbx6.box.c3; have c4 := hbx6.c4
    clear hb6 hby5 hbx5 hr5 hb5'
    go_wp2_with fail
    refine (T3.out _ (HR.out.below hb6')).mono ?_; rintro e w7 ⟨rfl, hb7⟩
    have hby7 := hby6.below hb7
    have hb7' := below_size hb6' hb7
    clear c0 c1 c2 c3 c4
    have d0 := hby7.box.c0; have d1 := hby7.box.c1; have d2 := hby7.box.c2; have d3 := hby7.box.c3; have d4 := hby7.c4
    clear hb7 hby6 hbx6 hb6'
    go_wp2_with fail
    refine (HM.out _ _ _).mono ?_; rintro e w8 ⟨rfl, hb8⟩
    have hb8' := below_size hb7' hb8
    clear d0 d1 d2 d3 d4
    clear hb8 hby7 hb7'
    go_wp2_with fail
    refine (first_any _).mono ?_; rintro e w9 ⟨rfl, hb9⟩
    have hb9' := below_size hb8' hb9
    go_wp2_with fail
    all_goals go_ret
    all_goals exact ⟨by first | rfl | exact ret_bool (by simp), hb9'⟩

theorem walk_PixSets (W H C D : Int) (a : Option Addr) (n cap : Nat) (xs : List Int) (x y c v i j k : Int) (w : World) (_ : -9223372036854775808 ≤ W ∧ W ≤ 9223372036854775807) (hH : -9223372036854775808 ≤ H ∧ H ≤ 9223372036854775807) (_ : -9223372036854775808 ≤ C ∧ C ≤ 9223372036854775807) (_ : -9223372036854775808 ≤ D ∧ D ≤ 9223372036854775807) (hr : Reads .u8 w a n cap xs) (hb : isB xs)
    (_ : -9223372036854775808 ≤ x ∧ x ≤ 9223372036854775807) (_ : -9223372036854775808 ≤ y ∧ y ≤ 9223372036854775807) (_ : -9223372036854775808 ≤ c ∧ c ≤ 9223372036854775807) (hv : -9223372036854775808 ≤ v ∧ v ≤ 9223372036854775807) (_ : -9223372036854775808 ≤ i ∧ i ≤ 9223372036854775807) (_ : -9223372036854775808 ≤ j ∧ j ≤ 9223372036854775807) (_ : -9223372036854775808 ≤ k ∧ k ≤ 9223372036854775807) :
    Calls Try.prog 6 #[ras W H C D a n cap, .int .i64 x, .int .i64 y, .int .i64 c, .int .i64 v, .int .i64 i, .int .i64 j, .int .i64 k] w fun e w' => e = .returned (.bool true) ∧ Below w.heap.size w w' := by
  by_cases h : n ≤ 20000
  · by_cases he : setErr W H C D n x y c v = 0
    · exact sets_yes W H C D a n cap xs x y c v i j k w hr hb hH hv h he
    · exact sets_not W H C D a n cap x y c v i j k w hH hv h he
  · exact sets_few W H C D a n cap x y c v i j k w h
end Go.Proofs.Ytdlmcjcdmjkhhaa
