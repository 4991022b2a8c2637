/-
  The document's sides, Row, Size, MayShape, May say what pix says (chapter 10 has no place).
-/
import Derived.Test.YtbmbelnjgnahhaaTileGrid
import Derived.Test.YtbmbelnjgnahhaaGrow
namespace Go.Proofs.Ytbmbelnjgnahhaa
open Go.RowKit

set_option maxHeartbeats 400000 in
theorem rinBounds_any (W H C D : Int) (w : World) :
    Calls Try.prog 34 #[shp W H C D] w fun e w' => e = .returned (.bool (bnds W H C D)) ∧ Below w.heap.size w w' := by
  have HB := fun b => Lib.hid (bnds_iff W H C D b)
  generalize bnds W H C D = r at *
  go_enter Try.func34, Try.ntmps34
  go_wp2
  all_goals go_ret
  all_goals refine ⟨ret_bool ?_, (Below.refl _ _).alloc (Nat.le_refl _) _⟩
  all_goals refine (HB _).out ?_
  all_goals unfold Bnds
  all_goals simp
  all_goals try omega


set_option maxHeartbeats 400000 in
theorem rrow_any (W H C D : Int) (w : World) :
    Calls Try.prog 37 #[shp W H C D] w fun e w' => e = .returned (.int .i64 (rowN W H C D)) ∧ Below w.heap.size w w' := by
  by_cases hb : Bnds W H C D
  · have := prod_bd ⟨hb.1, hb.2.1⟩ ⟨hb.2.2.2.2.1, hb.2.2.2.2.2.1⟩ hb.2.2.2.2.2.2
    have hbb : bnds W H C D = true := by simp [bnds, hb]
    have hR : Hid (rowN W H C D = W * C * D / 8) := by simp [Hid, rowN, hb]
    go_enter Try.func37, Try.ntmps37
    go_wp2_with (go_at_call 34; refine (rinBounds_any W H C D _).mono ?_; rintro e w1 ⟨rfl, hb1⟩; have hbx := (box_alloc _ _ _ _ _ _).below hb1; rw [hbb]; have c0 := hbx.c0; have c1 := hbx.c1; have c2 := hbx.c2; have c3 := hbx.c3; clear hb hbb)
    all_goals go_ret
    all_goals exact ⟨by rw [hR.out]; rfl, ((Below.refl _ _).alloc (Nat.le_refl _) _).trans (hb1.mono (by simp))⟩
  · have hbb : bnds W H C D = false := by simp [bnds, hb]
    have hR : Hid (rowN W H C D = 0) := by simp [Hid, rowN, hb]
    go_enter Try.func37, Try.ntmps37
    go_wp2_with (go_at_call 34; refine (rinBounds_any W H C D _).mono ?_; rintro e w1 ⟨rfl, hb1⟩; rw [hbb]; clear hb hbb)
    all_goals go_ret
    all_goals exact ⟨by rw [hR.out]; rfl, ((Below.refl _ _).alloc (Nat.le_refl _) _).trans (hb1.mono (by simp))⟩


set_option maxHeartbeats 1000000 in
theorem rsize_any (W H C D : Int) (w : World) (hH : -9223372036854775808 ≤ H ∧ H ≤ 9223372036854775807) :
    Calls Try.prog 35 #[shp W H C D] w fun e w' => e = .returned (.int .i64 (sizeN W H C D)) ∧ Below w.heap.size w w' := by
  have hb0 := box_alloc w W H C D 23
  obtain ⟨r, hr⟩ : ∃ r, rowN W H C D = r := ⟨_, rfl⟩
  have hS : sizeN W H C D = r * H := by rw [sizeN, hr]
  have hRo := fun w' => rrow_any W H C D w'
  rw [hr] at hRo
  have HRo := Lib.hid hRo
  clear hRo
  by_cases hb : Bnds W H C D
  · have hs := size_bd W H C D hb
    have hH1 := hb.2.2.1; have hH2 := hb.2.2.2.1
    have m1 : ¬ H < 0 := by omega
    have m2 : ¬ (256 : Int) < H := by omega
    have HW := Lib.hid (show wrap64 (r * H) = r * H from Go.IntWalk.wrap64_in _ (by rw [← hS]; omega))
    rw [hS]
    clear hr hb hs hS
    go_enter Try.func35, Try.ntmps35
    go_wp2_with fail
    have hbl : Below w.heap.size w (w.alloc (.cells #[.int .i64 W, .int .i64 H, .int .i64 C, .int .i64 D] 23)) := (Below.refl _ _).alloc (Nat.le_refl _) _
    generalize w.alloc (.cells #[.int .i64 W, .int .i64 H, .int .i64 C, .int .i64 D] 23) = w0 at *
    have c0 := fun x : GrownW w0 => x.cell hb0.lt hb0.c0; have c1 := fun x : GrownW w0 => x.cell hb0.lt hb0.c1; have c2 := fun x : GrownW w0 => x.cell hb0.lt hb0.c2; have c3 := fun x : GrownW w0 => x.cell hb0.lt hb0.c3
    refine wp_region_grow_lit (by kernel_rfl) (by kernel_rfl) ?_
    repeat (go_big_quiet_step ((go_at_call 37; exact grow_call (HRo.out _))))
    refine wpQuiet_nil ?_
    intro wg hw'
    obtain ⟨⟨wz, hbg⟩, hw''⟩ := hw'
    subst hw''
    go_wp2_with fail
    go_ret
    exact ⟨ret_int (by first | exact HW.out | (simp; done) | simpa using HW.out), below_size hbl hbg⟩
  · have hr0 : r = 0 := by rw [← hr]; simp [rowN, hb]
    subst hr0
    rw [hS, Int.zero_mul]
    clear hr hb hS
    by_cases m1 : H < 0
    · have m3 : ¬ (256 : Int) < 0 := by omega
      have HW : Hid (IntKind.i64.wrap 0 = 0) := by show IntKind.i64.wrap 0 = 0; decide
      go_enter Try.func35, Try.ntmps35
      go_wp2_with fail
      have hbl : Below w.heap.size w (w.alloc (.cells #[.int .i64 W, .int .i64 H, .int .i64 C, .int .i64 D] 23)) := (Below.refl _ _).alloc (Nat.le_refl _) _
      generalize w.alloc (.cells #[.int .i64 W, .int .i64 H, .int .i64 C, .int .i64 D] 23) = w0 at *
      have c0 := fun x : GrownW w0 => x.cell hb0.lt hb0.c0; have c1 := fun x : GrownW w0 => x.cell hb0.lt hb0.c1; have c2 := fun x : GrownW w0 => x.cell hb0.lt hb0.c2; have c3 := fun x : GrownW w0 => x.cell hb0.lt hb0.c3
      refine wp_region_grow_lit (by kernel_rfl) (by kernel_rfl) ?_
      repeat (go_big_quiet_step ((go_at_call 37; exact grow_call (HRo.out _))))
      refine wpQuiet_nil ?_
      intro wg hw'
      obtain ⟨⟨wz, hbg⟩, hw''⟩ := hw'
      subst hw''
      go_wp2_with fail
      go_ret
      exact ⟨ret_int (by first | exact HW.out | (simp; done) | simpa using HW.out), below_size hbl hbg⟩
    · by_cases m2 : (256 : Int) < H
      · have HW : Hid (IntKind.i64.wrap 0 = 0) := by show IntKind.i64.wrap 0 = 0; decide
        go_enter Try.func35, Try.ntmps35
        go_wp2_with fail
        have hbl : Below w.heap.size w (w.alloc (.cells #[.int .i64 W, .int .i64 H, .int .i64 C, .int .i64 D] 23)) := (Below.refl _ _).alloc (Nat.le_refl _) _
        generalize w.alloc (.cells #[.int .i64 W, .int .i64 H, .int .i64 C, .int .i64 D] 23) = w0 at *
        have c0 := fun x : GrownW w0 => x.cell hb0.lt hb0.c0; have c1 := fun x : GrownW w0 => x.cell hb0.lt hb0.c1; have c2 := fun x : GrownW w0 => x.cell hb0.lt hb0.c2; have c3 := fun x : GrownW w0 => x.cell hb0.lt hb0.c3
        refine wp_region_grow_lit (by kernel_rfl) (by kernel_rfl) ?_
        repeat (go_big_quiet_step ((go_at_call 37; exact grow_call (HRo.out _))))
        refine wpQuiet_nil ?_
        intro wg hw'
        obtain ⟨⟨wz, hbg⟩, hw''⟩ := hw'
        subst hw''
        go_wp2_with fail
        go_ret
        exact ⟨ret_int (by first | exact HW.out | (simp; done) | simpa using HW.out), below_size hbl hbg⟩
      · have HW : Hid (IntKind.i64.wrap 0 = 0) := by show IntKind.i64.wrap 0 = 0; decide
        go_enter Try.func35, Try.ntmps35
        go_wp2_with fail
        have hbl : Below w.heap.size w (w.alloc (.cells #[.int .i64 W, .int .i64 H, .int .i64 C, .int .i64 D] 23)) := (Below.refl _ _).alloc (Nat.le_refl _) _
        generalize w.alloc (.cells #[.int .i64 W, .int .i64 H, .int .i64 C, .int .i64 D] 23) = w0 at *
        have c0 := fun x : GrownW w0 => x.cell hb0.lt hb0.c0; have c1 := fun x : GrownW w0 => x.cell hb0.lt hb0.c1; have c2 := fun x : GrownW w0 => x.cell hb0.lt hb0.c2; have c3 := fun x : GrownW w0 => x.cell hb0.lt hb0.c3
        refine wp_region_grow_lit (by kernel_rfl) (by kernel_rfl) ?_
        repeat (go_big_quiet_step ((go_at_call 37; exact grow_call (HRo.out _))))
        refine wpQuiet_nil ?_
        intro wg hw'
        obtain ⟨⟨wz, hbg⟩, hw''⟩ := hw'
        subst hw''
        go_wp2_with fail
        go_ret
        exact ⟨ret_int (by first | exact HW.out | (simp; done) | simpa using HW.out), below_size hbl hbg⟩

set_option maxHeartbeats 400000 in
theorem rmayShape_any (W H C D : Int) (w : World) (hH : -9223372036854775808 ≤ H ∧ H ≤ 9223372036854775807) :
    Calls Try.prog 32 #[shp W H C D] w fun e w' => e = .returned (.bool (mayN W H C D)) ∧ Below w.heap.size w w' := by
  by_cases hb : Bnds W H C D
  · have hbb : bnds W H C D = true := by simp [bnds, hb]
    have hR : Hid (mayN W H C D = decide (sizeN W H C D ≤ 16384)) := by simp [Hid, mayN, hb]
    have hs := size_bd W H C D hb
    go_enter Try.func32, Try.ntmps32
    go_wp2_with (first
      | (go_at_call 34; refine (rinBounds_any W H C D _).mono ?_; rintro e w1 ⟨rfl, hb1⟩; have hbx := (box_alloc _ _ _ _ _ _).below hb1; rw [hbb]; have c0 := hbx.c0; have c1 := hbx.c1; have c2 := hbx.c2; have c3 := hbx.c3; clear hb hbb)
      | (go_at_call 35; refine (rsize_any W H C D _ hH).mono ?_; rintro e w2 ⟨rfl, hb2⟩))
    all_goals go_ret
    all_goals refine ⟨?_, below_size (((Below.refl _ _).alloc (Nat.le_refl _) _).trans (hb1.mono (by simp))) hb2⟩
    all_goals (rw [hR.out]; first | rfl | trace_state)
  · have hbb : bnds W H C D = false := by simp [bnds, hb]
    have hR : Hid (mayN W H C D = false) := by simp [Hid, mayN, hb]
    go_enter Try.func32, Try.ntmps32
    go_wp2_with (go_at_call 34; refine (rinBounds_any W H C D _).mono ?_; rintro e w1 ⟨rfl, hb1⟩; rw [hbb]; clear hb hbb)
    all_goals go_ret
    all_goals exact ⟨by rw [hR.out]; rfl, ((Below.refl _ _).alloc (Nat.le_refl _) _).trans (hb1.mono (by simp))⟩


set_option maxHeartbeats 400000 in
theorem rgrid_may (W H C D : Int) (w : World) (hm : mayN W H C D = true) :
    Calls Try.prog 28 #[shp W H C D] w fun e w' => e = .returned (.tuple #[.int .i64 ((W + 7) / 8), .int .i64 ((H + 7) / 8)]) ∧ Below w.heap.size w w' := by
  have hb := (bnds_of_may hm).1
  have hW1 := hb.1; have hW2 := hb.2.1; have hH1 := hb.2.2.1; have hH2 := hb.2.2.2.1
  have hH : -9223372036854775808 ≤ H ∧ H ≤ 9223372036854775807 := by omega
  go_enter Try.func28, Try.ntmps28
  go_wp2_with (go_at_call 32; refine (rmayShape_any W H C D _ hH).mono ?_; rintro e w1 ⟨rfl, hb1⟩; have hbx := (box_alloc _ _ _ _ _ _).below hb1; rw [hm]; have c0 := hbx.c0; have c1 := hbx.c1; have c2 := hbx.c2; have c3 := hbx.c3; clear hb hm)
  go_quiet (fail)
  go_wp2
  go_returns
  exact ⟨by simp; omega, below_drewN (((Below.refl _ _).alloc (Nat.le_refl _) _).trans (hb1.mono (by simp))) _⟩

set_option maxHeartbeats 400000 in
theorem rgrid_not (W H C D : Int) (w : World) (hH : -9223372036854775808 ≤ H ∧ H ≤ 9223372036854775807) (hm : mayN W H C D = false) :
    Calls Try.prog 28 #[shp W H C D] w fun e w' => e = .returned (.tuple #[.int .i64 0, .int .i64 0]) ∧ Below w.heap.size w w' := by
  go_enter Try.func28, Try.ntmps28
  go_wp2_with (go_at_call 32; refine (rmayShape_any W H C D _ hH).mono ?_; rintro e w1 ⟨rfl, hb1⟩; rw [hm]; clear hm)
  all_goals go_returns
  all_goals exact ⟨rfl, ((Below.refl _ _).alloc (Nat.le_refl _) _).trans (hb1.mono (by simp))⟩
end Go.Proofs.Ytbmbelnjgnahhaa
