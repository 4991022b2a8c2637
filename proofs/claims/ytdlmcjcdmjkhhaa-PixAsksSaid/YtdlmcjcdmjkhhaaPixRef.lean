/-
  The document's answers of chapter 9: aquref9's sides, Row, Size, MayShape, May, place say what pix says.
-/
import Derived.Test.YtdlmcjcdmjkhhaaPlace
namespace Go.Proofs.Ytdlmcjcdmjkhhaa
open Go.RowKit

set_option maxHeartbeats 400000 in
theorem rinBounds_any (W H C D : Int) (w : World) :
    Calls Try.prog 38 #[shp W H C D] w fun e w' => e = .returned (.bool (bnds W H C D)) ∧ Below w.heap.size w w' := by
  have HB := fun b => Lib.hid (bnds_iff W H C D b)
  generalize bnds W H C D = r at *
  go_enter Try.func38, Try.ntmps38
  go_wp2
  all_goals go_ret
  all_goals refine ⟨ret_bool ?_, (Below.refl _ _).alloc (Nat.le_refl _) _⟩
  all_goals refine (HB _).out ?_
  all_goals unfold Bnds
  all_goals simp
  all_goals try omega


set_option maxHeartbeats 400000 in
theorem rrow_any (W H C D : Int) (w : World) :
    Calls Try.prog 21 #[shp W H C D] w fun e w' => e = .returned (.int .i64 (rowN W H C D)) ∧ Below w.heap.size w w' := by
  by_cases hb : Bnds W H C D
  · have := prod_bd ⟨hb.1, hb.2.1⟩ ⟨hb.2.2.2.2.1, hb.2.2.2.2.2.1⟩ hb.2.2.2.2.2.2
    have hbb : bnds W H C D = true := by simp [bnds, hb]
    have hR : Hid (rowN W H C D = W * C * D / 8) := by simp [Hid, rowN, hb]
    go_enter Try.func21, Try.ntmps21
    go_wp2_with (go_at_call 38; refine (rinBounds_any W H C D _).mono ?_; rintro e w1 ⟨rfl, hb1⟩; have hbx := (box_alloc _ _ _ _ _ _).below hb1; rw [hbb]; have c0 := hbx.c0; have c1 := hbx.c1; have c2 := hbx.c2; have c3 := hbx.c3; clear hb hbb)
    all_goals go_ret
    all_goals exact ⟨by rw [hR.out]; rfl, ((Below.refl _ _).alloc (Nat.le_refl _) _).trans (hb1.mono (by simp))⟩
  · have hbb : bnds W H C D = false := by simp [bnds, hb]
    have hR : Hid (rowN W H C D = 0) := by simp [Hid, rowN, hb]
    go_enter Try.func21, Try.ntmps21
    go_wp2_with (go_at_call 38; refine (rinBounds_any W H C D _).mono ?_; rintro e w1 ⟨rfl, hb1⟩; rw [hbb]; clear hb hbb)
    all_goals go_ret
    all_goals exact ⟨by rw [hR.out]; rfl, ((Below.refl _ _).alloc (Nat.le_refl _) _).trans (hb1.mono (by simp))⟩


set_option maxHeartbeats 1000000 in
theorem rsize_any (W H C D : Int) (w : World) (hH : -9223372036854775808 ≤ H ∧ H ≤ 9223372036854775807) :
    Calls Try.prog 23 #[shp W H C D] w fun e w' => e = .returned (.int .i64 (sizeN W H C D)) ∧ Below w.heap.size w w' := by
  have hb0 := box_alloc w W H C D 23
  obtain ⟨r, hr⟩ : ∃ r, rowN W H C D = r := ⟨_, rfl⟩
  have hS : sizeN W H C D = r * H := by rw [sizeN, hr]
  have hRo := fun w' => rrow_any W H C D w'
  rw [hr] at hRo
  have HRo := Lib.hid hRo
  clear hRo
  by_cases hb : Bnds W H C D
  · have hs := size_bd W H C D hb
    have hH1 := hb.2.2.1; have hH2 := hb.2.2.2.1
    have m1 : ¬ H < 0 := by omega
    have m2 : ¬ (256 : Int) < H := by omega
    have HW := Lib.hid (show wrap64 (r * H) = r * H from Go.IntWalk.wrap64_in _ (by rw [← hS]; omega))
    rw [hS]
    clear hr hb hs hS
    go_enter Try.func23, Try.ntmps23
    go_wp2_with fail
    have hbl : Below w.heap.size w (w.alloc (.cells #[.int .i64 W, .int .i64 H, .int .i64 C, .int .i64 D] 23)) := (Below.refl _ _).alloc (Nat.le_refl _) _
    generalize w.alloc (.cells #[.int .i64 W, .int .i64 H, .int .i64 C, .int .i64 D] 23) = w0 at *
    have c0 := fun x : GrownW w0 => x.cell hb0.lt hb0.c0; have c1 := fun x : GrownW w0 => x.cell hb0.lt hb0.c1; have c2 := fun x : GrownW w0 => x.cell hb0.lt hb0.c2; have c3 := fun x : GrownW w0 => x.cell hb0.lt hb0.c3
    refine wp_region_grow_lit (by kernel_rfl) (by kernel_rfl) ?_
    repeat (go_big_quiet_step ((go_at_call 21; exact grow_call (HRo.out _))))
    refine wpQuiet_nil ?_
    intro wg hw'
    obtain ⟨⟨wz, hbg⟩, hw''⟩ := hw'
    subst hw''
    go_wp2_with fail
    go_ret
    exact ⟨ret_int (by first | exact HW.out | (simp; done) | simpa using HW.out), below_size hbl hbg⟩
  · have hr0 : r = 0 := by rw [← hr]; simp [rowN, hb]
    subst hr0
    rw [hS, Int.zero_mul]
    clear hr hb hS
    by_cases m1 : H < 0
    · have m3 : ¬ (256 : Int) < 0 := by omega
      have HW : Hid (IntKind.i64.wrap 0 = 0) := by show IntKind.i64.wrap 0 = 0; decide
      go_enter Try.func23, Try.ntmps23
      go_wp2_with fail
      have hbl : Below w.heap.size w (w.alloc (.cells #[.int .i64 W, .int .i64 H, .int .i64 C, .int .i64 D] 23)) := (Below.refl _ _).alloc (Nat.le_refl _) _
      generalize w.alloc (.cells #[.int .i64 W, .int .i64 H, .int .i64 C, .int .i64 D] 23) = w0 at *
      have c0 := fun x : GrownW w0 => x.cell hb0.lt hb0.c0; have c1 := fun x : GrownW w0 => x.cell hb0.lt hb0.c1; have c2 := fun x : GrownW w0 => x.cell hb0.lt hb0.c2; have c3 := fun x : GrownW w0 => x.cell hb0.lt hb0.c3
      refine wp_region_grow_lit (by kernel_rfl) (by kernel_rfl) ?_
      repeat (go_big_quiet_step ((go_at_call 21; exact grow_call (HRo.out _))))
      refine wpQuiet_nil ?_
      intro wg hw'
      obtain ⟨⟨wz, hbg⟩, hw''⟩ := hw'
      subst hw''
      go_wp2_with fail
      go_ret
      exact ⟨ret_int (by first | exact HW.out | (simp; done) | simpa using HW.out), below_size hbl hbg⟩
    · by_cases m2 : (256 : Int) < H
      · have HW : Hid (IntKind.i64.wrap 0 = 0) := by show IntKind.i64.wrap 0 = 0; decide
        go_enter Try.func23, Try.ntmps23
        go_wp2_with fail
        have hbl : Below w.heap.size w (w.alloc (.cells #[.int .i64 W, .int .i64 H, .int .i64 C, .int .i64 D] 23)) := (Below.refl _ _).alloc (Nat.le_refl _) _
        generalize w.alloc (.cells #[.int .i64 W, .int .i64 H, .int .i64 C, .int .i64 D] 23) = w0 at *
        have c0 := fun x : GrownW w0 => x.cell hb0.lt hb0.c0; have c1 := fun x : GrownW w0 => x.cell hb0.lt hb0.c1; have c2 := fun x : GrownW w0 => x.cell hb0.lt hb0.c2; have c3 := fun x : GrownW w0 => x.cell hb0.lt hb0.c3
        refine wp_region_grow_lit (by kernel_rfl) (by kernel_rfl) ?_
        repeat (go_big_quiet_step ((go_at_call 21; exact grow_call (HRo.out _))))
        refine wpQuiet_nil ?_
        intro wg hw'
        obtain ⟨⟨wz, hbg⟩, hw''⟩ := hw'
        subst hw''
        go_wp2_with fail
        go_ret
        exact ⟨ret_int (by first | exact HW.out | (simp; done) | simpa using HW.out), below_size hbl hbg⟩
      · have HW : Hid (IntKind.i64.wrap 0 = 0) := by show IntKind.i64.wrap 0 = 0; decide
        go_enter Try.func23, Try.ntmps23
        go_wp2_with fail
        have hbl : Below w.heap.size w (w.alloc (.cells #[.int .i64 W, .int .i64 H, .int .i64 C, .int .i64 D] 23)) := (Below.refl _ _).alloc (Nat.le_refl _) _
        generalize w.alloc (.cells #[.int .i64 W, .int .i64 H, .int .i64 C, .int .i64 D] 23) = w0 at *
        have c0 := fun x : GrownW w0 => x.cell hb0.lt hb0.c0; have c1 := fun x : GrownW w0 => x.cell hb0.lt hb0.c1; have c2 := fun x : GrownW w0 => x.cell hb0.lt hb0.c2; have c3 := fun x : GrownW w0 => x.cell hb0.lt hb0.c3
        refine wp_region_grow_lit (by kernel_rfl) (by kernel_rfl) ?_
        repeat (go_big_quiet_step ((go_at_call 21; exact grow_call (HRo.out _))))
        refine wpQuiet_nil ?_
        intro wg hw'
        obtain ⟨⟨wz, hbg⟩, hw''⟩ := hw'
        subst hw''
        go_wp2_with fail
        go_ret
        exact ⟨ret_int (by first | exact HW.out | (simp; done) | simpa using HW.out), below_size hbl hbg⟩

set_option maxHeartbeats 400000 in
theorem rmayShape_any (W H C D : Int) (w : World) (hH : -9223372036854775808 ≤ H ∧ H ≤ 9223372036854775807) :
    Calls Try.prog 17 #[shp W H C D] w fun e w' => e = .returned (.bool (mayN W H C D)) ∧ Below w.heap.size w w' := by
  by_cases hb : Bnds W H C D
  · have hbb : bnds W H C D = true := by simp [bnds, hb]
    have hR : Hid (mayN W H C D = decide (sizeN W H C D ≤ 16384)) := by simp [Hid, mayN, hb]
    have hs := size_bd W H C D hb
    go_enter Try.func17, Try.ntmps17
    go_wp2_with (first
      | (go_at_call 38; refine (rinBounds_any W H C D _).mono ?_; rintro e w1 ⟨rfl, hb1⟩; have hbx := (box_alloc _ _ _ _ _ _).below hb1; rw [hbb]; have c0 := hbx.c0; have c1 := hbx.c1; have c2 := hbx.c2; have c3 := hbx.c3; clear hb hbb)
      | (go_at_call 23; refine (rsize_any W H C D _ hH).mono ?_; rintro e w2 ⟨rfl, hb2⟩))
    all_goals go_ret
    all_goals refine ⟨?_, below_size (((Below.refl _ _).alloc (Nat.le_refl _) _).trans (hb1.mono (by simp))) hb2⟩
    all_goals (rw [hR.out]; first | rfl | trace_state)
  · have hbb : bnds W H C D = false := by simp [bnds, hb]
    have hR : Hid (mayN W H C D = false) := by simp [Hid, mayN, hb]
    go_enter Try.func17, Try.ntmps17
    go_wp2_with (go_at_call 38; refine (rinBounds_any W H C D _).mono ?_; rintro e w1 ⟨rfl, hb1⟩; rw [hbb]; clear hb hbb)
    all_goals go_ret
    all_goals exact ⟨by rw [hR.out]; rfl, ((Below.refl _ _).alloc (Nat.le_refl _) _).trans (hb1.mono (by simp))⟩


set_option maxHeartbeats 400000 in
theorem rmay_any (W H C D : Int) (a : Option Addr) (n cap : Nat) (w : World) (hH : -9223372036854775808 ≤ H ∧ H ≤ 9223372036854775807) :
    Calls Try.prog 19 #[ras W H C D a n cap] w fun e w' => e = .returned (.bool (mayR W H C D n)) ∧ Below w.heap.size w w' := by
  cases hm : mayN W H C D
  all_goals
    have HR : Hid (mayR W H C D n = (mayN W H C D && ((n : Int) == sizeN W H C D))) := rfl
    rw [hm] at HR
    have cm := fun w' => rmayShape_any W H C D w' hH
    simp only [hm] at cm
    go_enter Try.func19, Try.ntmps19
    go_wp2_with fail
    have hb0 := rbox_alloc w W H C D a n cap 26
    have hb1 : Below w.heap.size w (w.alloc (.cells #[.int .i64 W, .int .i64 H, .int .i64 C, .int .i64 D, .slice a n cap] 26)) := (Below.refl _ _).alloc (Nat.le_refl _) _
    generalize w.alloc (.cells #[.int .i64 W, .int .i64 H, .int .i64 C, .int .i64 D, .slice a n cap] 26) = w0 at *
    have c0 := fun x : GrownW w0 => x.cell hb0.lt hb0.box.c0
    have c1 := fun x : GrownW w0 => x.cell hb0.lt hb0.box.c1
    have c2 := fun x : GrownW w0 => x.cell hb0.lt hb0.box.c2
    have c3 := fun x : GrownW w0 => x.cell hb0.lt hb0.box.c3
    have c4 := fun x : GrownW w0 => x.cell hb0.lt hb0.c4
    refine wp_region_grow_lit (by kernel_rfl) (by kernel_rfl) ?_
    repeat (go_big_quiet_step (first
      | (go_at_call 17; exact grow_call (cm _))
      | (go_at_call 23; exact grow_call (rsize_any W H C D _ hH))))
    refine wpQuiet_nil ?_
    intro wg hw'
    obtain ⟨⟨wz, hbg⟩, hw''⟩ := hw'
    subst hw''
  all_goals go_wp2
  all_goals go_ret
  all_goals refine ⟨?_, below_size hb1 hbg⟩
  all_goals (rw [HR.out]; simp)


/-- What place answers. -/
def plE (W H C D : Int) (n : Nat) (x y c : Int) : Int := if mayR W H C D n = true then (if InR W H C x y c then 0 else 1) else 4
def plV (W H C D : Int) (n : Nat) (x y c : Int) : Int := if mayR W H C D n = true ∧ InR W H C x y c then plAt W H C D x y c else 0

set_option maxHeartbeats 1000000 in
theorem rplace_any (W H C D : Int) (a : Option Addr) (n cap : Nat) (x y c : Int) (w : World) (hH : -9223372036854775808 ≤ H ∧ H ≤ 9223372036854775807) :
    Calls Try.prog 33 #[ras W H C D a n cap, .int .i64 x, .int .i64 y, .int .i64 c] w fun e w' => e = .returned (.tuple #[.int .i64 (plV W H C D n x y c), .int .i64 (plE W H C D n x y c)]) ∧ Below w.heap.size w w' := by
  have hb0 : Below w.heap.size w ((w.alloc (.cells #[.int .i64 W, .int .i64 H, .int .i64 C, .int .i64 D, .slice a n cap] 26)).alloc (.cells #[.int .i64 W, .int .i64 H, .int .i64 C, .int .i64 D] 23)) := ((Below.refl _ _).alloc (Nat.le_refl _) _).alloc (by simp) _
  have bs0 := box_alloc (w.alloc (.cells #[.int .i64 W, .int .i64 H, .int .i64 C, .int .i64 D, .slice a n cap] 26)) W H C D 23
  rw [World.size_alloc] at bs0
  have HB := Lib.hid hb0; have HS := Lib.hid bs0
  have hMy := fun w' => rmay_any W H C D a n cap w' hH
  unfold plE plV
  clear hb0 bs0
  cases hm : mayR W H C D n
  · rw [hm] at hMy
    simp only [Bool.false_eq_true, false_and, if_false]
    go_enter Try.func33, Try.ntmps33
    go_wp2_with fail
    refine (hMy _).mono ?_; rintro e w1 ⟨rfl, hb1⟩
    have B1 := below_size HB.out hb1
    clear hb1
    go_wp2_with fail
    go_returns
    exact ⟨rfl, B1⟩
  · rw [hm] at hMy
    have hb := (mayR_spec hm).1
    have hW1 := hb.1; have hW2 := hb.2.1; have hH1 := hb.2.2.1; have hH2 := hb.2.2.2.1; have hC1 := hb.2.2.2.2.1; have hC2 := hb.2.2.2.2.2.1
    by_cases hi : InR W H C x y c
    · have hp := plAt_bd hb hi
      have hq := plAt_in hb hi
      have hs := (mayR_spec hm).2
      have hD := hb.2.2.2.2.2.2
      have hr := row_bd W H C D
      have HA : Hid (plAt W H C D x y c = y * rowN W H C D + (x * C + c) * D / 8) := rfl
      have hq2 : 0 ≤ y * rowN W H C D + (x * C + c) * D / 8 ∧ y * rowN W H C D + (x * C + c) * D / 8 ≤ 1000000 := by
        have := HA.out; omega
      have hRo := fun w' => rrow_any W H C D w'
      have hHi := Lib.hid hi
      simp only [hi, and_self, if_true]
      obtain ⟨i1, i2, i3, i4, i5, i6⟩ := hi
      generalize plAt W H C D x y c = pl at *
      generalize rowN W H C D = rw_ at *
      clear hb hm
      go_enter Try.func33, Try.ntmps33
      go_wp2_with fail
      refine (hMy _).mono ?_; rintro e w1 ⟨rfl, hb1⟩
      have B1 := below_size HB.out hb1
      have bs1 := HS.out.below hb1
      have d0 := bs1.c0; have d1 := bs1.c1; have d2 := bs1.c2; have d3 := bs1.c3
      clear hb1
      go_wp2_with fail
      clear d0 d1 d2 d3
      have d0 := fun x : GrownW w1 => x.cell bs1.lt bs1.c0; have d1 := fun x : GrownW w1 => x.cell bs1.lt bs1.c1; have d2 := fun x : GrownW w1 => x.cell bs1.lt bs1.c2; have d3 := fun x : GrownW w1 => x.cell bs1.lt bs1.c3
      refine wp_region_grow_lit (by kernel_rfl) (by kernel_rfl) ?_
      repeat (go_big_quiet_step ((go_at_call 21; exact grow_call (hRo _))))
      refine wpQuiet_nil ?_
      intro wg hw'
      obtain ⟨⟨wz, hbg⟩, hw''⟩ := hw'
      subst hw''
      go_wp2_with fail
      go_returns
      refine ⟨?_, below_size B1 hbg⟩
      rw [HA.out]
      rfl
    · simp only [hi, and_false, if_false, if_true]
      have HI := Lib.hid hi
      clear hi hb hm
      go_enter Try.func33, Try.ntmps33
      go_wp2_with fail
      refine (hMy _).mono ?_; rintro e w1 ⟨rfl, hb1⟩
      have B1 := below_size HB.out hb1
      have bs1 := HS.out.below hb1
      have d0 := bs1.c0; have d1 := bs1.c1; have d2 := bs1.c2; have d3 := bs1.c3
      clear hb1
      go_wp2_with fail
      all_goals first
        | (go_returns; exact ⟨rfl, B1⟩)
        | (exfalso; exact HI.out ⟨by omega, by omega, by omega, by omega, by omega, by omega⟩)
        | trace_state
end Go.Proofs.Ytdlmcjcdmjkhhaa
