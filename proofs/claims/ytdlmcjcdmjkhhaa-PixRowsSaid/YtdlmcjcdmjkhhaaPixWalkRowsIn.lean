/-
  The walk of PixRows, a place within.
-/
import Derived.Test.YtdlmcjcdmjkhhaaPixWalkRows
namespace Go.Proofs.Ytdlmcjcdmjkhhaa
open Go.RowKit

set_option maxRecDepth 100000 in
set_option maxHeartbeats 4000000 in
theorem rows_in (W H C D : Int) (a : Option Addr) (n cap : Nat) (xs : List Int) (x y c : Int) (w : World) (hrd : Reads .u8 w a n cap xs) (hxb : isB xs) (hm : mayR W H C D n = true) (hi : InR W H C x y c) :
    Calls Try.prog 7 #[ras W H C D a n cap, .int .i64 x, .int .i64 y, .int .i64 c] w fun e w' => e = .returned (.bool true) ∧ Below w.heap.size w w' := by
  have hb := (mayR_spec hm).1
  have hs := (mayR_spec hm).2
  have hq := plAt_in hb hi
  have hpb := plAt_bd hb hi
  have hW1 := hb.1; have hW2 := hb.2.1; have hH1 := hb.2.2.1; have hH2 := hb.2.2.2.1; have hC1 := hb.2.2.2.2.1; have hC2 := hb.2.2.2.2.2.1; have hD := hb.2.2.2.2.2.2
  have hH : -9223372036854775808 ≤ H ∧ H ≤ 9223372036854775807 := by omega
  have hn : n ≤ 20000 := by omega
  have hp := prod_bd ⟨hW1, hW2⟩ ⟨hC1, hC2⟩ hD
  have hr : rowN W H C D = W * C * D / 8 := by rw [rowN, if_pos hb]
  have hR1 : 1 ≤ W * C * D / 8 := by omega
  have hsz : sizeN W H C D = W * C * D / 8 * H := by rw [sizeN, hr]
  have hns : ((n : Int) != W * C * D / 8 * H) = false := by rw [← hsz]; simp; omega
  have hSb : 1 ≤ W * C * D / 8 * H ∧ W * C * D / 8 * H ≤ 16384 := by rw [← hsz]; have := size_bd W H C D hb; omega
  have hpl : plAt W H C D x y c = y * (W * C * D / 8) + (x * C + c) * D / 8 := by rw [plAt, hr]
  have hle : y * (W * C * D / 8) + (x * C + c) * D / 8 + D / 8 ≤ n := by rw [← hpl]; omega
  have hy : 0 ≤ y * (W * C * D / 8) ∧ y * (W * C * D / 8) ≤ 524288 := by rw [← hr]; exact hq.2.2
  have hF := fun w' => few_any W H C D a n cap w'
  have hM := fun w' => may_any W H C D a n cap w' hH
  have hRo := fun w' => row_any W H C D w'
  have hSi := fun w' => size_any W H C D w' hH
  have hAt := fun w' hr' => at_yes W H C D a n cap xs x y c w' hr' hxb hm hi
  have HN : Hid (atNum W H C D xs x y c = rbig ((xs.drop (y * (W * C * D / 8) + (x * C + c) * D / 8).toNat).take (D / 8).toNat)) := by show atNum W H C D xs x y c = _; rw [atNum, hpl]
  obtain ⟨i1, i2, i3, i4, i5, i6⟩ := id hi
  have Hl := Lib.hid hrd.len
  rw [hr] at hpb
  clear hq hpl
  simp only [hn, decide_true] at hF
  simp only [hm] at hM
  simp only [hr] at hRo
  simp only [hsz] at hSi
  clear hm hs hb hi hr hsz
  go_enter Try.func7, Try.ntmps7
  go_wp2_with fail
  refine (first_any _).mono ?_; rintro e w1 ⟨rfl, hb1⟩
  have hb1' := below_size ((Below.refl _ _).alloc (Nat.le_refl _) _) hb1
  have hbx := (rbox_alloc w W H C D a n cap _).below hb1
  have c0 := hbx.box.c0; have c1 := hbx.box.c1; have c2 := hbx.box.c2; have c3 := hbx.box.c3; have c4 := hbx.c4
  clear hb1
  go_wp2_with fail
  refine (hF _).mono ?_; rintro e w2 ⟨rfl, hb2⟩
  have hbx2 := hbx.below hb2
  have hb2' := below_size hb1' hb2
  clear c0 c1 c2 c3 c4
  have c0 := hbx2.box.c0; have c1 := hbx2.box.c1; have c2 := hbx2.box.c2; have c3 := hbx2.box.c3; have c4 := hbx2.c4
  go_wp2_with fail
  refine (hM _).mono ?_; rintro e w3 ⟨rfl, hb3⟩
  have hb3' := below_size hb2' hb3
  have hbx3 := hbx2.below hb3
  have hl3 := hbx3.lt
  clear c0 c1 c2 c3 c4
  have c0 := hbx3.box.c0; have c1 := hbx3.box.c1; have c2 := hbx3.box.c2; have c3 := hbx3.box.c3; have c4 := hbx3.c4
  go_wp2_with fail
  refine (hAt _ (hrd.below (hb3'.alloc hb3'.size _))).mono ?_; rintro e w4 ⟨rfl, hb4⟩
  have hb4' := below_size (hb3'.alloc hb3'.size _) hb4
  have hby4 := (box_alloc w3 W H C D 23).below hb4
  have hbx4 := (hbx3.below ((Below.refl _ _).alloc (Nat.le_refl _) _)).below hb4
  clear c0 c1 c2 c3 c4
  go_wp2_with fail
  have d0 := fun z : GrownW w4 => z.cell hby4.lt hby4.c0
  have d1 := fun z : GrownW w4 => z.cell hby4.lt hby4.c1
  have d2 := fun z : GrownW w4 => z.cell hby4.lt hby4.c2
  have d3 := fun z : GrownW w4 => z.cell hby4.lt hby4.c3
  have c4 := fun z : GrownW w4 => z.cell hbx4.lt hbx4.c4
  refine wp_region_grow_lit (by kernel_rfl) (by kernel_rfl) ?_
  repeat (go_big_quiet_step (first
    | (go_at_call 20; exact grow_call (hRo _))
    | (go_at_call 22; exact grow_call (hSi _))))
  refine wpQuiet_nil ?_
  intro wg hw'
  obtain ⟨⟨wz, hbg⟩, hw''⟩ := hw'
  subst hw''
  have hbg' := below_size hb4' hbg
  have hbyg := hby4.below hbg
  have hbxg := hbx4.below hbg
  clear d0 d1 d2 d3 c4 hAt hF hM hSi
  have d0 := fun z : GrownW wg => z.cell hbyg.lt hbyg.c0
  have d1 := fun z : GrownW wg => z.cell hbyg.lt hbyg.c1
  have d2 := fun z : GrownW wg => z.cell hbyg.lt hbyg.c2
  have d3 := fun z : GrownW wg => z.cell hbyg.lt hbyg.c3
  have e0 := hbyg.c0; have e1 := hbyg.c1; have e2 := hbyg.c2; have e3 := hbyg.c3; have e4 := hbxg.c4
  go_wp2_with fail
  clear e0 e1 e2 e3 e4
  clear hbg
  refine wp_region_grow_lit (by kernel_rfl) (by kernel_rfl) ?_
  repeat (go_big_quiet_step ((go_at_call 20; exact grow_call (hRo _))))
  refine wpQuiet_nil ?_
  intro wg hw'
  obtain ⟨⟨wz, hbg⟩, hw''⟩ := hw'
  subst hw''
  have hbh' := below_size hbg' hbg
  have hbyh := hbyg.below hbg
  have hbxh := hbxg.below hbg
  clear d0 d1 d2 d3 hRo
  have e0 := hbyh.c0; have e1 := hbyh.c1; have e2 := hbyh.c2; have e3 := hbyh.c3; have e4 := hbxh.c4
  have hrh := hrd.below hbh'
  obtain ⟨p, hpp⟩ : ∃ p : Nat, y * (W * C * D / 8) + (x * C + c) * D / 8 = p := ⟨(y * (W * C * D / 8) + (x * C + c) * D / 8).toNat, by omega⟩
  rw [hpp] at HN hle ⊢
  generalize hat : atNum W H C D xs x y c = v at *
  clear hpp hat hrd hbx hbx2 hbx3 hbx4 hby4 hbyg hbxg hb1' hb2' hb3' hb4' hbg' hb2 hb3 hb4 hpb hy hns hSb hR1
  rcases hD with rfl | rfl
  · obtain ⟨b1, o1, rfl, t1⟩ := hrh.cellAt p (by omega)
    have x1 := hxb.get p (by have := Hl.out; omega)
    have HV : Hid (v = xs.getD p 0) := by
      show v = _
      rw [HN.out, show ((p : Int)).toNat = p from by omega, show ((8 : Int) / 8).toNat = 1 from by decide]
      exact rbig_one xs p (by have := Hl.out; omega)
    generalize xs.getD p 0 = z at *
    go_wp2_with fail
    refine (first_any _).mono ?_; rintro e w6 ⟨rfl, hb6⟩
    go_wp2
    go_ret
    exact ⟨ret_bool (by rw [HV.out]; simp), below_size hbh' hb6⟩
  · obtain ⟨b1, o1, rfl, t1⟩ := hrh.cellAt p (by omega)
    obtain ⟨b2, o2, e2', t2⟩ := hrh.cellAt (p + 1) (by omega)
    have x1 := hxb.get p (by have := Hl.out; omega)
    have x2 := hxb.get (p + 1) (by have := Hl.out; omega)
    have HV : Hid (v = xs.getD p 0 * 256 + xs.getD (p + 1) 0) := by
      show v = _
      rw [HN.out, show ((p : Int)).toNat = p from by omega, show ((16 : Int) / 8).toNat = 2 from by decide]
      exact rbig_two xs p (by have := Hl.out; omega)
    generalize xs.getD p 0 = z at *
    generalize xs.getD (p + 1) 0 = z2 at *
    obtain ⟨rfl, rfl⟩ : b1 = b2 ∧ o1 = o2 := by simpa using e2'
    go_wp2_with fail
    refine (first_any _).mono ?_; rintro e w6 ⟨rfl, hb6⟩
    go_wp2
    go_ret
    refine ⟨ret_bool ?_, below_size hbh' hb6⟩
    rw [HV.out]
    rw [or_join_i64 8 (z * 256) z2 (by omega) (by omega) (by omega) (by omega) (by omega) (by omega)]
    simp

theorem walk_PixRows (W H C D : Int) (a : Option Addr) (n cap : Nat) (xs : List Int) (wB : -9223372036854775808 ≤ H ∧ H ≤ 9223372036854775807) (x y c : Int) (w : World) (hrd : Reads .u8 w a n cap xs) (hxb : isB xs) :
    Calls Try.prog 7 #[ras W H C D a n cap, .int .i64 x, .int .i64 y, .int .i64 c] w fun e w' => e = .returned (.bool true) ∧ Below w.heap.size w w' := by
  by_cases hm : n ≤ 20000 ∧ mayR W H C D n = true
  · by_cases hi : InR W H C x y c
    · exact rows_in W H C D a n cap xs x y c w hrd hxb hm.2 hi
    · exact rows_out W H C D a n cap x y c w hm.2 hi
  · exact rows_not W H C D a n cap x y c w wB hm
end Go.Proofs.Ytdlmcjcdmjkhhaa
