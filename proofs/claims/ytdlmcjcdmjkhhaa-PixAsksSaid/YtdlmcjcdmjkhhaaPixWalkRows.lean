/-
  The walk of PixRows.
-/
import Derived.Test.YtdlmcjcdmjkhhaaPixFirst
import Derived.Test.YtdlmcjcdmjkhhaaAt
namespace Go.Proofs.Ytdlmcjcdmjkhhaa
open Go.RowKit

set_option maxRecDepth 100000 in
set_option maxHeartbeats 1000000 in
theorem rows_not (W H C D : Int) (a : Option Addr) (n cap : Nat) (x y c : Int) (w : World) (hH : -9223372036854775808 ≤ H ∧ H ≤ 9223372036854775807) (h : ¬ (n ≤ 20000 ∧ mayR W H C D n = true)) :
    Calls Try.prog 7 #[ras W H C D a n cap, .int .i64 x, .int .i64 y, .int .i64 c] w fun e w' => e = .returned (.bool true) ∧ Below w.heap.size w w' := by
  have hF := fun w' => few_any W H C D a n cap w'
  have hM := fun w' => may_any W H C D a n cap w' hH
  by_cases hn : n ≤ 20000
  · have hm : mayR W H C D n = false := by simpa [hn] using h
    simp only [hn, decide_true] at hF
    simp only [hm] at hM
    go_enter Try.func7, Try.ntmps7
    go_wp2_with fail
    refine (first_any _).mono ?_; rintro e w1 ⟨rfl, hb1⟩
    have hb1' := below_size ((Below.refl _ _).alloc (Nat.le_refl _) _) hb1
    have hbx := (rbox_alloc w W H C D a n cap _).below hb1
    have c0 := hbx.box.c0; have c1 := hbx.box.c1; have c2 := hbx.box.c2; have c3 := hbx.box.c3; have c4 := hbx.c4
    clear hb1
    go_wp2_with fail
    refine (hF _).mono ?_; rintro e w2 ⟨rfl, hb2⟩
    have hbx2 := hbx.below hb2
    have hb2' := below_size hb1' hb2
    clear c0 c1 c2 c3 c4
    have c0 := hbx2.box.c0; have c1 := hbx2.box.c1; have c2 := hbx2.box.c2; have c3 := hbx2.box.c3; have c4 := hbx2.c4
    go_wp2_with fail
    refine (hM _).mono ?_; rintro e w3 ⟨rfl, hb3⟩
    have hb3' := below_size hb2' hb3
    go_wp2_with fail
    refine (first_any _).mono ?_; rintro e w4 ⟨rfl, hb4⟩
    have hb4' := below_size hb3' hb4
    go_wp2
    go_ret
    exact ⟨rfl, hb4'⟩
  · simp only [hn, decide_false] at hF
    go_enter Try.func7, Try.ntmps7
    go_wp2_with fail
    refine (first_any _).mono ?_; rintro e w1 ⟨rfl, hb1⟩
    have hb1' := below_size ((Below.refl _ _).alloc (Nat.le_refl _) _) hb1
    have hbx := (rbox_alloc w W H C D a n cap _).below hb1
    have c0 := hbx.box.c0; have c1 := hbx.box.c1; have c2 := hbx.box.c2; have c3 := hbx.box.c3; have c4 := hbx.c4
    clear hb1
    go_wp2_with fail
    refine (hF _).mono ?_; rintro e w2 ⟨rfl, hb2⟩
    have hb2' := below_size hb1' hb2
    go_wp2_with fail
    refine (first_any _).mono ?_; rintro e w4 ⟨rfl, hb4⟩
    have hb4' := below_size hb2' hb4
    go_wp2
    go_ret
    exact ⟨rfl, hb4'⟩

theorem rbig_one (xs : List Int) (p : Nat) (h : p < xs.length) : rbig ((xs.drop p).take 1) = xs.getD p 0 := by
  have := sub_take xs p 0 (by omega)
  rw [this]; simp [rbig]
theorem rbig_two (xs : List Int) (p : Nat) (h : p + 1 < xs.length) : rbig ((xs.drop p).take 2) = xs.getD p 0 * 256 + xs.getD (p + 1) 0 := by
  have := sub_take xs p 1 (by omega)
  rw [this, rbig_snoc, rbig_one xs p (by omega)]

set_option maxRecDepth 100000 in
set_option maxHeartbeats 2000000 in
theorem rows_out (W H C D : Int) (a : Option Addr) (n cap : Nat) (x y c : Int) (w : World) (hm : mayR W H C D n = true) (hi : ¬ InR W H C x y c) :
    Calls Try.prog 7 #[ras W H C D a n cap, .int .i64 x, .int .i64 y, .int .i64 c] w fun e w' => e = .returned (.bool true) ∧ Below w.heap.size w w' := by
  have hb := (mayR_spec hm).1
  have hs := (mayR_spec hm).2
  have hW1 := hb.1; have hW2 := hb.2.1; have hH1 := hb.2.2.1; have hH2 := hb.2.2.2.1; have hC1 := hb.2.2.2.2.1; have hC2 := hb.2.2.2.2.2.1; have hD := hb.2.2.2.2.2.2
  have hH : -9223372036854775808 ≤ H ∧ H ≤ 9223372036854775807 := by omega
  have hn : n ≤ 20000 := by omega
  have hp := prod_bd ⟨hW1, hW2⟩ ⟨hC1, hC2⟩ hD
  have hr : rowN W H C D = W * C * D / 8 := by rw [rowN, if_pos hb]
  have hR1 : 1 ≤ W * C * D / 8 := by omega
  have hsz : sizeN W H C D = W * C * D / 8 * H := by rw [sizeN, hr]
  have hns : ((n : Int) != W * C * D / 8 * H) = false := by rw [← hsz]; simp; omega
  have hSb : 1 ≤ W * C * D / 8 * H ∧ W * C * D / 8 * H ≤ 16384 := by rw [← hsz]; have := size_bd W H C D hb; omega
  have hF := fun w' => few_any W H C D a n cap w'
  have hM := fun w' => may_any W H C D a n cap w' hH
  have hRo := fun w' => row_any W H C D w'
  have hSi := fun w' => size_any W H C D w' hH
  have hAt := fun w' => at_not W H C D a n cap x y c w' hH (by unfold atErr; rw [if_pos hm, if_neg hi]; decide)
  have he : atErr W H C D n x y c = 1 := by unfold atErr; rw [if_pos hm, if_neg hi]
  simp only [hn, decide_true] at hF
  simp only [hm] at hM
  simp only [hr] at hRo
  simp only [hsz] at hSi
  simp only [he] at hAt
  clear hm hs hb hi hr hsz he
  go_enter Try.func7, Try.ntmps7
  go_wp2_with fail
  refine (first_any _).mono ?_; rintro e w1 ⟨rfl, hb1⟩
  have hb1' := below_size ((Below.refl _ _).alloc (Nat.le_refl _) _) hb1
  have hbx := (rbox_alloc w W H C D a n cap _).below hb1
  have c0 := hbx.box.c0; have c1 := hbx.box.c1; have c2 := hbx.box.c2; have c3 := hbx.box.c3; have c4 := hbx.c4
  clear hb1
  go_wp2_with fail
  refine (hF _).mono ?_; rintro e w2 ⟨rfl, hb2⟩
  have hbx2 := hbx.below hb2
  have hb2' := below_size hb1' hb2
  clear c0 c1 c2 c3 c4
  have c0 := hbx2.box.c0; have c1 := hbx2.box.c1; have c2 := hbx2.box.c2; have c3 := hbx2.box.c3; have c4 := hbx2.c4
  go_wp2_with fail
  refine (hM _).mono ?_; rintro e w3 ⟨rfl, hb3⟩
  have hb3' := below_size hb2' hb3
  have hbx3 := hbx2.below hb3
  have hl3 := hbx3.lt
  clear c0 c1 c2 c3 c4
  have c0 := hbx3.box.c0; have c1 := hbx3.box.c1; have c2 := hbx3.box.c2; have c3 := hbx3.box.c3; have c4 := hbx3.c4
  go_wp2_with fail
  refine (hAt _).mono ?_; rintro e w4 ⟨rfl, hb4⟩
  have hb4' := below_size (hb3'.alloc hb3'.size _) hb4
  have hby4 := (box_alloc w3 W H C D 23).below hb4
  have hbx4 := (hbx3.below ((Below.refl _ _).alloc (Nat.le_refl _) _)).below hb4
  clear c0 c1 c2 c3 c4
  go_wp2_with fail
  have d0 := fun z : GrownW w4 => z.cell hby4.lt hby4.c0
  have d1 := fun z : GrownW w4 => z.cell hby4.lt hby4.c1
  have d2 := fun z : GrownW w4 => z.cell hby4.lt hby4.c2
  have d3 := fun z : GrownW w4 => z.cell hby4.lt hby4.c3
  have c4 := fun z : GrownW w4 => z.cell hbx4.lt hbx4.c4
  refine wp_region_grow_lit (by kernel_rfl) (by kernel_rfl) ?_
  repeat (go_big_quiet_step (first
    | (go_at_call 20; exact grow_call (hRo _))
    | (go_at_call 22; exact grow_call (hSi _))))
  refine wpQuiet_nil ?_
  intro wg hw'
  obtain ⟨⟨wz, hbg⟩, hw''⟩ := hw'
  subst hw''
  go_wp2_with fail
  refine (first_any _).mono ?_; rintro e w5 ⟨rfl, hb5⟩
  have hb5' := below_size (below_size hb4' hbg) hb5
  go_wp2
  go_ret
  exact ⟨rfl, hb5'⟩
end Go.Proofs.Ytdlmcjcdmjkhhaa
