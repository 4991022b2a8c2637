/-
  pix.place, pix.At.
-/
import Derived.Test.YtdmaoaclhaofbaaRaster
namespace Go.Proofs.Ytdmaoaclhaofbaa
open Go.RowKit

set_option maxHeartbeats 1000000 in
theorem place_not (W H C D : Int) (a : Option Addr) (n cap : Nat) (x y c : Int) (w : World) (hH : -9223372036854775808 ≤ H ∧ H ≤ 9223372036854775807) (hm : mayR W H C D n = false) :
    Calls Try.prog 34 #[ras W H C D a n cap, .int .i64 x, .int .i64 y, .int .i64 c] w fun e w' => e = .returned (.tuple #[.int .i64 0, .int .i64 4]) ∧ Below w.heap.size w w' := by
  go_enter Try.func34, Try.ntmps34
  go_wp2_with fail
  refine (may_any W H C D a n cap _ hH).mono ?_; rintro e w1 ⟨rfl, hb1⟩
  rw [hm]
  have hb1' := below_size ((Below.refl _ _).alloc (Nat.le_refl _) _) hb1
  go_wp2
  all_goals go_returns
  all_goals exact ⟨rfl, hb1'⟩

set_option maxHeartbeats 1000000 in
theorem place_out (W H C D : Int) (a : Option Addr) (n cap : Nat) (x y c : Int) (w : World) (hm : mayR W H C D n = true) (hi : ¬ InR W H C x y c) :
    Calls Try.prog 34 #[ras W H C D a n cap, .int .i64 x, .int .i64 y, .int .i64 c] w fun e w' => e = .returned (.tuple #[.int .i64 0, .int .i64 1]) ∧ Below w.heap.size w w' := by
  have hb := (mayR_spec hm).1
  have hW1 := hb.1; have hW2 := hb.2.1; have hH1 := hb.2.2.1; have hH2 := hb.2.2.2.1; have hC1 := hb.2.2.2.2.1; have hC2 := hb.2.2.2.2.2.1
  have hH : -9223372036854775808 ≤ H ∧ H ≤ 9223372036854775807 := by omega
  have HI := Lib.hid hi
  clear hi hb
  go_enter Try.func34, Try.ntmps34
  go_wp2_with fail
  refine (may_any W H C D a n cap _ hH).mono ?_; rintro e w1 ⟨rfl, hb1⟩
  rw [hm]
  clear hm
  have hb1' := below_size ((Below.refl _ _).alloc (Nat.le_refl _) _) hb1
  have hbx := (rbox_alloc w W H C D a n cap _).below hb1
  have hl1 := hbx.lt
  have c0 := hbx.box.c0; have c1 := hbx.box.c1; have c2 := hbx.box.c2; have c3 := hbx.box.c3; have c4 := hbx.c4
  clear hb1
  go_wp2
  all_goals first
    | (go_returns; exact ⟨rfl, hb1'.alloc hb1'.size _⟩)
    | (exfalso; exact HI.out ⟨by omega, by omega, by omega, by omega, by omega, by omega⟩)
    | trace_state

set_option maxHeartbeats 1000000 in
theorem place_yes (W H C D : Int) (a : Option Addr) (n cap : Nat) (x y c : Int) (w : World) (hm : mayR W H C D n = true) (hi : InR W H C x y c) :
    Calls Try.prog 34 #[ras W H C D a n cap, .int .i64 x, .int .i64 y, .int .i64 c] w fun e w' => e = .returned (.tuple #[.int .i64 (plAt W H C D x y c), .int .i64 0]) ∧ Below w.heap.size w w' := by
  have hb := (mayR_spec hm).1
  have hs := (mayR_spec hm).2
  have hp := plAt_bd hb hi
  have hq := plAt_in hb hi
  have hW1 := hb.1; have hW2 := hb.2.1; have hH1 := hb.2.2.1; have hH2 := hb.2.2.2.1; have hC1 := hb.2.2.2.2.1; have hC2 := hb.2.2.2.2.2.1; have hD := hb.2.2.2.2.2.2
  have hH : -9223372036854775808 ≤ H ∧ H ≤ 9223372036854775807 := by omega
  have hr := row_bd W H C D
  have HA : Hid (plAt W H C D x y c = y * rowN W H C D + (x * C + c) * D / 8) := rfl
  have hq2 : 0 ≤ y * rowN W H C D + (x * C + c) * D / 8 ∧ y * rowN W H C D + (x * C + c) * D / 8 ≤ 1000000 := by omega
  obtain ⟨i1, i2, i3, i4, i5, i6⟩ := hi
  generalize plAt W H C D x y c = pl at *
  clear hb
  go_enter Try.func34, Try.ntmps34
  go_wp2_with fail
  refine (may_any W H C D a n cap _ hH).mono ?_; rintro e w1 ⟨rfl, hb1⟩
  rw [hm]
  clear hm
  have hb1' := below_size ((Below.refl _ _).alloc (Nat.le_refl _) _) hb1
  have hbx := (rbox_alloc w W H C D a n cap _).below hb1
  have hl1 := hbx.lt
  have c0 := hbx.box.c0; have c1 := hbx.box.c1; have c2 := hbx.box.c2; have c3 := hbx.box.c3; have c4 := hbx.c4
  clear hb1
  go_wp2
  have hb0 := box_alloc w1 W H C D 23
  have hb2' : Below w.heap.size w (w1.alloc (.cells #[.int .i64 W, .int .i64 H, .int .i64 C, .int .i64 D] 23)) := hb1'.alloc hb1'.size _
  generalize w1.alloc (.cells #[.int .i64 W, .int .i64 H, .int .i64 C, .int .i64 D] 23) = w0 at *
  clear c0 c1 c2 c3 c4
  have c0 := fun x : GrownW w0 => x.cell hb0.lt hb0.c0
  have c1 := fun x : GrownW w0 => x.cell hb0.lt hb0.c1
  have c2 := fun x : GrownW w0 => x.cell hb0.lt hb0.c2
  have c3 := fun x : GrownW w0 => x.cell hb0.lt hb0.c3
  refine wp_region_grow_lit (by kernel_rfl) (by kernel_rfl) ?_
  repeat (go_big_quiet_step ((go_at_call 38; exact grow_call (row_any W H C D _))))
  refine wpQuiet_nil ?_
  intro wg hw'
  obtain ⟨⟨wz, hbg⟩, hw''⟩ := hw'
  subst hw''
  go_wp2
  go_returns
  refine ⟨?_, below_size hb2' hbg⟩
  rw [HA.out]
  rfl
end Go.Proofs.Ytdmaoaclhaofbaa
