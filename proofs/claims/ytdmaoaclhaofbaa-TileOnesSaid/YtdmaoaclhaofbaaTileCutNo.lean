/-
  Both Cuts of a picture that may not be; the statements' first function of chapter 10.
-/
import Derived.Test.YtdmaoaclhaofbaaShapeRef
namespace Go.Proofs.Ytdmaoaclhaofbaa
open Go.RowKit

set_option maxHeartbeats 400000 in
theorem cut_no (W H C D : Int) (a : Option Addr) (n cap : Nat) (w : World) (hH : -9223372036854775808 ≤ H ∧ H ≤ 9223372036854775807) (hm : mayR W H C D n = false) :
    Calls Try.prog 13 #[ras W H C D a n cap] w fun e w' => e = .returned (.tuple #[.slice Option.none 0 0, .int .i64 4]) ∧ Below w.heap.size w w' := by
  have cm := fun w' => may_any W H C D a n cap w' hH
  rw [hm] at cm
  have hb0 := rbox_alloc w W H C D a n cap 26
  have hbl : Below w.heap.size w (w.alloc (.cells #[.int .i64 W, .int .i64 H, .int .i64 C, .int .i64 D, .slice a n cap] 26)) := (Below.refl _ _).alloc (Nat.le_refl _) _
  have HM := Lib.hid cm; have HL := Lib.hid hbl
  have c0 := hb0.box.c0; have c1 := hb0.box.c1; have c2 := hb0.box.c2; have c3 := hb0.box.c3; have c4 := hb0.c4
  clear hb0 hbl hm cm
  go_enter Try.func13, Try.ntmps13
  go_wp2_with fail
  refine (HM.out _).mono ?_; rintro e w1 ⟨rfl, bb⟩
  clear c0 c1 c2 c3 c4
  go_wp2_with fail
  go_ret2
  exact ⟨rfl, below_size HL.out bb⟩

set_option maxHeartbeats 400000 in
theorem rcut_no (W H C D : Int) (a : Option Addr) (n cap : Nat) (w : World) (hH : -9223372036854775808 ≤ H ∧ H ≤ 9223372036854775807) (hm : mayR W H C D n = false) :
    Calls Try.prog 14 #[ras W H C D a n cap] w fun e w' => e = .returned (.tuple #[.slice Option.none 0 0, .int .i64 4]) ∧ Below w.heap.size w w' := by
  have cm := fun w' => rmay_any W H C D a n cap w' hH
  rw [hm] at cm
  have hb0 := rbox_alloc w W H C D a n cap 26
  have hbl : Below w.heap.size w (w.alloc (.cells #[.int .i64 W, .int .i64 H, .int .i64 C, .int .i64 D, .slice a n cap] 26)) := (Below.refl _ _).alloc (Nat.le_refl _) _
  have HM := Lib.hid cm; have HL := Lib.hid hbl
  have c0 := hb0.box.c0; have c1 := hb0.box.c1; have c2 := hb0.box.c2; have c3 := hb0.box.c3; have c4 := hb0.c4
  clear hb0 hbl hm cm
  go_enter Try.func14, Try.ntmps14
  go_wp2_with fail
  refine (HM.out _).mono ?_; rintro e w1 ⟨rfl, bb⟩
  clear c0 c1 c2 c3 c4
  go_wp2_with fail
  go_ret2
  exact ⟨rfl, below_size HL.out bb⟩
end Go.Proofs.Ytdmaoaclhaofbaa
