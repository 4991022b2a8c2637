/-
  The walk of TileOnes.
-/
import Derived.Test.YtdmaoaclhaofbaaTileOnesPure
namespace Go.Proofs.Ytdmaoaclhaofbaa
open Go.RowKit

set_option maxRecDepth 100000 in
set_option maxHeartbeats 4000000 in
theorem ones_f1 (W H C D : Int) (a : Option Addr) (n cap : Nat) (xs : List Int) (W2 H2 C2 D2 : Int) (b : Option Addr) (m cb : Nat) (ys : List Int) (at_ : Int) (w : World) (hr : Reads .u8 w a n cap xs) (hx : isB xs) (hs : Reads .u8 w b m cb ys) (hy : isB ys) (hH : -9223372036854775808 ≤ H ∧ H ≤ 9223372036854775807) (hH2 : -9223372036854775808 ≤ H2 ∧ H2 ≤ 9223372036854775807) (h1 : ¬ n ≤ 20000) :
    Calls Try.prog 6 #[ras W H C D a n cap, ras W2 H2 C2 D2 b m cb, .int .i64 at_] w fun e w' => e = .returned (.bool true) ∧ Below w.heap.size w w' := by
  have hF := fun w' => few_any W H C D a n cap w'
  simp only [h1, decide_false] at hF
  have HF := Lib.hid hF
  clear hF hr hs h1
  have bl : Below w.heap.size w ((w.alloc (.cells #[.int .i64 W, .int .i64 H, .int .i64 C, .int .i64 D, .slice a n cap] 26)).alloc (.cells #[.int .i64 W2, .int .i64 H2, .int .i64 C2, .int .i64 D2, .slice b m cb] 26)) := ((Below.refl _ _).alloc (Nat.le_refl _) _).alloc (by simp) _
  have bx := Lib.hid ((rbox_alloc w W H C D a n cap 26).below ((Below.refl _ _).alloc (Nat.le_refl _) (.cells #[.int .i64 W2, .int .i64 H2, .int .i64 C2, .int .i64 D2, .slice b m cb] 26)))
  have bs0 := rbox_alloc (w.alloc (.cells #[.int .i64 W, .int .i64 H, .int .i64 C, .int .i64 D, .slice a n cap] 26)) W2 H2 C2 D2 b m cb 26
  rw [World.size_alloc] at bs0
  have bs := Lib.hid bs0
  have B := Lib.hid bl
  go_enter Try.func6, Try.ntmps6
  go_wp2_with fail
  generalize ((w.alloc (.cells #[.int .i64 W, .int .i64 H, .int .i64 C, .int .i64 D, .slice a n cap] 26)).alloc (.cells #[.int .i64 W2, .int .i64 H2, .int .i64 C2, .int .i64 D2, .slice b m cb] 26)) = v0 at *
  clear bl bs0
  refine (first_any _).mono ?_; rintro e w1 ⟨rfl, bb⟩
  replace B := Lib.hid (below_size B.out bb)
  replace bx := Lib.hid (bx.out.below bb)
  replace bs := Lib.hid (bs.out.below bb)
  clear bb
  have c0 := bx.out.box.c0; have c1 := bx.out.box.c1; have c2 := bx.out.box.c2; have c3 := bx.out.box.c3; have c4 := bx.out.c4
  go_wp2_with fail
  clear c0 c1 c2 c3 c4
  refine (HF.out _).mono ?_; rintro e w2 ⟨rfl, bb⟩
  replace B := Lib.hid (below_size B.out bb)
  replace bx := Lib.hid (bx.out.below bb)
  replace bs := Lib.hid (bs.out.below bb)
  clear bb
  go_wp2_with fail
  refine (first_any _).mono ?_; rintro e w3 ⟨rfl, bb⟩
  replace B := Lib.hid (below_size B.out bb)
  replace bx := Lib.hid (bx.out.below bb)
  replace bs := Lib.hid (bs.out.below bb)
  clear bb
  go_wp2_with fail
  go_ret
  exact ⟨rfl, B.out⟩

set_option maxRecDepth 100000 in
set_option maxHeartbeats 4000000 in
theorem ones_f2 (W H C D : Int) (a : Option Addr) (n cap : Nat) (xs : List Int) (W2 H2 C2 D2 : Int) (b : Option Addr) (m cb : Nat) (ys : List Int) (at_ : Int) (w : World) (hr : Reads .u8 w a n cap xs) (hx : isB xs) (hs : Reads .u8 w b m cb ys) (hy : isB ys) (hH : -9223372036854775808 ≤ H ∧ H ≤ 9223372036854775807) (hH2 : -9223372036854775808 ≤ H2 ∧ H2 ≤ 9223372036854775807) (h1 : n ≤ 20000) (h2 : ¬ m ≤ 20000) :
    Calls Try.prog 6 #[ras W H C D a n cap, ras W2 H2 C2 D2 b m cb, .int .i64 at_] w fun e w' => e = .returned (.bool true) ∧ Below w.heap.size w w' := by
  have hF := fun w' => few_any W H C D a n cap w'
  simp only [h1, decide_true] at hF
  have HF := Lib.hid hF
  have hG := fun w' => few_any W2 H2 C2 D2 b m cb w'
  simp only [h2, decide_false] at hG
  have HG := Lib.hid hG
  clear hF hG hr hs h1 h2
  have bl : Below w.heap.size w ((w.alloc (.cells #[.int .i64 W, .int .i64 H, .int .i64 C, .int .i64 D, .slice a n cap] 26)).alloc (.cells #[.int .i64 W2, .int .i64 H2, .int .i64 C2, .int .i64 D2, .slice b m cb] 26)) := ((Below.refl _ _).alloc (Nat.le_refl _) _).alloc (by simp) _
  have bx := Lib.hid ((rbox_alloc w W H C D a n cap 26).below ((Below.refl _ _).alloc (Nat.le_refl _) (.cells #[.int .i64 W2, .int .i64 H2, .int .i64 C2, .int .i64 D2, .slice b m cb] 26)))
  have bs0 := rbox_alloc (w.alloc (.cells #[.int .i64 W, .int .i64 H, .int .i64 C, .int .i64 D, .slice a n cap] 26)) W2 H2 C2 D2 b m cb 26
  rw [World.size_alloc] at bs0
  have bs := Lib.hid bs0
  have B := Lib.hid bl
  go_enter Try.func6, Try.ntmps6
  go_wp2_with fail
  generalize ((w.alloc (.cells #[.int .i64 W, .int .i64 H, .int .i64 C, .int .i64 D, .slice a n cap] 26)).alloc (.cells #[.int .i64 W2, .int .i64 H2, .int .i64 C2, .int .i64 D2, .slice b m cb] 26)) = v0 at *
  clear bl bs0
  refine (first_any _).mono ?_; rintro e w1 ⟨rfl, bb⟩
  replace B := Lib.hid (below_size B.out bb)
  replace bx := Lib.hid (bx.out.below bb)
  replace bs := Lib.hid (bs.out.below bb)
  clear bb
  have c0 := bx.out.box.c0; have c1 := bx.out.box.c1; have c2 := bx.out.box.c2; have c3 := bx.out.box.c3; have c4 := bx.out.c4
  go_wp2_with fail
  clear c0 c1 c2 c3 c4
  refine (HF.out _).mono ?_; rintro e w2 ⟨rfl, bb⟩
  replace B := Lib.hid (below_size B.out bb)
  replace bx := Lib.hid (bx.out.below bb)
  replace bs := Lib.hid (bs.out.below bb)
  clear bb
  have c0 := bs.out.box.c0; have c1 := bs.out.box.c1; have c2 := bs.out.box.c2; have c3 := bs.out.box.c3; have c4 := bs.out.c4
  go_wp2_with fail
  clear c0 c1 c2 c3 c4
  refine (HG.out _).mono ?_; rintro e w3 ⟨rfl, bb⟩
  replace B := Lib.hid (below_size B.out bb)
  replace bx := Lib.hid (bx.out.below bb)
  replace bs := Lib.hid (bs.out.below bb)
  clear bb
  go_wp2_with fail
  refine (first_any _).mono ?_; rintro e w4 ⟨rfl, bb⟩
  replace B := Lib.hid (below_size B.out bb)
  replace bx := Lib.hid (bx.out.below bb)
  replace bs := Lib.hid (bs.out.below bb)
  clear bb
  go_wp2_with fail
  go_ret
  exact ⟨rfl, B.out⟩

set_option maxRecDepth 100000 in
set_option maxHeartbeats 4000000 in
theorem ones_f3 (W H C D : Int) (a : Option Addr) (n cap : Nat) (xs : List Int) (W2 H2 C2 D2 : Int) (b : Option Addr) (m cb : Nat) (ys : List Int) (at_ : Int) (w : World) (hr : Reads .u8 w a n cap xs) (hx : isB xs) (hs : Reads .u8 w b m cb ys) (hy : isB ys) (hH : -9223372036854775808 ≤ H ∧ H ≤ 9223372036854775807) (hH2 : -9223372036854775808 ≤ H2 ∧ H2 ≤ 9223372036854775807) (h1 : n ≤ 20000) (h2 : m ≤ 20000) (hm : mayR W H C D n = false) :
    Calls Try.prog 6 #[ras W H C D a n cap, ras W2 H2 C2 D2 b m cb, .int .i64 at_] w fun e w' => e = .returned (.bool true) ∧ Below w.heap.size w w' := by
  have hF := fun w' => few_any W H C D a n cap w'
  simp only [h1, decide_true] at hF
  have HF := Lib.hid hF
  have hG := fun w' => few_any W2 H2 C2 D2 b m cb w'
  simp only [h2, decide_true] at hG
  have HG := Lib.hid hG
  have hM := fun w' => may_any W H C D a n cap w' hH
  rw [hm] at hM
  have HM := Lib.hid hM
  clear hF hG hM hr hs h1 h2 hm
  have bl : Below w.heap.size w ((w.alloc (.cells #[.int .i64 W, .int .i64 H, .int .i64 C, .int .i64 D, .slice a n cap] 26)).alloc (.cells #[.int .i64 W2, .int .i64 H2, .int .i64 C2, .int .i64 D2, .slice b m cb] 26)) := ((Below.refl _ _).alloc (Nat.le_refl _) _).alloc (by simp) _
  have bx := Lib.hid ((rbox_alloc w W H C D a n cap 26).below ((Below.refl _ _).alloc (Nat.le_refl _) (.cells #[.int .i64 W2, .int .i64 H2, .int .i64 C2, .int .i64 D2, .slice b m cb] 26)))
  have bs0 := rbox_alloc (w.alloc (.cells #[.int .i64 W, .int .i64 H, .int .i64 C, .int .i64 D, .slice a n cap] 26)) W2 H2 C2 D2 b m cb 26
  rw [World.size_alloc] at bs0
  have bs := Lib.hid bs0
  have B := Lib.hid bl
  go_enter Try.func6, Try.ntmps6
  go_wp2_with fail
  generalize ((w.alloc (.cells #[.int .i64 W, .int .i64 H, .int .i64 C, .int .i64 D, .slice a n cap] 26)).alloc (.cells #[.int .i64 W2, .int .i64 H2, .int .i64 C2, .int .i64 D2, .slice b m cb] 26)) = v0 at *
  clear bl bs0
  refine (first_any _).mono ?_; rintro e w1 ⟨rfl, bb⟩
  replace B := Lib.hid (below_size B.out bb)
  replace bx := Lib.hid (bx.out.below bb)
  replace bs := Lib.hid (bs.out.below bb)
  clear bb
  have c0 := bx.out.box.c0; have c1 := bx.out.box.c1; have c2 := bx.out.box.c2; have c3 := bx.out.box.c3; have c4 := bx.out.c4
  go_wp2_with fail
  clear c0 c1 c2 c3 c4
  refine (HF.out _).mono ?_; rintro e w2 ⟨rfl, bb⟩
  replace B := Lib.hid (below_size B.out bb)
  replace bx := Lib.hid (bx.out.below bb)
  replace bs := Lib.hid (bs.out.below bb)
  clear bb
  have c0 := bs.out.box.c0; have c1 := bs.out.box.c1; have c2 := bs.out.box.c2; have c3 := bs.out.box.c3; have c4 := bs.out.c4
  go_wp2_with fail
  clear c0 c1 c2 c3 c4
  refine (HG.out _).mono ?_; rintro e w3 ⟨rfl, bb⟩
  replace B := Lib.hid (below_size B.out bb)
  replace bx := Lib.hid (bx.out.below bb)
  replace bs := Lib.hid (bs.out.below bb)
  clear bb
  have c0 := bx.out.box.c0; have c1 := bx.out.box.c1; have c2 := bx.out.box.c2; have c3 := bx.out.box.c3; have c4 := bx.out.c4
  go_wp2_with fail
  clear c0 c1 c2 c3 c4
  refine (HM.out _).mono ?_; rintro e w4 ⟨rfl, bb⟩
  replace B := Lib.hid (below_size B.out bb)
  replace bx := Lib.hid (bx.out.below bb)
  replace bs := Lib.hid (bs.out.below bb)
  clear bb
  go_wp2_with fail
  refine (first_any _).mono ?_; rintro e w5 ⟨rfl, bb⟩
  replace B := Lib.hid (below_size B.out bb)
  replace bx := Lib.hid (bx.out.below bb)
  replace bs := Lib.hid (bs.out.below bb)
  clear bb
  go_wp2_with fail
  go_ret
  exact ⟨rfl, B.out⟩

set_option maxRecDepth 100000 in
set_option maxHeartbeats 4000000 in
theorem ones_f4 (W H C D : Int) (a : Option Addr) (n cap : Nat) (xs : List Int) (W2 H2 C2 D2 : Int) (b : Option Addr) (m cb : Nat) (ys : List Int) (at_ : Int) (w : World) (hr : Reads .u8 w a n cap xs) (hx : isB xs) (hs : Reads .u8 w b m cb ys) (hy : isB ys) (hH : -9223372036854775808 ≤ H ∧ H ≤ 9223372036854775807) (hH2 : -9223372036854775808 ≤ H2 ∧ H2 ≤ 9223372036854775807) (h1 : n ≤ 20000) (h2 : m ≤ 20000) (hm : mayR W H C D n = true) (hm2 : mayR W2 H2 C2 D2 m = false) :
    Calls Try.prog 6 #[ras W H C D a n cap, ras W2 H2 C2 D2 b m cb, .int .i64 at_] w fun e w' => e = .returned (.bool true) ∧ Below w.heap.size w w' := by
  have hF := fun w' => few_any W H C D a n cap w'
  simp only [h1, decide_true] at hF
  have HF := Lib.hid hF
  have hG := fun w' => few_any W2 H2 C2 D2 b m cb w'
  simp only [h2, decide_true] at hG
  have HG := Lib.hid hG
  have hM := fun w' => may_any W H C D a n cap w' hH
  rw [hm] at hM
  have HM := Lib.hid hM
  have hM2 := fun w' => may_any W2 H2 C2 D2 b m cb w' hH2
  rw [hm2] at hM2
  have HM2 := Lib.hid hM2
  clear hF hG hM hM2 hr hs h1 h2 hm hm2
  have bl : Below w.heap.size w ((w.alloc (.cells #[.int .i64 W, .int .i64 H, .int .i64 C, .int .i64 D, .slice a n cap] 26)).alloc (.cells #[.int .i64 W2, .int .i64 H2, .int .i64 C2, .int .i64 D2, .slice b m cb] 26)) := ((Below.refl _ _).alloc (Nat.le_refl _) _).alloc (by simp) _
  have bx := Lib.hid ((rbox_alloc w W H C D a n cap 26).below ((Below.refl _ _).alloc (Nat.le_refl _) (.cells #[.int .i64 W2, .int .i64 H2, .int .i64 C2, .int .i64 D2, .slice b m cb] 26)))
  have bs0 := rbox_alloc (w.alloc (.cells #[.int .i64 W, .int .i64 H, .int .i64 C, .int .i64 D, .slice a n cap] 26)) W2 H2 C2 D2 b m cb 26
  rw [World.size_alloc] at bs0
  have bs := Lib.hid bs0
  have B := Lib.hid bl
  go_enter Try.func6, Try.ntmps6
  go_wp2_with fail
  generalize ((w.alloc (.cells #[.int .i64 W, .int .i64 H, .int .i64 C, .int .i64 D, .slice a n cap] 26)).alloc (.cells #[.int .i64 W2, .int .i64 H2, .int .i64 C2, .int .i64 D2, .slice b m cb] 26)) = v0 at *
  clear bl bs0
  refine (first_any _).mono ?_; rintro e w1 ⟨rfl, bb⟩
  replace B := Lib.hid (below_size B.out bb)
  replace bx := Lib.hid (bx.out.below bb)
  replace bs := Lib.hid (bs.out.below bb)
  clear bb
  have c0 := bx.out.box.c0; have c1 := bx.out.box.c1; have c2 := bx.out.box.c2; have c3 := bx.out.box.c3; have c4 := bx.out.c4
  go_wp2_with fail
  clear c0 c1 c2 c3 c4
  refine (HF.out _).mono ?_; rintro e w2 ⟨rfl, bb⟩
  replace B := Lib.hid (below_size B.out bb)
  replace bx := Lib.hid (bx.out.below bb)
  replace bs := Lib.hid (bs.out.below bb)
  clear bb
  have c0 := bs.out.box.c0; have c1 := bs.out.box.c1; have c2 := bs.out.box.c2; have c3 := bs.out.box.c3; have c4 := bs.out.c4
  go_wp2_with fail
  clear c0 c1 c2 c3 c4
  refine (HG.out _).mono ?_; rintro e w3 ⟨rfl, bb⟩
  replace B := Lib.hid (below_size B.out bb)
  replace bx := Lib.hid (bx.out.below bb)
  replace bs := Lib.hid (bs.out.below bb)
  clear bb
  have c0 := bx.out.box.c0; have c1 := bx.out.box.c1; have c2 := bx.out.box.c2; have c3 := bx.out.box.c3; have c4 := bx.out.c4
  go_wp2_with fail
  clear c0 c1 c2 c3 c4
  refine (HM.out _).mono ?_; rintro e w4 ⟨rfl, bb⟩
  replace B := Lib.hid (below_size B.out bb)
  replace bx := Lib.hid (bx.out.below bb)
  replace bs := Lib.hid (bs.out.below bb)
  clear bb
  have c0 := bs.out.box.c0; have c1 := bs.out.box.c1; have c2 := bs.out.box.c2; have c3 := bs.out.box.c3; have c4 := bs.out.c4
  go_wp2_with fail
  clear c0 c1 c2 c3 c4
  refine (HM2.out _).mono ?_; rintro e w5 ⟨rfl, bb⟩
  replace B := Lib.hid (below_size B.out bb)
  replace bx := Lib.hid (bx.out.below bb)
  replace bs := Lib.hid (bs.out.below bb)
  clear bb
  go_wp2_with fail
  refine (first_any _).mono ?_; rintro e w6 ⟨rfl, bb⟩
  replace B := Lib.hid (below_size B.out bb)
  replace bx := Lib.hid (bx.out.below bb)
  replace bs := Lib.hid (bs.out.below bb)
  clear bb
  go_wp2_with fail
  go_ret
  exact ⟨rfl, B.out⟩

set_option maxRecDepth 100000 in
set_option maxHeartbeats 4000000 in
theorem ones_f5 (W H C D : Int) (a : Option Addr) (n cap : Nat) (xs : List Int) (W2 H2 C2 D2 : Int) (b : Option Addr) (m cb : Nat) (ys : List Int) (at_ : Int) (w : World) (hr : Reads .u8 w a n cap xs) (hx : isB xs) (hs : Reads .u8 w b m cb ys) (hy : isB ys) (hH : -9223372036854775808 ≤ H ∧ H ≤ 9223372036854775807) (hH2 : -9223372036854775808 ≤ H2 ∧ H2 ≤ 9223372036854775807) (h1 : n ≤ 20000) (h2 : m ≤ 20000) (hm : mayR W H C D n = true) (hm2 : mayR W2 H2 C2 D2 m = true) (he : decide (eqS W H C D W2 H2 C2 D2) = false) :
    Calls Try.prog 6 #[ras W H C D a n cap, ras W2 H2 C2 D2 b m cb, .int .i64 at_] w fun e w' => e = .returned (.bool true) ∧ Below w.heap.size w w' := by
  have hF := fun w' => few_any W H C D a n cap w'
  simp only [h1, decide_true] at hF
  have HF := Lib.hid hF
  have hG := fun w' => few_any W2 H2 C2 D2 b m cb w'
  simp only [h2, decide_true] at hG
  have HG := Lib.hid hG
  have hM := fun w' => may_any W H C D a n cap w' hH
  rw [hm] at hM
  have HM := Lib.hid hM
  have hM2 := fun w' => may_any W2 H2 C2 D2 b m cb w' hH2
  rw [hm2] at hM2
  have HM2 := Lib.hid hM2
  have hE := fun w' => eqShape_any W H C D W2 H2 C2 D2 w'
  rw [he] at hE
  have HE := Lib.hid hE
  clear hF hG hM hM2 hE hr hs h1 h2 hm hm2 he
  have bl : Below w.heap.size w ((w.alloc (.cells #[.int .i64 W, .int .i64 H, .int .i64 C, .int .i64 D, .slice a n cap] 26)).alloc (.cells #[.int .i64 W2, .int .i64 H2, .int .i64 C2, .int .i64 D2, .slice b m cb] 26)) := ((Below.refl _ _).alloc (Nat.le_refl _) _).alloc (by simp) _
  have bx := Lib.hid ((rbox_alloc w W H C D a n cap 26).below ((Below.refl _ _).alloc (Nat.le_refl _) (.cells #[.int .i64 W2, .int .i64 H2, .int .i64 C2, .int .i64 D2, .slice b m cb] 26)))
  have bs0 := rbox_alloc (w.alloc (.cells #[.int .i64 W, .int .i64 H, .int .i64 C, .int .i64 D, .slice a n cap] 26)) W2 H2 C2 D2 b m cb 26
  rw [World.size_alloc] at bs0
  have bs := Lib.hid bs0
  have B := Lib.hid bl
  go_enter Try.func6, Try.ntmps6
  go_wp2_with fail
  generalize ((w.alloc (.cells #[.int .i64 W, .int .i64 H, .int .i64 C, .int .i64 D, .slice a n cap] 26)).alloc (.cells #[.int .i64 W2, .int .i64 H2, .int .i64 C2, .int .i64 D2, .slice b m cb] 26)) = v0 at *
  clear bl bs0
  refine (first_any _).mono ?_; rintro e w1 ⟨rfl, bb⟩
  replace B := Lib.hid (below_size B.out bb)
  replace bx := Lib.hid (bx.out.below bb)
  replace bs := Lib.hid (bs.out.below bb)
  clear bb
  have c0 := bx.out.box.c0; have c1 := bx.out.box.c1; have c2 := bx.out.box.c2; have c3 := bx.out.box.c3; have c4 := bx.out.c4
  go_wp2_with fail
  clear c0 c1 c2 c3 c4
  refine (HF.out _).mono ?_; rintro e w2 ⟨rfl, bb⟩
  replace B := Lib.hid (below_size B.out bb)
  replace bx := Lib.hid (bx.out.below bb)
  replace bs := Lib.hid (bs.out.below bb)
  clear bb
  have c0 := bs.out.box.c0; have c1 := bs.out.box.c1; have c2 := bs.out.box.c2; have c3 := bs.out.box.c3; have c4 := bs.out.c4
  go_wp2_with fail
  clear c0 c1 c2 c3 c4
  refine (HG.out _).mono ?_; rintro e w3 ⟨rfl, bb⟩
  replace B := Lib.hid (below_size B.out bb)
  replace bx := Lib.hid (bx.out.below bb)
  replace bs := Lib.hid (bs.out.below bb)
  clear bb
  have c0 := bx.out.box.c0; have c1 := bx.out.box.c1; have c2 := bx.out.box.c2; have c3 := bx.out.box.c3; have c4 := bx.out.c4
  go_wp2_with fail
  clear c0 c1 c2 c3 c4
  refine (HM.out _).mono ?_; rintro e w4 ⟨rfl, bb⟩
  replace B := Lib.hid (below_size B.out bb)
  replace bx := Lib.hid (bx.out.below bb)
  replace bs := Lib.hid (bs.out.below bb)
  clear bb
  have c0 := bs.out.box.c0; have c1 := bs.out.box.c1; have c2 := bs.out.box.c2; have c3 := bs.out.box.c3; have c4 := bs.out.c4
  go_wp2_with fail
  clear c0 c1 c2 c3 c4
  refine (HM2.out _).mono ?_; rintro e w5 ⟨rfl, bb⟩
  replace B := Lib.hid (below_size B.out bb)
  replace bx := Lib.hid (bx.out.below bb)
  replace bs := Lib.hid (bs.out.below bb)
  clear bb
  have c0 := bx.out.box.c0; have c1 := bx.out.box.c1; have c2 := bx.out.box.c2; have c3 := bx.out.box.c3; have c4 := bx.out.c4
  have d0 := bs.out.box.c0; have d1 := bs.out.box.c1; have d2 := bs.out.box.c2; have d3 := bs.out.box.c3; have d4 := bs.out.c4
  go_wp2_with fail
  clear c0 c1 c2 c3 c4
  clear d0 d1 d2 d3 d4
  refine (HE.out _).mono ?_; rintro e w6 ⟨rfl, bb⟩
  replace B := Lib.hid (below_size B.out bb)
  replace bx := Lib.hid (bx.out.below bb)
  replace bs := Lib.hid (bs.out.below bb)
  clear bb
  go_wp2_with fail
  refine (first_any _).mono ?_; rintro e w7 ⟨rfl, bb⟩
  replace B := Lib.hid (below_size B.out bb)
  replace bx := Lib.hid (bx.out.below bb)
  replace bs := Lib.hid (bs.out.below bb)
  clear bb
  go_wp2_with fail
  go_ret
  exact ⟨rfl, B.out⟩

set_option maxRecDepth 100000 in
set_option maxHeartbeats 16000000 in
theorem ones_yes (W H C D : Int) (b off n cap : Nat) (xs : List Int) (b2 off2 cb : Nat) (ys : List Int) (at_ : Int) (w : World) (hr : Reads .u8 w (some ⟨b, off, Option.none⟩) n cap xs) (hx : isB xs) (hs : Reads .u8 w (some ⟨b2, off2, Option.none⟩) n cb ys) (hy : isB ys) (hat : -9223372036854775808 ≤ at_ ∧ at_ ≤ 9223372036854775807) (h1 : n ≤ 20000) (hm : mayR W H C D n = true) :
    Calls Try.prog 6 #[ras W H C D (some ⟨b, off, Option.none⟩) n cap, ras W H C D (some ⟨b2, off2, Option.none⟩) n cb, .int .i64 at_] w fun e w' => e = .returned (.bool true) ∧ Below w.heap.size w w' := by
  have hH : -9223372036854775808 ≤ H ∧ H ≤ 9223372036854775807 := by have := (mayR_spec hm).1; have h1 := this.2.2.1; have h2 := this.2.2.2.1; omega
  have hF := fun w' => few_any W H C D (some ⟨b, off, Option.none⟩) n cap w'
  simp only [h1, decide_true] at hF
  have HF := Lib.hid hF
  have hG := fun w' => few_any W H C D (some ⟨b2, off2, Option.none⟩) n cb w'
  simp only [h1, decide_true] at hG
  have HG := Lib.hid hG
  have hM := fun w' => may_any W H C D (some ⟨b, off, Option.none⟩) n cap w' hH
  rw [hm] at hM
  have HM := Lib.hid hM
  have hM2 := fun w' => may_any W H C D (some ⟨b2, off2, Option.none⟩) n cb w' hH
  rw [hm] at hM2
  have HM2 := Lib.hid hM2
  have hE := fun w' => eqShape_any W H C D W H C D w'
  have he : decide (eqS W H C D W H C D) = true := by simp [eqS]
  rw [he] at hE
  have HE := Lib.hid hE
  have CX := Lib.hid (fun (p q k : Nat) (w' : World) hr' => cut_yes W H C D p q n k xs w' hm hr')
  have CY := Lib.hid (fun (p q k : Nat) (w' : World) hr' => cut_yes W H C D p q n k ys w' hm hr')
  obtain ⟨_, _, _, hN1, hN2⟩ := tN_bd (mayR_spec hm).1
  have hn1 : 0 < n := by
    obtain ⟨hbn, _, hns⟩ := mayR_spec hm
    have h1 := row_pos hbn
    have h2 : 0 < rowN W H C D * H := Int.mul_pos (by omega) (by have := hbn.2.2.1; omega)
    unfold sizeN at hns
    omega
  have HLX := Lib.hid hr.len; have HLY := Lib.hid hs.len
  have hXB := Lib.hid hx; have hYB := Lib.hid hy
  have HMR := Lib.hid hm
  have TL := Lib.hid (fun (zs : List Int) => tils_len W H C D zs (tN W H))
  have TB := Lib.hid (fun (zs : List Int) (hz : isB zs) => tils_isB (W := W) (H := H) (C := C) (D := D) hz (tN W H))
  have TH := Lib.hid (fun (zs : List Int) => tils_H (C := C) (D := D) (xs := zs) hm)
  have TG := Lib.hid (fun (zs : List Int) (i : Nat) (hi : i < tN W H) => tils_getD (W := W) (H := H) (C := C) (D := D) (xs := zs) hi)
  have TP := Lib.hid (fun (zs : List Int) (hz : isB zs) (i : Nat) => show isB (tilP W H C D zs i) from rowsB_isB hz _ _ _ _ _)
  have DN := Lib.hid (dif_none (W := W) (H := H) (C := C) (D := D) (xs := xs) (ys := ys) hm hr.len hs.len)
  have DM := Lib.hid (fun (k : Nat) hk hd => dif_mix (W := W) (H := H) (C := C) (D := D) (k := k) (xs := xs) (ys := ys) hm hr.len hs.len hk hd)
  have MT := Lib.hid (fun (k : Nat) hk => mixT_tils (W := W) (H := H) (C := C) (D := D) (k := k) (xs := xs) (ys := ys) hm hr.len hs.len hk)
  obtain ⟨N, hN⟩ : ∃ N, tN W H = N := ⟨_, rfl⟩
  have HN := Lib.hid hN
  rw [hN] at hN1 hN2 CX CY TL TB TH TG DN DM MT
  have R := Lib.hid hr; have S := Lib.hid hs
  clear hF hG hM hM2 hE he hr hs hx hy hm hN h1
  have bl : Below w.heap.size w ((w.alloc (.cells #[.int .i64 W, .int .i64 H, .int .i64 C, .int .i64 D, .slice (some ⟨b, off, Option.none⟩) n cap] 26)).alloc (.cells #[.int .i64 W, .int .i64 H, .int .i64 C, .int .i64 D, .slice (some ⟨b2, off2, Option.none⟩) n cb] 26)) := ((Below.refl _ _).alloc (Nat.le_refl _) _).alloc (by simp) _
  have bx := Lib.hid ((rbox_alloc w W H C D (some ⟨b, off, Option.none⟩) n cap 26).below ((Below.refl _ _).alloc (Nat.le_refl _) (.cells #[.int .i64 W, .int .i64 H, .int .i64 C, .int .i64 D, .slice (some ⟨b2, off2, Option.none⟩) n cb] 26)))
  have bs0 := rbox_alloc (w.alloc (.cells #[.int .i64 W, .int .i64 H, .int .i64 C, .int .i64 D, .slice (some ⟨b, off, Option.none⟩) n cap] 26)) W H C D (some ⟨b2, off2, Option.none⟩) n cb 26
  rw [World.size_alloc] at bs0
  have bs := Lib.hid bs0
  have B := Lib.hid bl
  replace R := Lib.hid (R.out.below bl)
  replace S := Lib.hid (S.out.below bl)
  go_enter Try.func6, Try.ntmps6
  go_wp2_with fail
  generalize ((w.alloc (.cells #[.int .i64 W, .int .i64 H, .int .i64 C, .int .i64 D, .slice (some ⟨b, off, Option.none⟩) n cap] 26)).alloc (.cells #[.int .i64 W, .int .i64 H, .int .i64 C, .int .i64 D, .slice (some ⟨b2, off2, Option.none⟩) n cb] 26)) = v0 at *
  clear bl bs0
  refine (first_any _).mono ?_; rintro e w1 ⟨rfl, bb⟩
  replace B := Lib.hid (below_size B.out bb)
  replace bx := Lib.hid (bx.out.below bb)
  replace bs := Lib.hid (bs.out.below bb)
  replace R := Lib.hid (R.out.below bb)
  replace S := Lib.hid (S.out.below bb)
  clear bb
  have c0 := bx.out.box.c0; have c1 := bx.out.box.c1; have c2 := bx.out.box.c2; have c3 := bx.out.box.c3; have c4 := bx.out.c4
  go_wp2_with fail
  clear c0 c1 c2 c3 c4
  refine (HF.out _).mono ?_; rintro e w2 ⟨rfl, bb⟩
  replace B := Lib.hid (below_size B.out bb)
  replace bx := Lib.hid (bx.out.below bb)
  replace bs := Lib.hid (bs.out.below bb)
  replace R := Lib.hid (R.out.below bb)
  replace S := Lib.hid (S.out.below bb)
  clear bb
  have c0 := bs.out.box.c0; have c1 := bs.out.box.c1; have c2 := bs.out.box.c2; have c3 := bs.out.box.c3; have c4 := bs.out.c4
  go_wp2_with fail
  clear c0 c1 c2 c3 c4
  refine (HG.out _).mono ?_; rintro e w3 ⟨rfl, bb⟩
  replace B := Lib.hid (below_size B.out bb)
  replace bx := Lib.hid (bx.out.below bb)
  replace bs := Lib.hid (bs.out.below bb)
  replace R := Lib.hid (R.out.below bb)
  replace S := Lib.hid (S.out.below bb)
  clear bb
  have c0 := bx.out.box.c0; have c1 := bx.out.box.c1; have c2 := bx.out.box.c2; have c3 := bx.out.box.c3; have c4 := bx.out.c4
  go_wp2_with fail
  clear c0 c1 c2 c3 c4
  refine (HM.out _).mono ?_; rintro e w4 ⟨rfl, bb⟩
  replace B := Lib.hid (below_size B.out bb)
  replace bx := Lib.hid (bx.out.below bb)
  replace bs := Lib.hid (bs.out.below bb)
  replace R := Lib.hid (R.out.below bb)
  replace S := Lib.hid (S.out.below bb)
  clear bb
  have c0 := bs.out.box.c0; have c1 := bs.out.box.c1; have c2 := bs.out.box.c2; have c3 := bs.out.box.c3; have c4 := bs.out.c4
  go_wp2_with fail
  clear c0 c1 c2 c3 c4
  refine (HM2.out _).mono ?_; rintro e w5 ⟨rfl, bb⟩
  replace B := Lib.hid (below_size B.out bb)
  replace bx := Lib.hid (bx.out.below bb)
  replace bs := Lib.hid (bs.out.below bb)
  replace R := Lib.hid (R.out.below bb)
  replace S := Lib.hid (S.out.below bb)
  clear bb
  have c0 := bx.out.box.c0; have c1 := bx.out.box.c1; have c2 := bx.out.box.c2; have c3 := bx.out.box.c3; have c4 := bx.out.c4
  have d0 := bs.out.box.c0; have d1 := bs.out.box.c1; have d2 := bs.out.box.c2; have d3 := bs.out.box.c3; have d4 := bs.out.c4
  go_wp2_with fail
  clear c0 c1 c2 c3 c4
  clear d0 d1 d2 d3 d4
  refine (HE.out _).mono ?_; rintro e w6 ⟨rfl, bb⟩
  replace B := Lib.hid (below_size B.out bb)
  replace bx := Lib.hid (bx.out.below bb)
  replace bs := Lib.hid (bs.out.below bb)
  replace R := Lib.hid (R.out.below bb)
  replace S := Lib.hid (S.out.below bb)
  clear bb
  have c0 := bx.out.box.c0; have c1 := bx.out.box.c1; have c2 := bx.out.box.c2; have c3 := bx.out.box.c3; have c4 := bx.out.c4
  go_wp2_with fail
  clear c0 c1 c2 c3 c4
  have hba := bx.out.lt; have hbb := bs.out.lt
  have HBA := Lib.hid (And.intro hba hbb)
  clear hba hbb
  refine (CX.out _ _ _ _ R.out).mono ?_; rintro e wa ⟨ga, ca, va, rfl, oa, ta, bb⟩
  replace B := Lib.hid (below_size B.out bb)
  replace bx := Lib.hid (bx.out.below bb)
  replace bs := Lib.hid (bs.out.below bb)
  replace R := Lib.hid (R.out.below bb)
  replace S := Lib.hid (S.out.below bb)
  have LA := Lib.hid (show LRas wa w6.heap.size ga N ca (tils W H C D xs N) from ⟨va, oa, ta⟩)
  have HGA := Lib.hid (oa.lt ga rfl)
  clear bb oa ta
  have c0 := bs.out.box.c0; have c1 := bs.out.box.c1; have c2 := bs.out.box.c2; have c3 := bs.out.box.c3; have c4 := bs.out.c4
  go_wp2_with fail
  clear c0 c1 c2 c3 c4
  refine (CY.out _ _ _ _ S.out).mono ?_; rintro e wb ⟨gb, cb2, vb, rfl, ob, tb, bb⟩
  replace B := Lib.hid (below_size B.out bb)
  replace bx := Lib.hid (bx.out.below bb)
  replace bs := Lib.hid (bs.out.below bb)
  replace R := Lib.hid (R.out.below bb)
  replace S := Lib.hid (S.out.below bb)
  replace LA := Lib.hid (LA.out.below bb)
  have LB := Lib.hid (show LRas wb wa.heap.size gb N cb2 (tils W H C D ys N) from ⟨vb, ob, tb⟩)
  clear bb ob tb
  go_wp2_with fail
  go_loopw [11, 12] (fun vn vi wr => ∃ i : Nat, i ≤ N ∧ vi = .int .i64 i ∧ vn = .int .i64 (cntT (difT W H C D xs ys) i : Nat) ∧ Hid (Below wb.heap.size wb wr)) (fun _ vi _ => N - (intOf vi).toNat)
  case atStart => exact ⟨0, Nat.zero_le _, rfl, rfl, Lib.hid (Below.refl _ _)⟩
  case round =>
    obtain ⟨i, hi, rfl, rfl, F0⟩ := hrel
    by_cases hlt : i < N
    · obtain ⟨q, k, hg1, e1, _, _, o1, _⟩ := (LA.out.below F0.out).row (TL.out _) i hlt (TG.out xs i hlt)
      obtain ⟨q', k', hg2, e2, _, _, o2, _⟩ := (LB.out.below F0.out).row (TL.out _) i hlt (TG.out ys i hlt)
      have hcl := cntT_le (difT W H C D xs ys) i
      have HNX := Lib.hid (show cntT (difT W H C D xs ys) (i + 1) = cntT (difT W H C D xs ys) i + (if tilP W H C D xs i ≠ tilP W H C D ys i then 1 else 0) by rw [cntT]; simp [difT])
      have p1 := TP.out xs hXB.out i; have p2 := TP.out ys hYB.out i
      have r1 := reads_of_owns o1; have r2 := reads_of_owns o2
      generalize cntT (difT W H C D xs ys) i = cn at *
      generalize tilP W H C D xs i = px at *
      generalize tilP W H C D ys i = py at *
      generalize tileW W i = tw at *
      generalize tileH W H i = th at *
      have ceq := fun (z : GrownW wr) => eqRaster_any tw th C D tw th C D _ _ _ _ _ _ px py z.val (r1.below z.below) (r2.below z.below) p1 p2
      have v0 := fun z : GrownW wr => z.cell e1.lt e1.c0
      have v1 := fun z : GrownW wr => z.cell e1.lt e1.c1
      have v2 := fun z : GrownW wr => z.cell e1.lt e1.c2
      have v3 := fun z : GrownW wr => z.cell e1.lt e1.c3
      have v4 := fun z : GrownW wr => z.cell e1.lt e1.c4
      have u0 := fun z : GrownW wr => z.cell e2.lt e2.c0
      have u1 := fun z : GrownW wr => z.cell e2.lt e2.c1
      have u2 := fun z : GrownW wr => z.cell e2.lt e2.c2
      have u3 := fun z : GrownW wr => z.cell e2.lt e2.c3
      have u4 := fun z : GrownW wr => z.cell e2.lt e2.c4
      have i9 : (i : Int) < N := by omega
      have i8 : (0 : Int) ≤ i := by omega
      clear e1 e2 o1 o2 p1 p2 r1 r2
      by_cases hp : px = py
      · have he : eqR tw th C D px tw th C D py = true := by subst hp; exact eqR_self _ _ _ _ _
        rw [he] at ceq
        have hnx := HNX.out
        rw [if_neg (fun h => h hp)] at hnx
        have HNX2 := Lib.hid hnx
        have CEQ := Lib.hid ceq
        clear he ceq hp hnx HNX
        go_wp2_with fail
        refine wp_region_grow_lit (by kernel_rfl) (by kernel_rfl) ?_
        repeat (go_big_quiet_step (first
          | (go_at_call 19; exact grow_call (CEQ.out _))))
        refine wpQuiet_nil ?_
        intro wg hw'
        obtain ⟨⟨wz, hbg⟩, hw''⟩ := hw'
        subst hw''
        clear v0 v1 v2 v3 v4 u0 u1 u2 u3 u4
        go_wp2_with fail
        go_roundw
        case rel => exact ⟨i + 1, by omega, by go_num, by rw [HNX2.out]; rfl, Lib.hid (below_size F0.out hbg)⟩
        case measure => simp [intOf]; omega
      · have he : eqR tw th C D px tw th C D py = false := by simp [eqR, hp]
        rw [he] at ceq
        have hnx := HNX.out
        rw [if_pos hp] at hnx
        have HNX2 := Lib.hid hnx
        have CEQ := Lib.hid ceq
        clear he ceq hp hnx HNX
        go_wp2_with fail
        refine wp_region_grow_lit (by kernel_rfl) (by kernel_rfl) ?_
        repeat (go_big_quiet_step (first
          | (go_at_call 19; exact grow_call (CEQ.out _))))
        refine wpQuiet_nil ?_
        intro wg hw'
        obtain ⟨⟨wz, hbg⟩, hw''⟩ := hw'
        subst hw''
        clear v0 v1 v2 v3 v4 u0 u1 u2 u3 u4
        go_wp2_with fail
        go_roundw
        case rel => exact ⟨i + 1, by omega, by go_num, by rw [HNX2.out]; simp, Lib.hid (below_size F0.out hbg)⟩
        case measure => simp [intOf]; omega
    · obtain rfl : N = i := by omega
      have bbF := F0.out
      replace B := Lib.hid (below_size B.out bbF)
      replace bx := Lib.hid (bx.out.below bbF)
      replace bs := Lib.hid (bs.out.below bbF)
      replace R := Lib.hid (R.out.below bbF)
      replace S := Lib.hid (S.out.below bbF)
      replace LA := Lib.hid (LA.out.below bbF)
      replace LB := Lib.hid (LB.out.below bbF)
      clear bbF F0
      have hcn := cntT_le (difT W H C D xs ys) N
      obtain ⟨cn, hcn2⟩ : ∃ cn, cntT (difT W H C D xs ys) N = cn := ⟨_, rfl⟩
      rw [hcn2] at hcn DN
      have HCN := Lib.hid hcn2
      rw [hcn2]
      clear hcn2
      have ceq := fun w' (h1 : Reads .u8 w' (some ⟨b, off, Option.none⟩) n cap xs) (h2 : Reads .u8 w' (some ⟨b2, off2, Option.none⟩) n cb ys) => eqRaster_any W H C D W H C D _ _ _ _ _ _ xs ys w' h1 h2 hXB.out hYB.out
      have hdec : eqR W H C D xs W H C D ys = decide ((cn : Int) = 0) := by
        have : (cn : Int) = 0 ↔ xs = ys := by rw [← DN.out]; omega
        have h1 : (eqS W H C D W H C D ∧ xs = ys) ↔ (cn : Int) = 0 := ⟨fun h => this.2 h.2, fun h => ⟨⟨rfl, rfl, rfl, rfl⟩, this.1 h⟩⟩
        unfold eqR
        rw [Bool.eq_iff_iff, decide_eq_true_iff, decide_eq_true_iff]
        exact h1
      obtain ⟨bz, hbz⟩ : ∃ bz : Bool, decide ((cn : Int) = 0) = bz := ⟨_, rfl⟩
      have hbz2 : ((cn : Int) == 0) = bz := by rw [← hbz]; rfl
      have hbz3 : (bz != bz) = false := by simp
      rw [hdec, hbz] at ceq
      have CEQ := Lib.hid ceq
      clear ceq hdec
      have c0 := bx.out.box.c0; have c1 := bx.out.box.c1; have c2 := bx.out.box.c2; have c3 := bx.out.box.c3; have c4 := bx.out.c4
      have d0 := bs.out.box.c0; have d1 := bs.out.box.c1; have d2 := bs.out.box.c2; have d3 := bs.out.box.c3; have d4 := bs.out.c4
      go_wp2_with fail
      clear c0 c1 c2 c3 c4
      clear d0 d1 d2 d3 d4
      refine (CEQ.out _ R.out S.out).mono ?_; rintro e w9 ⟨rfl, bb⟩
      replace B := Lib.hid (below_size B.out bb)
      replace bx := Lib.hid (bx.out.below bb)
      replace bs := Lib.hid (bs.out.below bb)
      replace R := Lib.hid (R.out.below bb)
      replace S := Lib.hid (S.out.below bb)
      replace LA := Lib.hid (LA.out.below bb)
      replace LB := Lib.hid (LB.out.below bb)
      clear bb
      clear CEQ
      go_wp2_with fail
      clear hbz hbz2 hbz3
      by_cases hneg : at_ < 0
      · have n0 : decide (at_ < 0) = true := by rw [decide_eq_true_iff]; exact hneg
        refine wp_region_grow_lit (by kernel_rfl) (by kernel_rfl) ?_
        repeat (go_big_quiet_step (fail))
        refine wpQuiet_nil ?_
        intro wg hw'
        obtain ⟨⟨wz, hbg⟩, hw''⟩ := hw'
        subst hw''
        go_wp2_with fail
        refine (first_any _).mono ?_; rintro e z1 ⟨rfl, bb⟩
        go_wp2_with fail
        go_ret
        exact ⟨rfl, below_size (below_size B.out hbg) bb⟩
      have n0 : decide (at_ < 0) = false := by rw [decide_eq_false_iff_not]; exact hneg
      by_cases hbig : (N : Int) ≤ at_
      · have n1 : decide ((N : Int) ≤ at_) = true := by rw [decide_eq_true_iff]; exact hbig
        refine wp_region_grow_lit (by kernel_rfl) (by kernel_rfl) ?_
        repeat (go_big_quiet_step (fail))
        refine wpQuiet_nil ?_
        intro wg hw'
        obtain ⟨⟨wz, hbg⟩, hw''⟩ := hw'
        subst hw''
        go_wp2_with fail
        refine (first_any _).mono ?_; rintro e z1 ⟨rfl, bb⟩
        go_wp2_with fail
        go_ret
        exact ⟨rfl, below_size (below_size B.out hbg) bb⟩
      have n1 : decide ((N : Int) ≤ at_) = false := by rw [decide_eq_false_iff_not]; exact hbig
      obtain ⟨k, rfl⟩ : ∃ k : Nat, at_ = k := ⟨at_.toNat, by omega⟩
      have hk : k < N := by omega
      clear hneg hbig hat n1
      have n2 : decide (N ≤ k) = false := by rw [decide_eq_false_iff_not]; omega
      have n3 : decide ((N : Int) ≤ (k : Int)) = false := by rw [decide_eq_false_iff_not]; omega
      have n4 : ¬ N ≤ k := by omega
      obtain ⟨q, ka, hg1, e1, hq1, hga1, o1, fr⟩ := LA.out.row (TL.out _) k hk (TG.out xs k hk)
      obtain ⟨q', kb, hg2, e2, hq2, hgb1, o2, _⟩ := LB.out.row (TL.out _) k hk (TG.out ys k hk)
      have p1 := TP.out xs hXB.out k; have p2 := TP.out ys hYB.out k
      have r1 := reads_of_owns o1; have r2 := reads_of_owns o2
      have ceq := fun (z : GrownW w9) => eqRaster_any (tileW W k) (tileH W H k) C D (tileW W k) (tileH W H k) C D _ _ _ _ _ _ (tilP W H C D xs k) (tilP W H C D ys k) z.val (r1.below z.below) (r2.below z.below) p1 p2
      have E1 := Lib.hid e1; have E2 := Lib.hid e2; have O2 := Lib.hid o2; have FR := Lib.hid fr
      have v0 := fun z : GrownW w9 => z.cell e1.lt e1.c0
      have v1 := fun z : GrownW w9 => z.cell e1.lt e1.c1
      have v2 := fun z : GrownW w9 => z.cell e1.lt e1.c2
      have v3 := fun z : GrownW w9 => z.cell e1.lt e1.c3
      have v4 := fun z : GrownW w9 => z.cell e1.lt e1.c4
      have u0 := fun z : GrownW w9 => z.cell e2.lt e2.c0
      have u1 := fun z : GrownW w9 => z.cell e2.lt e2.c1
      have u2 := fun z : GrownW w9 => z.cell e2.lt e2.c2
      have u3 := fun z : GrownW w9 => z.cell e2.lt e2.c3
      have u4 := fun z : GrownW w9 => z.cell e2.lt e2.c4
      have i9 : (k : Int) < N := by omega
      have i8 : (0 : Int) ≤ k := by omega
      clear e1 e2 o1 o2 p1 p2 r1 r2 fr
      by_cases hp : tilP W H C D xs k = tilP W H C D ys k
      · have he : eqR (tileW W k) (tileH W H k) C D (tilP W H C D xs k) (tileW W k) (tileH W H k) C D (tilP W H C D ys k) = true := by rw [hp]; exact eqR_self _ _ _ _ _
        rw [he] at ceq
        have CEQ := Lib.hid ceq
        clear he ceq hp
        refine wp_region_grow_lit (by kernel_rfl) (by kernel_rfl) ?_
        repeat (go_big_quiet_step (first
          | (go_at_call 19; exact grow_call (CEQ.out _))))
        refine wpQuiet_nil ?_
        intro wg hw'
        obtain ⟨⟨wz, hbg⟩, hw''⟩ := hw'
        subst hw''
        clear v0 v1 v2 v3 v4 u0 u1 u2 u3 u4
        go_wp2_with fail
        refine (first_any _).mono ?_; rintro e z1 ⟨rfl, bb⟩
        go_wp2_with fail
        go_ret
        exact ⟨rfl, below_size (below_size B.out hbg) bb⟩
      have he : eqR (tileW W k) (tileH W H k) C D (tilP W H C D xs k) (tileW W k) (tileH W H k) C D (tilP W H C D ys k) = false := by simp [eqR, hp]
      rw [he] at ceq
      have CEQ := Lib.hid ceq
      have HDM := Lib.hid (DM.out k hk (by simp [difT, hp]))
      clear he ceq hp
      refine wp_region_grow_lit (by kernel_rfl) (by kernel_rfl) ?_
      repeat (go_big_quiet_step (first
        | (go_at_call 19; exact grow_call (CEQ.out _))))
      refine wpQuiet_nil ?_
      intro wg hw'
      obtain ⟨⟨wz, hbg⟩, hw''⟩ := hw'
      subst hw''
      clear v0 v1 v2 v3 v4 u0 u1 u2 u3 u4
      clear R S bs CY CEQ HE HM HM2 HF HG
      replace B := Lib.hid (below_size B.out hbg)
      replace bx := Lib.hid (bx.out.below hbg)
      replace LA := Lib.hid (LA.out.below hbg)
      replace LB := Lib.hid (LB.out.below hbg)
      replace E1 := Lib.hid (E1.out.below hbg)
      replace E2 := Lib.hid (E2.out.below hbg)
      have HBG := Lib.hid hbg
      clear hbg
      have O2' := Lib.hid (owns_below O2.out HBG.out)
      have fr' : ∀ j, wg.frozen? ⟨ga, j, Option.none⟩ = false := fun j => (HBG.out.frozen (p := ⟨ga, j, Option.none⟩) hg1).trans (FR.out j)
      have hgw : w.heap.size ≤ ga := by have := HBA.out.1; have := HGA.out.1; omega
      have hgx : w.heap.size ≠ ga := by have := HBA.out.1; have := HGA.out.1; omega
      have hgq : q' ≠ ga := by have := HGA.out.2; omega
      have hgl : ga < wa.heap.size := HGA.out.2
      have hbs : w6.heap.size ≤ wa.heap.size := by have := HGA.out; omega
      have LA2 := Lib.hid (LA.out.set (TL.out _) k hk ((tileW W k, tileH W H k, C, D), tilP W H C D ys k) q' kb hgq (owns_base O2'.out hbs))
      have hmt := MT.out k hk
      have LA3 := Lib.hid (by rw [← hmt] at LA2; exact LA2.out)
      clear hmt LA2
      have LB2 := Lib.hid (LB.out.far ga hgl (fun r hr => set5_heap wg ga (k * 5) (.int .i64 (tileW W k)) (.int .i64 (tileH W H k)) (.int .i64 C) (.int .i64 D) (.slice (some ⟨q', 0, Option.none⟩) (tilP W H C D ys k).length kb) r hr))
      have bx2 := Lib.hid (rbox_block (w' := set5 wg ga (k * 5) (.int .i64 (tileW W k)) (.int .i64 (tileH W H k)) (.int .i64 C) (.int .i64 D) (.slice (some ⟨q', 0, Option.none⟩) (tilP W H C D ys k).length kb)) bx.out (by simp) (set5_heap _ _ _ _ _ _ _ _ _ hgx))
      have B2 := Lib.hid (((((B.out.setCell (p := ⟨ga, k * 5, Option.none⟩) hgw (.int .i64 (tileW W k))).setCell (p := ⟨ga, k * 5 + 1, Option.none⟩) hgw (.int .i64 (tileH W H k))).setCell (p := ⟨ga, k * 5 + 2, Option.none⟩) hgw (.int .i64 C)).setCell (p := ⟨ga, k * 5 + 3, Option.none⟩) hgw (.int .i64 D)).setCell (p := ⟨ga, k * 5 + 4, Option.none⟩) hgw (.slice (some ⟨q', 0, Option.none⟩) (tilP W H C D ys k).length kb))
      have a0 := E1.out.c0; have a1 := E1.out.c1; have a2 := E1.out.c2; have a3 := E1.out.c3; have a4 := E1.out.c4
      have b0 := E2.out.c0; have b1 := E2.out.c1; have b2' := E2.out.c2; have b3 := E2.out.c3; have b4 := E2.out.c4
      have f0 := fr' (k * 5); have f1 := fr' (k * 5 + 1); have f2 := fr' (k * 5 + 2); have f3 := fr' (k * 5 + 3); have f4 := fr' (k * 5 + 4)
      clear fr' O2' O2 FR LA LB bx B
      obtain ⟨pl, hpl⟩ : ∃ pl, (tilP W H C D ys k).length = pl := ⟨_, rfl⟩
      rw [hpl] at b4
      go_upto_region 20 with (fail)
      generalize hws : (((((wg.setCell ⟨ga, k * 5, Option.none⟩ (.int .i64 (tileW W k))).setCell ⟨ga, k * 5 + 1, Option.none⟩ (.int .i64 (tileH W H k))).setCell ⟨ga, k * 5 + 2, Option.none⟩ (.int .i64 C)).setCell ⟨ga, k * 5 + 3, Option.none⟩ (.int .i64 D)).setCell ⟨ga, k * 5 + 4, Option.none⟩ (.slice (some ⟨q', 0, Option.none⟩) pl kb)) = ws
      rw [← hpl] at hws
      have LA := Lib.hid (show LRas ws w6.heap.size ga N ca (tils W H C D (mixT W H C D xs ys k) N) from by rw [← hws]; exact LA3.out)
      have LB := Lib.hid (show LRas ws wa.heap.size gb N cb2 (tils W H C D ys N) from by rw [← hws]; exact LB2.out)
      have bx := Lib.hid (show RBox ws w.heap.size W H C D (some ⟨b, off, Option.none⟩) n cap from by rw [← hws]; exact bx2.out)
      have B := Lib.hid (show Below w.heap.size w ws from by rw [← hws]; exact B2.out)
      clear LA3 LB2 bx2 B2 hws hpl
      have HZL := Lib.hid (show (mixT W H C D xs ys k).length = n from by rw [mixT_len, HLX.out])
      have HZB := Lib.hid (mixT_isB (W := W) (H := H) (C := C) (D := D) (k := k) hXB.out hYB.out (by rw [HLY.out, HLX.out]))
      have CZ := Lib.hid (fun (p q kk : Nat) (w' : World) hr' => cut_yes W H C D p q n kk (mixT W H C D xs ys k) w' HMR.out hr')
      rw [HN.out] at CZ
      have RLA := Lib.hid (LA.out.rl (TL.out _) (TB.out _ HZB.out) (TH.out _))
      have JN := Lib.hid (join_back HMR.out HZL.out ga N ca ws HN.out RLA.out)
      have hcm : cn = cntT (difT W H C D (mixT W H C D xs ys k) ys) N + 1 := by rw [← HDM.out, HCN.out]
      have HCM := Lib.hid hcm
      clear RLA LA E1 E2 HDM HCN hcm DN DM MT CX a0 a1 a2 a3 a4 b0 b1 b2' b3 b4 f0 f1 f2 f3 f4 HBG
      generalize mixT W H C D xs ys k = zs at *
      have c0 := bx.out.box.c0; have c1 := bx.out.box.c1; have c2 := bx.out.box.c2; have c3 := bx.out.box.c3; have c4 := bx.out.c4
      go_wp2_with fail
      clear c0 c1 c2 c3 c4
      refine (JN.out).mono ?_; rintro e wj ⟨az, kz, rfl, oz, bb⟩
      replace B := Lib.hid (below_size B.out bb)
      replace bx := Lib.hid (bx.out.below bb)
      replace LB := Lib.hid (LB.out.below bb)
      clear JN
      rw [HZL.out] at oz
      rw [HZL.out]
      obtain ⟨gz, rfl, hgz⟩ := owns_addr oz hn1
      clear hgz
      have Z := Lib.hid (reads_of_owns oz)
      have bl : Below wj.heap.size wj (wj.alloc (.cells #[.int .i64 W, .int .i64 H, .int .i64 C, .int .i64 D, .slice (some ⟨gz, 0, Option.none⟩) n kz] 26)) := (Below.refl _ _).alloc (Nat.le_refl _) _
      have bt := Lib.hid (rbox_alloc wj W H C D (some ⟨gz, 0, Option.none⟩) n kz 26)
      replace B := Lib.hid (below_size B.out bl)
      replace bx := Lib.hid (bx.out.below bl)
      replace LB := Lib.hid (LB.out.below bl)
      replace Z := Lib.hid (Z.out.below bl)
      clear bb bl oz
      go_upto_region 21 with (fail)
      generalize wj.alloc (.cells #[.int .i64 W, .int .i64 H, .int .i64 C, .int .i64 D, .slice (some ⟨gz, 0, Option.none⟩) n kz] 26) = vj at *
      have c0 := bt.out.box.c0; have c1 := bt.out.box.c1; have c2 := bt.out.box.c2; have c3 := bt.out.box.c3; have c4 := bt.out.c4
      go_wp2_with fail
      clear c0 c1 c2 c3 c4
      refine (CZ.out _ _ _ _ Z.out).mono ?_; rintro e wk ⟨gc, cc, vc, rfl, oc, tc, bb⟩
      replace B := Lib.hid (below_size B.out bb)
      replace bx := Lib.hid (bx.out.below bb)
      replace LB := Lib.hid (LB.out.below bb)
      replace Z := Lib.hid (Z.out.below bb)
      replace bt := Lib.hid (bt.out.below bb)
      have LC := Lib.hid (show LRas wk vj.heap.size gc N cc (tils W H C D zs N) from ⟨vc, oc, tc⟩)
      clear bb oc tc CZ Z bt bx
      go_wp2_with fail
      go_loopw [17, 18] (fun vn vi wr => ∃ i : Nat, i ≤ N ∧ vi = .int .i64 i ∧ vn = .int .i64 (cntT (difT W H C D zs ys) i : Nat) ∧ Hid (Below wk.heap.size wk wr)) (fun _ vi _ => N - (intOf vi).toNat)
      case atStart => exact ⟨0, Nat.zero_le _, rfl, rfl, Lib.hid (Below.refl _ _)⟩
      case round =>
        obtain ⟨i, hi, rfl, rfl, F0⟩ := hrel
        by_cases hlt : i < N
        · obtain ⟨q, k, hg1, e1, _, _, o1, _⟩ := (LC.out.below F0.out).row (TL.out _) i hlt (TG.out zs i hlt)
          obtain ⟨q', k', hg2, e2, _, _, o2, _⟩ := (LB.out.below F0.out).row (TL.out _) i hlt (TG.out ys i hlt)
          have hcl := cntT_le (difT W H C D zs ys) i
          have HNX := Lib.hid (show cntT (difT W H C D zs ys) (i + 1) = cntT (difT W H C D zs ys) i + (if tilP W H C D zs i ≠ tilP W H C D ys i then 1 else 0) by rw [cntT]; simp [difT])
          have p1 := TP.out zs HZB.out i; have p2 := TP.out ys hYB.out i
          have r1 := reads_of_owns o1; have r2 := reads_of_owns o2
          generalize cntT (difT W H C D zs ys) i = cn at *
          generalize tilP W H C D zs i = px at *
          generalize tilP W H C D ys i = py at *
          generalize tileW W i = tw at *
          generalize tileH W H i = th at *
          have ceq := fun (z : GrownW wr) => eqRaster_any tw th C D tw th C D _ _ _ _ _ _ px py z.val (r1.below z.below) (r2.below z.below) p1 p2
          have v0 := fun z : GrownW wr => z.cell e1.lt e1.c0
          have v1 := fun z : GrownW wr => z.cell e1.lt e1.c1
          have v2 := fun z : GrownW wr => z.cell e1.lt e1.c2
          have v3 := fun z : GrownW wr => z.cell e1.lt e1.c3
          have v4 := fun z : GrownW wr => z.cell e1.lt e1.c4
          have u0 := fun z : GrownW wr => z.cell e2.lt e2.c0
          have u1 := fun z : GrownW wr => z.cell e2.lt e2.c1
          have u2 := fun z : GrownW wr => z.cell e2.lt e2.c2
          have u3 := fun z : GrownW wr => z.cell e2.lt e2.c3
          have u4 := fun z : GrownW wr => z.cell e2.lt e2.c4
          have i9 : (i : Int) < N := by omega
          have i8 : (0 : Int) ≤ i := by omega
          clear e1 e2 o1 o2 p1 p2 r1 r2
          by_cases hp : px = py
          · have he : eqR tw th C D px tw th C D py = true := by subst hp; exact eqR_self _ _ _ _ _
            rw [he] at ceq
            have hnx := HNX.out
            rw [if_neg (fun h => h hp)] at hnx
            have HNX2 := Lib.hid hnx
            have CEQ := Lib.hid ceq
            clear he ceq hp hnx HNX
            go_wp2_with fail
            refine wp_region_grow_lit (by kernel_rfl) (by kernel_rfl) ?_
            repeat (go_big_quiet_step (first
              | (go_at_call 19; exact grow_call (CEQ.out _))))
            refine wpQuiet_nil ?_
            intro wg hw'
            obtain ⟨⟨wz, hbg⟩, hw''⟩ := hw'
            subst hw''
            clear v0 v1 v2 v3 v4 u0 u1 u2 u3 u4
            go_wp2_with fail
            go_roundw
            case rel => exact ⟨i + 1, by omega, by go_num, by rw [HNX2.out]; rfl, Lib.hid (below_size F0.out hbg)⟩
            case measure => simp [intOf]; omega
          · have he : eqR tw th C D px tw th C D py = false := by simp [eqR, hp]
            rw [he] at ceq
            have hnx := HNX.out
            rw [if_pos hp] at hnx
            have HNX2 := Lib.hid hnx
            have CEQ := Lib.hid ceq
            clear he ceq hp hnx HNX
            go_wp2_with fail
            refine wp_region_grow_lit (by kernel_rfl) (by kernel_rfl) ?_
            repeat (go_big_quiet_step (first
              | (go_at_call 19; exact grow_call (CEQ.out _))))
            refine wpQuiet_nil ?_
            intro wg hw'
            obtain ⟨⟨wz, hbg⟩, hw''⟩ := hw'
            subst hw''
            clear v0 v1 v2 v3 v4 u0 u1 u2 u3 u4
            go_wp2_with fail
            go_roundw
            case rel => exact ⟨i + 1, by omega, by go_num, by rw [HNX2.out]; simp, Lib.hid (below_size F0.out hbg)⟩
            case measure => simp [intOf]; omega
        · obtain rfl : N = i := by omega
          have bbF := F0.out
          replace B := Lib.hid (below_size B.out bbF)
          clear bbF F0
          have hc := HCM.out
          have hcb := cntT_le (difT W H C D zs ys) N
          generalize cntT (difT W H C D zs ys) N = cm at *
          subst hc
          have q1 : IntKind.i64.wrap (((cm + 1 : Nat) : Int) - 1) = (cm : Int) := by rw [Go.IntWalk.i64_in _ (by omega)]; omega
          have q2 : IntKind.i64.wrap ((cm : Int) + 1 - 1) = (cm : Int) := by rw [Go.IntWalk.i64_in _ (by omega)]; omega
          clear HCM hcb
          go_wp2_with fail
          refine (first_any _).mono ?_; rintro e z1 ⟨rfl, bb⟩
          go_wp2_with fail
          go_ret
          exact ⟨rfl, below_size B.out bb⟩

theorem walk_TileOnes (W H C D : Int) (a : Option Addr) (n cap : Nat) (xs : List Int) (W2 H2 C2 D2 : Int) (b : Option Addr) (m cb : Nat) (ys : List Int) (at_ : Int) (w : World) (_ : -9223372036854775808 ≤ W ∧ W ≤ 9223372036854775807) (hH : -9223372036854775808 ≤ H ∧ H ≤ 9223372036854775807) (_ : -9223372036854775808 ≤ C ∧ C ≤ 9223372036854775807) (_ : -9223372036854775808 ≤ D ∧ D ≤ 9223372036854775807) (hr : Reads .u8 w a n cap xs) (hx : isB xs)
    (_ : -9223372036854775808 ≤ W2 ∧ W2 ≤ 9223372036854775807) (hH2 : -9223372036854775808 ≤ H2 ∧ H2 ≤ 9223372036854775807) (_ : -9223372036854775808 ≤ C2 ∧ C2 ≤ 9223372036854775807) (_ : -9223372036854775808 ≤ D2 ∧ D2 ≤ 9223372036854775807) (hs : Reads .u8 w b m cb ys) (hy : isB ys) (hat : -9223372036854775808 ≤ at_ ∧ at_ ≤ 9223372036854775807) :
    Calls Try.prog 6 #[ras W H C D a n cap, ras W2 H2 C2 D2 b m cb, .int .i64 at_] w fun e w' => e = .returned (.bool true) ∧ Below w.heap.size w w' := by
  by_cases h1 : n ≤ 20000
  · by_cases h2 : m ≤ 20000
    · cases hm : mayR W H C D n with
      | false => exact ones_f3 W H C D a n cap xs W2 H2 C2 D2 b m cb ys at_ w hr hx hs hy hH hH2 h1 h2 hm
      | true =>
        cases hm2 : mayR W2 H2 C2 D2 m with
        | false => exact ones_f4 W H C D a n cap xs W2 H2 C2 D2 b m cb ys at_ w hr hx hs hy hH hH2 h1 h2 hm hm2
        | true =>
          cases he : decide (eqS W H C D W2 H2 C2 D2) with
          | false => exact ones_f5 W H C D a n cap xs W2 H2 C2 D2 b m cb ys at_ w hr hx hs hy hH hH2 h1 h2 hm hm2 he
          | true =>
            obtain ⟨rfl, rfl, rfl, rfl⟩ := of_decide_eq_true he
            obtain rfl : m = n := by rw [mayR_len hm, mayR_len hm2]
            have hn1 : 0 < m := by
              obtain ⟨hbn, _, hns⟩ := mayR_spec hm
              have h1 := row_pos hbn
              have h2 : 0 < rowN W H C D * H := Int.mul_pos (by omega) (by have := hbn.2.2.1; omega)
              unfold sizeN at hns
              omega
            obtain ⟨b1, o1, rfl, _, _⟩ := hr.cells hn1
            obtain ⟨b2, o2, rfl, _, _⟩ := hs.cells hn1
            exact ones_yes W H C D b1 o1 m cap xs b2 o2 cb ys at_ w hr hx hs hy hat h1 hm
    · exact ones_f2 W H C D a n cap xs W2 H2 C2 D2 b m cb ys at_ w hr hx hs hy hH hH2 h1 h2
  · exact ones_f1 W H C D a n cap xs W2 H2 C2 D2 b m cb ys at_ w hr hx hs hy hH hH2 h1
end Go.Proofs.Ytdmaoaclhaofbaa
