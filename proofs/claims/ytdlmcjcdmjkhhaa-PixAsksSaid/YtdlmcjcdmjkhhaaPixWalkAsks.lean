/-
  The walk of PixAsks.
-/
import Derived.Test.YtdlmcjcdmjkhhaaPixSetAny
import Derived.Test.YtdlmcjcdmjkhhaaGrow
namespace Go.Proofs.Ytdlmcjcdmjkhhaa
open Go.RowKit

theorem isB_set {xs : List Int} (h : isB xs) (i : Nat) (x : Int) (hx : 0 ≤ x ∧ x < 256) : isB (xs.set i x) := fun y hy => (List.mem_or_eq_of_mem_set hy).elim (h y) (fun e => e ▸ hx)

set_option maxRecDepth 100000 in
set_option maxHeartbeats 4000000 in
theorem asks_few1 (W H C D : Int) (a : Option Addr) (n cap : Nat) (xs : List Int) (W2 H2 C2 D2 : Int) (b : Option Addr) (m cb : Nat) (ys : List Int) (x y c v : Int) (w : World) (hr : Reads .u8 w a n cap xs) (hx : isB xs) (hs : Reads .u8 w b m cb ys) (hy : isB ys) (hH : -9223372036854775808 ≤ H ∧ H ≤ 9223372036854775807) (hv : -9223372036854775808 ≤ v ∧ v ≤ 9223372036854775807) (h : ¬ n ≤ 20000) :
    Calls Try.prog 3 #[ras W H C D a n cap, ras W2 H2 C2 D2 b m cb, .int .i64 x, .int .i64 y, .int .i64 c, .int .i64 v] w fun e w' => e = .returned (.bool true) ∧ Below w.heap.size w w' := by
  have hF := fun w' => few_any W H C D a n cap w'
  simp only [h, decide_false] at hF
  have HF := Lib.hid hF
  clear hF hr hs h
  have bl : Below w.heap.size w ((w.alloc (.cells #[.int .i64 W, .int .i64 H, .int .i64 C, .int .i64 D, .slice a n cap] 26)).alloc (.cells #[.int .i64 W2, .int .i64 H2, .int .i64 C2, .int .i64 D2, .slice b m cb] 26)) := ((Below.refl _ _).alloc (Nat.le_refl _) _).alloc (by simp) _
  have bx := Lib.hid ((rbox_alloc w W H C D a n cap 26).below ((Below.refl _ _).alloc (Nat.le_refl _) (.cells #[.int .i64 W2, .int .i64 H2, .int .i64 C2, .int .i64 D2, .slice b m cb] 26)))
  have bs0 := rbox_alloc (w.alloc (.cells #[.int .i64 W, .int .i64 H, .int .i64 C, .int .i64 D, .slice a n cap] 26)) W2 H2 C2 D2 b m cb 26
  rw [World.size_alloc] at bs0
  have bs := Lib.hid bs0
  have B := Lib.hid bl
  go_enter Try.func3, Try.ntmps3
  go_wp2_with fail
  generalize ((w.alloc (.cells #[.int .i64 W, .int .i64 H, .int .i64 C, .int .i64 D, .slice a n cap] 26)).alloc (.cells #[.int .i64 W2, .int .i64 H2, .int .i64 C2, .int .i64 D2, .slice b m cb] 26)) = v0 at *
  clear bl bs0
  refine (first_any _).mono ?_; rintro e w1 ⟨rfl, bb⟩
  replace B := Lib.hid (below_size B.out bb)
  replace bx := Lib.hid (bx.out.below bb)
  replace bs := Lib.hid (bs.out.below bb)
  clear bb
  have c0 := bx.out.box.c0; have c1 := bx.out.box.c1; have c2 := bx.out.box.c2; have c3 := bx.out.box.c3; have c4 := bx.out.c4
  go_wp2_with fail
  clear c0 c1 c2 c3 c4
  refine (HF.out _).mono ?_; rintro e w2 ⟨rfl, bb⟩
  replace B := Lib.hid (below_size B.out bb)
  replace bx := Lib.hid (bx.out.below bb)
  replace bs := Lib.hid (bs.out.below bb)
  clear bb
  go_wp2_with fail
  refine (first_any _).mono ?_; rintro e w4 ⟨rfl, bb⟩
  replace B := Lib.hid (below_size B.out bb)
  go_wp2_with fail
  go_ret
  exact ⟨rfl, B.out⟩

set_option maxRecDepth 100000 in
set_option maxHeartbeats 4000000 in
theorem asks_few2 (W H C D : Int) (a : Option Addr) (n cap : Nat) (xs : List Int) (W2 H2 C2 D2 : Int) (b : Option Addr) (m cb : Nat) (ys : List Int) (x y c v : Int) (w : World) (hr : Reads .u8 w a n cap xs) (hx : isB xs) (hs : Reads .u8 w b m cb ys) (hy : isB ys) (hH : -9223372036854775808 ≤ H ∧ H ≤ 9223372036854775807) (hv : -9223372036854775808 ≤ v ∧ v ≤ 9223372036854775807) (h : n ≤ 20000 ∧ ¬ m ≤ 20000) :
    Calls Try.prog 3 #[ras W H C D a n cap, ras W2 H2 C2 D2 b m cb, .int .i64 x, .int .i64 y, .int .i64 c, .int .i64 v] w fun e w' => e = .returned (.bool true) ∧ Below w.heap.size w w' := by
  have hF := fun w' => few_any W H C D a n cap w'
  have hG := fun w' => few_any W2 H2 C2 D2 b m cb w'
  simp only [h.1, decide_true] at hF
  simp only [h.2, decide_false] at hG
  have HF := Lib.hid hF; have HG := Lib.hid hG
  clear hF hG hr hs h
  have bl : Below w.heap.size w ((w.alloc (.cells #[.int .i64 W, .int .i64 H, .int .i64 C, .int .i64 D, .slice a n cap] 26)).alloc (.cells #[.int .i64 W2, .int .i64 H2, .int .i64 C2, .int .i64 D2, .slice b m cb] 26)) := ((Below.refl _ _).alloc (Nat.le_refl _) _).alloc (by simp) _
  have bx := Lib.hid ((rbox_alloc w W H C D a n cap 26).below ((Below.refl _ _).alloc (Nat.le_refl _) (.cells #[.int .i64 W2, .int .i64 H2, .int .i64 C2, .int .i64 D2, .slice b m cb] 26)))
  have bs0 := rbox_alloc (w.alloc (.cells #[.int .i64 W, .int .i64 H, .int .i64 C, .int .i64 D, .slice a n cap] 26)) W2 H2 C2 D2 b m cb 26
  rw [World.size_alloc] at bs0
  have bs := Lib.hid bs0
  have B := Lib.hid bl
  go_enter Try.func3, Try.ntmps3
  go_wp2_with fail
  generalize ((w.alloc (.cells #[.int .i64 W, .int .i64 H, .int .i64 C, .int .i64 D, .slice a n cap] 26)).alloc (.cells #[.int .i64 W2, .int .i64 H2, .int .i64 C2, .int .i64 D2, .slice b m cb] 26)) = v0 at *
  clear bl bs0
  refine (first_any _).mono ?_; rintro e w1 ⟨rfl, bb⟩
  replace B := Lib.hid (below_size B.out bb)
  replace bx := Lib.hid (bx.out.below bb)
  replace bs := Lib.hid (bs.out.below bb)
  clear bb
  have c0 := bx.out.box.c0; have c1 := bx.out.box.c1; have c2 := bx.out.box.c2; have c3 := bx.out.box.c3; have c4 := bx.out.c4
  go_wp2_with fail
  clear c0 c1 c2 c3 c4
  refine (HF.out _).mono ?_; rintro e w2 ⟨rfl, bb⟩
  replace B := Lib.hid (below_size B.out bb)
  replace bx := Lib.hid (bx.out.below bb)
  replace bs := Lib.hid (bs.out.below bb)
  clear bb
  have c0 := bs.out.box.c0; have c1 := bs.out.box.c1; have c2 := bs.out.box.c2; have c3 := bs.out.box.c3; have c4 := bs.out.c4
  go_wp2_with fail
  clear c0 c1 c2 c3 c4
  refine (HG.out _).mono ?_; rintro e w3 ⟨rfl, bb⟩
  replace B := Lib.hid (below_size B.out bb)
  clear bb
  go_wp2_with fail
  refine (first_any _).mono ?_; rintro e w4 ⟨rfl, bb⟩
  replace B := Lib.hid (below_size B.out bb)
  go_wp2_with fail
  go_ret
  exact ⟨rfl, B.out⟩

set_option maxRecDepth 100000 in
set_option maxHeartbeats 2000000 in
theorem asks_main (W H C D : Int) (a : Option Addr) (n cap : Nat) (xs : List Int) (W2 H2 C2 D2 : Int) (b : Option Addr) (m cb : Nat) (ys : List Int) (x y c v : Int) (w : World) (hr : Reads .u8 w a n cap xs) (hx : isB xs) (hs : Reads .u8 w b m cb ys) (hy : isB ys) (hH : -9223372036854775808 ≤ H ∧ H ≤ 9223372036854775807) (hv : -9223372036854775808 ≤ v ∧ v ≤ 9223372036854775807) (hn : n ≤ 20000) (hm20 : m ≤ 20000) :
    Calls Try.prog 3 #[ras W H C D a n cap, ras W2 H2 C2 D2 b m cb, .int .i64 x, .int .i64 y, .int .i64 c, .int .i64 v] w fun e w' => e = .returned (.bool true) ∧ Below w.heap.size w w' := by
  have hF := fun w' => few_any W H C D a n cap w'
  have hG := fun w' => few_any W2 H2 C2 D2 b m cb w'
  simp only [hn, decide_true] at hF
  simp only [hm20, decide_true] at hG
  have HF := Lib.hid hF; have HG := Lib.hid hG
  have A1 := Lib.hid (fun (q : Option Addr) (k : Nat) (w' : World) hr' => at_any W H C D q n k xs x y c w' hr' hx hH)
  have A2 := Lib.hid (fun (q : Option Addr) (k : Nat) (w' : World) hr' => rat_any W H C D q n k xs x y c w' hr' hx hH)
  have S1 := Lib.hid (fun (q : Option Addr) (k : Nat) (w' : World) hr' => set_any W H C D q n k xs x y c v w' hr' hH hv)
  have S2 := Lib.hid (fun (q : Option Addr) (k : Nat) (w' : World) hr' => rset_any W H C D q n k xs x y c v w' hr' hH hv)
  have tB := Lib.hid (sL_isB (W := W) (H := H) (C := C) (D := D) (n := n) (x := x) (y := y) (c := c) (v := v) hx)
  have hXB := Lib.hid hx; have hYB := Lib.hid hy
  generalize atVal W H C D n xs x y c = av at *
  generalize atErr W H C D n x y c = ae at *
  generalize sL W H C D n xs x y c v = ts at *
  generalize setErr W H C D n x y c v = se at *
  generalize sZ se W = W' at *
  generalize sZ se H = H' at *
  generalize sZ se C = C' at *
  generalize sZ se D = D' at *
  have R := Lib.hid hr; have S := Lib.hid hs
  have HL := Lib.hid hr.len
  clear hF hG hr hs hx hy
  have bl : Below w.heap.size w ((w.alloc (.cells #[.int .i64 W, .int .i64 H, .int .i64 C, .int .i64 D, .slice a n cap] 26)).alloc (.cells #[.int .i64 W2, .int .i64 H2, .int .i64 C2, .int .i64 D2, .slice b m cb] 26)) := ((Below.refl _ _).alloc (Nat.le_refl _) _).alloc (by simp) _
  have bx := Lib.hid ((rbox_alloc w W H C D a n cap 26).below ((Below.refl _ _).alloc (Nat.le_refl _) (.cells #[.int .i64 W2, .int .i64 H2, .int .i64 C2, .int .i64 D2, .slice b m cb] 26)))
  have bs0 := rbox_alloc (w.alloc (.cells #[.int .i64 W, .int .i64 H, .int .i64 C, .int .i64 D, .slice a n cap] 26)) W2 H2 C2 D2 b m cb 26
  rw [World.size_alloc] at bs0
  have bs := Lib.hid bs0
  have B := Lib.hid bl
  replace R := Lib.hid (R.out.below bl)
  replace S := Lib.hid (S.out.below bl)
  go_enter Try.func3, Try.ntmps3
  go_wp2_with fail
  generalize ((w.alloc (.cells #[.int .i64 W, .int .i64 H, .int .i64 C, .int .i64 D, .slice a n cap] 26)).alloc (.cells #[.int .i64 W2, .int .i64 H2, .int .i64 C2, .int .i64 D2, .slice b m cb] 26)) = v0 at *
  clear bl bs0
  refine (first_any _).mono ?_; rintro e w1 ⟨rfl, bb⟩
  replace B := Lib.hid (below_size B.out bb)
  replace R := Lib.hid (R.out.below bb)
  replace S := Lib.hid (S.out.below bb)
  replace bx := Lib.hid (bx.out.below bb)
  replace bs := Lib.hid (bs.out.below bb)
  clear bb
  have c0 := bx.out.box.c0; have c1 := bx.out.box.c1; have c2 := bx.out.box.c2; have c3 := bx.out.box.c3; have c4 := bx.out.c4
  go_wp2_with fail
  clear c0 c1 c2 c3 c4
  refine (HF.out _).mono ?_; rintro e w2 ⟨rfl, bb⟩
  replace B := Lib.hid (below_size B.out bb)
  replace R := Lib.hid (R.out.below bb)
  replace S := Lib.hid (S.out.below bb)
  replace bx := Lib.hid (bx.out.below bb)
  replace bs := Lib.hid (bs.out.below bb)
  clear bb
  have c0 := bs.out.box.c0; have c1 := bs.out.box.c1; have c2 := bs.out.box.c2; have c3 := bs.out.box.c3; have c4 := bs.out.c4
  go_wp2_with fail
  clear c0 c1 c2 c3 c4
  refine (HG.out _).mono ?_; rintro e w3 ⟨rfl, bb⟩
  replace B := Lib.hid (below_size B.out bb)
  replace R := Lib.hid (R.out.below bb)
  replace S := Lib.hid (S.out.below bb)
  replace bx := Lib.hid (bx.out.below bb)
  replace bs := Lib.hid (bs.out.below bb)
  clear bb
  have c0 := bx.out.box.c0; have c1 := bx.out.box.c1; have c2 := bx.out.box.c2; have c3 := bx.out.box.c3; have c4 := bx.out.c4
  go_wp2_with fail
  clear c0 c1 c2 c3 c4
  refine (copy_any W H C D a n cap xs _ R.out (by omega)).mono ?_; rintro e w4 ⟨ai, ki, rfl, oi, bb⟩
  replace B := Lib.hid (below_size B.out bb)
  replace R := Lib.hid (R.out.below bb)
  replace S := Lib.hid (S.out.below bb)
  replace bx := Lib.hid (bx.out.below bb)
  replace bs := Lib.hid (bs.out.below bb)
  rw [HL.out] at oi
  rw [HL.out]
  have I := Lib.hid (reads_of_owns oi)
  have bl : Below w4.heap.size w4 (w4.alloc (.cells #[.int .i64 W, .int .i64 H, .int .i64 C, .int .i64 D, .slice ai n ki] 26)) := (Below.refl _ _).alloc (Nat.le_refl _) _
  have bi := Lib.hid (rbox_alloc w4 W H C D ai n ki 26)
  replace B := Lib.hid (below_size B.out bl)
  replace R := Lib.hid (R.out.below bl)
  replace S := Lib.hid (S.out.below bl)
  replace I := Lib.hid (I.out.below bl)
  replace bx := Lib.hid (bx.out.below bl)
  replace bs := Lib.hid (bs.out.below bl)
  clear bb bl oi
  go_wp2_with fail
  generalize w4.alloc (.cells #[.int .i64 W, .int .i64 H, .int .i64 C, .int .i64 D, .slice ai n ki] 26) = v4 at *
  generalize w4.heap.size = gi at *
  refine (A1.out _ _ _ I.out).mono ?_; rintro e w5 ⟨rfl, bb⟩
  replace B := Lib.hid (below_size B.out bb)
  replace R := Lib.hid (R.out.below bb)
  replace S := Lib.hid (S.out.below bb)
  replace I := Lib.hid (I.out.below bb)
  replace bx := Lib.hid (bx.out.below bb)
  replace bs := Lib.hid (bs.out.below bb)
  replace bi := Lib.hid (bi.out.below bb)
  clear bb
  have c0 := bx.out.box.c0; have c1 := bx.out.box.c1; have c2 := bx.out.box.c2; have c3 := bx.out.box.c3; have c4 := bx.out.c4
  go_wp2_with fail
  clear c0 c1 c2 c3 c4
  refine (A2.out _ _ _ R.out).mono ?_; rintro e w6 ⟨rfl, bb⟩
  replace B := Lib.hid (below_size B.out bb)
  replace R := Lib.hid (R.out.below bb)
  replace S := Lib.hid (S.out.below bb)
  replace I := Lib.hid (I.out.below bb)
  replace bx := Lib.hid (bx.out.below bb)
  replace bs := Lib.hid (bs.out.below bb)
  replace bi := Lib.hid (bi.out.below bb)
  clear bb
  have c0 := bi.out.box.c0; have c1 := bi.out.box.c1; have c2 := bi.out.box.c2; have c3 := bi.out.box.c3; have c4 := bi.out.c4
  go_wp2_with fail
  clear c0 c1 c2 c3 c4
  refine (S1.out _ _ _ I.out).mono ?_; rintro e w7 ⟨at0, kt, rfl, ot, bb⟩
  have B6 := B; have R6 := R; have S6 := S; have I6 := I; have bx6 := bx; have bs6 := bs; have bi6 := bi
  have F7 := Lib.hid bb
  have TI := Lib.hid (show ∀ g, at0 = some ⟨g, 0, Option.none⟩ → w6.heap.size ≤ g ∧ g < w7.heap.size from fun g e => ot.lt g (by rw [e]; simp [Value.ownBlock]))
  replace B := Lib.hid (below_size B.out bb)
  replace R := Lib.hid (R.out.below bb)
  replace S := Lib.hid (S.out.below bb)
  replace I := Lib.hid (I.out.below bb)
  replace bx := Lib.hid (bx.out.below bb)
  replace bs := Lib.hid (bs.out.below bb)
  replace bi := Lib.hid (bi.out.below bb)
  have T := Lib.hid (reads_of_owns ot)
  have bl : Below w7.heap.size w7 (w7.alloc (.cells #[.int .i64 W', .int .i64 H', .int .i64 C', .int .i64 D', .slice at0 ts.length kt] 26)) := (Below.refl _ _).alloc (Nat.le_refl _) _
  have bt := Lib.hid (rbox_alloc w7 W' H' C' D' at0 ts.length kt 26)
  replace ot := owns_below ot bl
  have ht7 : w6.heap.size ≤ w7.heap.size := bb.size
  replace F7 := Lib.hid (below_size F7.out bl)
  replace B := Lib.hid (below_size B.out bl)
  replace R := Lib.hid (R.out.below bl)
  replace S := Lib.hid (S.out.below bl)
  replace I := Lib.hid (I.out.below bl)
  replace T := Lib.hid (T.out.below bl)
  replace bx := Lib.hid (bx.out.below bl)
  replace bs := Lib.hid (bs.out.below bl)
  replace bi := Lib.hid (bi.out.below bl)
  have OT := Lib.hid ot
  clear bb bl ot
  have c0 := bx.out.box.c0; have c1 := bx.out.box.c1; have c2 := bx.out.box.c2; have c3 := bx.out.box.c3; have c4 := bx.out.c4
  go_wp2_with fail
  clear c0 c1 c2 c3 c4
  generalize w7.alloc (.cells #[.int .i64 W', .int .i64 H', .int .i64 C', .int .i64 D', .slice at0 ts.length kt] 26) = v7 at *
  generalize w7.heap.size = gt at *
  have HT7 := Lib.hid ht7
  clear ht7
  refine (S2.out _ _ _ R.out).mono ?_; rintro e w8 ⟨au, ku, rfl, ou, bb⟩
  replace OT := Lib.hid (owns_below OT.out bb)
  replace F7 := Lib.hid (below_size F7.out bb)
  replace B := Lib.hid (below_size B.out bb)
  replace R := Lib.hid (R.out.below bb)
  replace S := Lib.hid (S.out.below bb)
  replace I := Lib.hid (I.out.below bb)
  replace T := Lib.hid (T.out.below bb)
  replace bx := Lib.hid (bx.out.below bb)
  replace bs := Lib.hid (bs.out.below bb)
  replace bi := Lib.hid (bi.out.below bb)
  replace bt := Lib.hid (bt.out.below bb)
  have U := Lib.hid (reads_of_owns ou)
  have bl : Below w8.heap.size w8 (w8.alloc (.cells #[.int .i64 W', .int .i64 H', .int .i64 C', .int .i64 D', .slice au ts.length ku] 26)) := (Below.refl _ _).alloc (Nat.le_refl _) _
  have bu := Lib.hid (rbox_alloc w8 W' H' C' D' au ts.length ku 26)
  replace OT := Lib.hid (owns_below OT.out bl)
  replace F7 := Lib.hid (below_size F7.out bl)
  replace B := Lib.hid (below_size B.out bl)
  replace R := Lib.hid (R.out.below bl)
  replace S := Lib.hid (S.out.below bl)
  replace I := Lib.hid (I.out.below bl)
  replace T := Lib.hid (T.out.below bl)
  replace U := Lib.hid (U.out.below bl)
  replace bx := Lib.hid (bx.out.below bl)
  replace bs := Lib.hid (bs.out.below bl)
  replace bi := Lib.hid (bi.out.below bl)
  replace bt := Lib.hid (bt.out.below bl)
  clear bb bl ou
  have c0 := bt.out.box.c0; have c1 := bt.out.box.c1; have c2 := bt.out.box.c2; have c3 := bt.out.box.c3; have c4 := bt.out.c4
  go_wp2_with fail
  clear c0 c1 c2 c3 c4
  generalize w8.alloc (.cells #[.int .i64 W', .int .i64 H', .int .i64 C', .int .i64 D', .slice au ts.length ku] 26) = v8 at *
  have q1 := eqRaster_any W' H' C' D' W' H' C' D' _ _ _ _ _ _ _ _ _ T.out U.out tB.out tB.out
  rw [eqR_self] at q1
  have Q1 := Lib.hid q1; clear q1
  refine Q1.out.mono ?_; rintro e w9 ⟨rfl, bb⟩
  replace OT := Lib.hid (owns_below OT.out bb)
  replace F7 := Lib.hid (below_size F7.out bb)
  replace bt := Lib.hid (bt.out.below bb)
  have hN : ts.length ≤ 9223372036854775807 := by have h1 := T.out.le; have h2 := T.out.max; unfold maxLen at h2; omega
  clear bb Q1 U T R S I bx bs bi bu B
  go_wp2_with fail
  go_loopw [23] (fun i wr => ∃ (k : Nat) (zs : List Int), k ≤ ts.length ∧ i = .int .i64 k ∧ Hid (isB zs) ∧ Hid (zs.length = ts.length) ∧ Hid (RBox wr gt W' H' C' D' at0 ts.length kt) ∧ Hid (wr.ownsRow w6.heap.size 5 1 (.slice at0 ts.length kt) ts.length (zs.map (Value.int .u8))) ∧ Hid (Below w6.heap.size w6 wr)) (fun i _ => ts.length - (intOf i).toNat)
  case atStart => exact ⟨0, ts, Nat.zero_le _, rfl, tB, Lib.hid rfl, bt, OT, F7⟩
  case round =>
    obtain ⟨k, zs, hk, rfl, hzB, hzl, Kt, Ko, Kb⟩ := hrel
    clear OT F7 bt
    by_cases hlt : k < ts.length
    · obtain ⟨ga, e0, _⟩ := owns_addr Ko.out (by omega)
      have hga := TI.out ga e0
      subst e0
      have hc := owns_cell Ko.out k hlt
      have hfz := Ko.out.frozenAt k
      have hz := hzB.out.get k (by rw [hzl.out]; exact hlt)
      have hkap := Ko.out
      generalize zs.getD k 0 = z at *
      clear hkap
      have c0 := Kt.out.box.c0; have c1 := Kt.out.box.c1; have c2 := Kt.out.box.c2; have c3 := Kt.out.box.c3; have c4 := Kt.out.c4
      go_wp2_with fail
      go_roundw
      case rel =>
        refine ⟨k + 1, zs.set k ((z + 1) % 256), by omega, by go_num, Lib.hid (isB_set hzB.out _ _ (by omega)), Lib.hid (by simpa using hzl.out), Lib.hid (Kt.out.setFar _ _ _ (by omega)), Lib.hid (owns_set Ko.out k _), Lib.hid (below_set Kb.out ga k _ hga.1)⟩
      case measure => simp [intOf]; omega
    · obtain rfl : k = ts.length := by omega
      have B := Lib.hid (below_size B6.out Kb.out)
      have R := Lib.hid (R6.out.below Kb.out)
      have S := Lib.hid (S6.out.below Kb.out)
      have I := Lib.hid (I6.out.below Kb.out)
      have bx := Lib.hid (bx6.out.below Kb.out)
      have bs := Lib.hid (bs6.out.below Kb.out)
      have bi := Lib.hid (bi6.out.below Kb.out)
      have c0 := Kt.out.box.c0; have c1 := Kt.out.box.c1; have c2 := Kt.out.box.c2; have c3 := Kt.out.box.c3; have c4 := Kt.out.c4
      go_wp2_with fail
      clear c0 c1 c2 c3 c4
      clear R6 S6 I6 bx6 bs6 bi6 B6 Kt Ko Kb TI hzB hzl HT7
      clear A1 A2 S1 S2 HF HG tB hk hlt zs
      have M1 := fun x : GrownW wr => mayShape_any W H C D x.val hH
      have M2 := fun x : GrownW wr => rmayShape_any W H C D x.val hH
      have M3 := fun x : GrownW wr => may_any W H C D ai n ki x.val hH
      have M4 := fun x : GrownW wr => rmay_any W H C D a n cap x.val hH
      have M5 := fun x : GrownW wr => row_any W H C D x.val
      have M6 := fun x : GrownW wr => rrow_any W H C D x.val
      have M7 := fun x : GrownW wr => size_any W H C D x.val hH
      have M8 := fun x : GrownW wr => rsize_any W H C D x.val hH
      have M9 := fun x : GrownW wr => same_any W H C D W2 H2 C2 D2 ai b n ki m cb xs ys x.val (I.out.below x.below) (S.out.below x.below) hXB.out hYB.out
      have M10 := fun x : GrownW wr => eqRaster_any W H C D W2 H2 C2 D2 a b n cap m cb xs ys x.val (R.out.below x.below) (S.out.below x.below) hXB.out hYB.out
      have M11 := fun x : GrownW wr => eqRaster_any W H C D W H C D ai a n ki n cap xs xs x.val (I.out.below x.below) (R.out.below x.below) hXB.out hXB.out
      rw [same_eq] at M9
      rw [eqR_self] at M11
      generalize eqR W H C D xs W2 H2 C2 D2 ys = r1 at *
      generalize mayN W H C D = r2 at *
      generalize mayR W H C D n = r3 at *
      generalize rowN W H C D = r4 at *
      generalize sizeN W H C D = r5 at *
      have N1 := Lib.hid M1; have N2 := Lib.hid M2; have N3 := Lib.hid M3; have N4 := Lib.hid M4; have N5 := Lib.hid M5; have N6 := Lib.hid M6; have N7 := Lib.hid M7; have N8 := Lib.hid M8; have N9 := Lib.hid M9; have N10 := Lib.hid M10; have N11 := Lib.hid M11
      clear M1 M2 M3 M4 M5 M6 M7 M8 M9 M10 M11 hH hv
      have c0 := fun x : GrownW wr => x.cell bx.out.lt bx.out.box.c0; have c1 := fun x : GrownW wr => x.cell bx.out.lt bx.out.box.c1; have c2 := fun x : GrownW wr => x.cell bx.out.lt bx.out.box.c2; have c3 := fun x : GrownW wr => x.cell bx.out.lt bx.out.box.c3; have c4 := fun x : GrownW wr => x.cell bx.out.lt bx.out.c4
      have d0 := fun x : GrownW wr => x.cell bs.out.lt bs.out.box.c0; have d1 := fun x : GrownW wr => x.cell bs.out.lt bs.out.box.c1; have d2 := fun x : GrownW wr => x.cell bs.out.lt bs.out.box.c2; have d3 := fun x : GrownW wr => x.cell bs.out.lt bs.out.box.c3; have d4 := fun x : GrownW wr => x.cell bs.out.lt bs.out.c4
      have k0 := fun x : GrownW wr => x.cell bi.out.lt bi.out.box.c0; have k1 := fun x : GrownW wr => x.cell bi.out.lt bi.out.box.c1; have k2 := fun x : GrownW wr => x.cell bi.out.lt bi.out.box.c2; have k3 := fun x : GrownW wr => x.cell bi.out.lt bi.out.box.c3; have k4 := fun x : GrownW wr => x.cell bi.out.lt bi.out.c4
      refine wp_region_grow_lit (by kernel_rfl) (by kernel_rfl) ?_
      simp only [List.append_eq, List.cons_append, List.nil_append]
      iterate 65 (go_big_quiet_step (first
        | (go_at_call 8; exact grow_call (first_any _))
        | (go_at_call 16; exact grow_call (N1.out _))
        | (go_at_call 17; exact grow_call (N2.out _))
        | (go_at_call 18; exact grow_call (N3.out _))
        | (go_at_call 19; exact grow_call (N4.out _))
        | (go_at_call 20; exact grow_call (N5.out _))
        | (go_at_call 21; exact grow_call (N6.out _))
        | (go_at_call 22; exact grow_call (N7.out _))
        | (go_at_call 23; exact grow_call (N8.out _))
        | (go_at_call 24; exact grow_call (N9.out _))
        | (go_at_call 15; exact grow_call (N10.out _))))
      repeat (go_big_quiet_step ((go_at_call 15; exact grow_call (N11.out _))))
      refine wpQuiet_nil ?_
      intro wg hw'
      obtain ⟨⟨wz, hbg⟩, hw2⟩ := hw'
      subst hw2
      go_wp2_with fail
      go_ret
      exact ⟨rfl, below_size B.out hbg⟩

theorem walk_PixAsks (W H C D : Int) (a : Option Addr) (n cap : Nat) (xs : List Int) (W2 H2 C2 D2 : Int) (b : Option Addr) (m cb : Nat) (ys : List Int) (x y c v : Int) (w : World) (_ : -9223372036854775808 ≤ W ∧ W ≤ 9223372036854775807) (hH : -9223372036854775808 ≤ H ∧ H ≤ 9223372036854775807) (_ : -9223372036854775808 ≤ C ∧ C ≤ 9223372036854775807) (_ : -9223372036854775808 ≤ D ∧ D ≤ 9223372036854775807) (hr : Reads .u8 w a n cap xs) (hx : isB xs) (_ : -9223372036854775808 ≤ W2 ∧ W2 ≤ 9223372036854775807) (_ : -9223372036854775808 ≤ H2 ∧ H2 ≤ 9223372036854775807) (_ : -9223372036854775808 ≤ C2 ∧ C2 ≤ 9223372036854775807) (_ : -9223372036854775808 ≤ D2 ∧ D2 ≤ 9223372036854775807) (hs : Reads .u8 w b m cb ys) (hy : isB ys) (_ : -9223372036854775808 ≤ x ∧ x ≤ 9223372036854775807) (_ : -9223372036854775808 ≤ y ∧ y ≤ 9223372036854775807) (_ : -9223372036854775808 ≤ c ∧ c ≤ 9223372036854775807) (hv : -9223372036854775808 ≤ v ∧ v ≤ 9223372036854775807) :
    Calls Try.prog 3 #[ras W H C D a n cap, ras W2 H2 C2 D2 b m cb, .int .i64 x, .int .i64 y, .int .i64 c, .int .i64 v] w fun e w' => e = .returned (.bool true) ∧ Below w.heap.size w w' := by
  by_cases h1 : n ≤ 20000
  · by_cases h2 : m ≤ 20000
    · exact asks_main W H C D a n cap xs W2 H2 C2 D2 b m cb ys x y c v w hr hx hs hy hH hv h1 h2
    · exact asks_few2 W H C D a n cap xs W2 H2 C2 D2 b m cb ys x y c v w hr hx hs hy hH hv ⟨h1, h2⟩
  · exact asks_few1 W H C D a n cap xs W2 H2 C2 D2 b m cb ys x y c v w hr hx hs hy hH hv h1
end Go.Proofs.Ytdlmcjcdmjkhhaa
