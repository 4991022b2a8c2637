/-
  The walk of TileCuts.
-/
import Derived.Test.YtdmaoaclhaofbaaTileHasL
import Derived.Deep.DeepCutAuto
namespace Go.Proofs.Ytdmaoaclhaofbaa
open Go.RowKit

set_option maxRecDepth 100000 in
set_option maxHeartbeats 4000000 in
theorem cuts_few (W H C D : Int) (a : Option Addr) (n cap : Nat) (xs : List Int) (i : Int) (w : World) (hr : Reads .u8 w a n cap xs) (hx : isB xs) (hH : -9223372036854775808 ≤ H ∧ H ≤ 9223372036854775807) (h : ¬ n ≤ 20000) :
    Calls Try.prog 3 #[ras W H C D a n cap, .int .i64 i] w fun e w' => e = .returned (.bool true) ∧ Below w.heap.size w w' := by
  have hF := fun w' => few_any W H C D a n cap w'
  simp only [h, decide_false] at hF
  have HF := Lib.hid hF
  clear hF hr h
  have bl : Below w.heap.size w (w.alloc (.cells #[.int .i64 W, .int .i64 H, .int .i64 C, .int .i64 D, .slice a n cap] 26)) := (Below.refl _ _).alloc (Nat.le_refl _) _
  have bx := Lib.hid (rbox_alloc w W H C D a n cap 26)
  have B := Lib.hid bl
  go_enter Try.func3, Try.ntmps3
  go_wp2_with fail
  generalize (w.alloc (.cells #[.int .i64 W, .int .i64 H, .int .i64 C, .int .i64 D, .slice a n cap] 26)) = v0 at *
  clear bl
  refine (first_any _).mono ?_; rintro e w1 ⟨rfl, bb⟩
  replace B := Lib.hid (below_size B.out bb)
  replace bx := Lib.hid (bx.out.below bb)
  clear bb
  have c0 := bx.out.box.c0; have c1 := bx.out.box.c1; have c2 := bx.out.box.c2; have c3 := bx.out.box.c3; have c4 := bx.out.c4
  go_wp2_with fail
  clear c0 c1 c2 c3 c4
  refine (HF.out _).mono ?_; rintro e w2 ⟨rfl, bb⟩
  replace B := Lib.hid (below_size B.out bb)
  replace bx := Lib.hid (bx.out.below bb)
  clear bb
  go_wp2_with fail
  refine (first_any _).mono ?_; rintro e w3 ⟨rfl, bb⟩
  replace B := Lib.hid (below_size B.out bb)
  replace bx := Lib.hid (bx.out.below bb)
  clear bb
  go_wp2_with fail
  go_ret
  exact ⟨rfl, B.out⟩

set_option maxRecDepth 100000 in
set_option maxHeartbeats 4000000 in
theorem cuts_no (W H C D : Int) (a : Option Addr) (n cap : Nat) (xs : List Int) (i : Int) (w : World) (hr : Reads .u8 w a n cap xs) (hx : isB xs) (hH : -9223372036854775808 ≤ H ∧ H ≤ 9223372036854775807) (hn : n ≤ 20000) (hm : mayR W H C D n = false) :
    Calls Try.prog 3 #[ras W H C D a n cap, .int .i64 i] w fun e w' => e = .returned (.bool true) ∧ Below w.heap.size w w' := by
  have hF := fun w' => few_any W H C D a n cap w'
  simp only [hn, decide_true] at hF
  have HF := Lib.hid hF
  have G1 := Lib.hid (fun (w' : World) => grid_any W H C D w' hH)
  have G2 := Lib.hid (fun (w' : World) => rgrid_any W H C D w' hH)
  have S1 := Lib.hid (fun (w' : World) => shape_any W H C D i w' hH)
  have S2 := Lib.hid (fun (w' : World) => rshape_any W H C D i w' hH)
  have hXB := Lib.hid hx
  have C1 := Lib.hid (fun (q : Option Addr) (k : Nat) (w' : World) => cut_no W H C D q n k w' hH hm)
  have C2 := Lib.hid (fun (q : Option Addr) (k : Nat) (w' : World) => rcut_no W H C D q n k w' hH hm)
  generalize (grA W H C D).1 = gw at *
  generalize (grA W H C D).2 = gh at *
  generalize (shA W H C D i).1.1 = sW at *
  generalize (shA W H C D i).1.2.1 = sH at *
  generalize (shA W H C D i).1.2.2.1 = sC at *
  generalize (shA W H C D i).1.2.2.2 = sD at *
  generalize (shA W H C D i).2 = se at *
  have R := Lib.hid hr
  have HL := Lib.hid hr.len
  clear hF hr hx
  have bl : Below w.heap.size w (w.alloc (.cells #[.int .i64 W, .int .i64 H, .int .i64 C, .int .i64 D, .slice a n cap] 26)) := (Below.refl _ _).alloc (Nat.le_refl _) _
  have bx := Lib.hid (rbox_alloc w W H C D a n cap 26)
  have B := Lib.hid bl
  replace R := Lib.hid (R.out.below bl)
  go_enter Try.func3, Try.ntmps3
  go_wp2_with fail
  generalize (w.alloc (.cells #[.int .i64 W, .int .i64 H, .int .i64 C, .int .i64 D, .slice a n cap] 26)) = v0 at *
  clear bl
  refine (first_any _).mono ?_; rintro e w1 ⟨rfl, bb⟩
  replace B := Lib.hid (below_size B.out bb)
  replace bx := Lib.hid (bx.out.below bb)
  replace R := Lib.hid (R.out.below bb)
  clear bb
  have c0 := bx.out.box.c0; have c1 := bx.out.box.c1; have c2 := bx.out.box.c2; have c3 := bx.out.box.c3; have c4 := bx.out.c4
  go_wp2_with fail
  clear c0 c1 c2 c3 c4
  refine (HF.out _).mono ?_; rintro e w2 ⟨rfl, bb⟩
  replace B := Lib.hid (below_size B.out bb)
  replace bx := Lib.hid (bx.out.below bb)
  replace R := Lib.hid (R.out.below bb)
  clear bb
  have c0 := bx.out.box.c0; have c1 := bx.out.box.c1; have c2 := bx.out.box.c2; have c3 := bx.out.box.c3; have c4 := bx.out.c4
  go_wp2_with fail
  clear c0 c1 c2 c3 c4
  refine (copy_any W H C D _ n cap xs _ R.out (by omega)).mono ?_; rintro e u0 ⟨ai, ki, rfl, oi, bb⟩
  replace B := Lib.hid (below_size B.out bb)
  replace bx := Lib.hid (bx.out.below bb)
  replace R := Lib.hid (R.out.below bb)
  rw [HL.out] at oi
  rw [HL.out]
  have I := Lib.hid (reads_of_owns oi)
  have bl : Below u0.heap.size u0 (u0.alloc (.cells #[.int .i64 W, .int .i64 H, .int .i64 C, .int .i64 D, .slice ai n ki] 26)) := (Below.refl _ _).alloc (Nat.le_refl _) _
  have bi := Lib.hid (rbox_alloc u0 W H C D ai n ki 26)
  replace B := Lib.hid (below_size B.out bl)
  replace bx := Lib.hid (bx.out.below bl)
  replace R := Lib.hid (R.out.below bl)
  replace I := Lib.hid (I.out.below bl)
  clear bb bl oi
  have c0 := bx.out.box.c0; have c1 := bx.out.box.c1; have c2 := bx.out.box.c2; have c3 := bx.out.box.c3; have c4 := bx.out.c4
  go_wp2_with fail
  clear c0 c1 c2 c3 c4
  generalize u0.alloc (.cells #[.int .i64 W, .int .i64 H, .int .i64 C, .int .i64 D, .slice ai n ki] 26) = v1 at *
  generalize u0.heap.size = gi at *
  refine (G1.out _).mono ?_; rintro e w4 ⟨rfl, bb⟩
  replace B := Lib.hid (below_size B.out bb)
  replace bx := Lib.hid (bx.out.below bb)
  replace R := Lib.hid (R.out.below bb)
  replace I := Lib.hid (I.out.below bb)
  replace bi := Lib.hid (bi.out.below bb)
  clear bb
  have c0 := bx.out.box.c0; have c1 := bx.out.box.c1; have c2 := bx.out.box.c2; have c3 := bx.out.box.c3; have c4 := bx.out.c4
  go_wp2_with fail
  clear c0 c1 c2 c3 c4
  refine (G2.out _).mono ?_; rintro e w5 ⟨rfl, bb⟩
  replace B := Lib.hid (below_size B.out bb)
  replace bx := Lib.hid (bx.out.below bb)
  replace R := Lib.hid (R.out.below bb)
  replace I := Lib.hid (I.out.below bb)
  replace bi := Lib.hid (bi.out.below bb)
  clear bb
  have c0 := bi.out.box.c0; have c1 := bi.out.box.c1; have c2 := bi.out.box.c2; have c3 := bi.out.box.c3; have c4 := bi.out.c4
  go_wp2_with fail
  clear c0 c1 c2 c3 c4
  refine (C1.out _ _ _).mono ?_; rintro e w6 ⟨rfl, bb⟩
  replace B := Lib.hid (below_size B.out bb)
  replace bx := Lib.hid (bx.out.below bb)
  replace R := Lib.hid (R.out.below bb)
  replace I := Lib.hid (I.out.below bb)
  replace bi := Lib.hid (bi.out.below bb)
  clear bb
  have c0 := bx.out.box.c0; have c1 := bx.out.box.c1; have c2 := bx.out.box.c2; have c3 := bx.out.box.c3; have c4 := bx.out.c4
  go_wp2_with fail
  clear c0 c1 c2 c3 c4
  refine (C2.out _ _ _).mono ?_; rintro e w7 ⟨rfl, bb⟩
  replace B := Lib.hid (below_size B.out bb)
  replace bx := Lib.hid (bx.out.below bb)
  replace R := Lib.hid (R.out.below bb)
  replace I := Lib.hid (I.out.below bb)
  replace bi := Lib.hid (bi.out.below bb)
  clear bb
  have c0 := bx.out.box.c0; have c1 := bx.out.box.c1; have c2 := bx.out.box.c2; have c3 := bx.out.box.c3; have c4 := bx.out.c4
  go_wp2_with fail
  clear c0 c1 c2 c3 c4
  refine (S1.out _).mono ?_; rintro e s1 ⟨rfl, bb⟩
  replace B := Lib.hid (below_size B.out bb)
  replace bx := Lib.hid (bx.out.below bb)
  replace R := Lib.hid (R.out.below bb)
  replace I := Lib.hid (I.out.below bb)
  replace bi := Lib.hid (bi.out.below bb)
  have bl : Below s1.heap.size s1 (s1.alloc (.cells #[.int .i64 sW, .int .i64 sH, .int .i64 sC, .int .i64 sD] 23)) := (Below.refl _ _).alloc (Nat.le_refl _) _
  have b1 := Lib.hid (box_alloc s1 sW sH sC sD 23)
  replace B := Lib.hid (below_size B.out bl)
  replace bx := Lib.hid (bx.out.below bl)
  replace R := Lib.hid (R.out.below bl)
  replace I := Lib.hid (I.out.below bl)
  replace bi := Lib.hid (bi.out.below bl)
  clear bb bl
  have c0 := bx.out.box.c0; have c1 := bx.out.box.c1; have c2 := bx.out.box.c2; have c3 := bx.out.box.c3; have c4 := bx.out.c4
  go_wp2_with fail
  clear c0 c1 c2 c3 c4
  generalize s1.alloc (.cells #[.int .i64 sW, .int .i64 sH, .int .i64 sC, .int .i64 sD] 23) = t1 at *
  generalize s1.heap.size = gs1 at *
  refine (S2.out _).mono ?_; rintro e s2 ⟨rfl, bb⟩
  replace B := Lib.hid (below_size B.out bb)
  replace bx := Lib.hid (bx.out.below bb)
  replace R := Lib.hid (R.out.below bb)
  replace I := Lib.hid (I.out.below bb)
  replace bi := Lib.hid (bi.out.below bb)
  replace b1 := Lib.hid (b1.out.below bb)
  have bl : Below s2.heap.size s2 (s2.alloc (.cells #[.int .i64 sW, .int .i64 sH, .int .i64 sC, .int .i64 sD] 23)) := (Below.refl _ _).alloc (Nat.le_refl _) _
  have b2 := Lib.hid (box_alloc s2 sW sH sC sD 23)
  replace B := Lib.hid (below_size B.out bl)
  replace bx := Lib.hid (bx.out.below bl)
  replace R := Lib.hid (R.out.below bl)
  replace I := Lib.hid (I.out.below bl)
  replace bi := Lib.hid (bi.out.below bl)
  replace b1 := Lib.hid (b1.out.below bl)
  clear bb bl
  have c0 := bx.out.box.c0; have c1 := bx.out.box.c1; have c2 := bx.out.box.c2; have c3 := bx.out.box.c3; have c4 := bx.out.c4
  go_wp2_with fail
  clear c0 c1 c2 c3 c4
  generalize s2.alloc (.cells #[.int .i64 sW, .int .i64 sH, .int .i64 sC, .int .i64 sD] 23) = t2 at *
  generalize s2.heap.size = gs2 at *
  refine (rasters_nil _).mono ?_; rintro e w10 ⟨rfl, bb⟩
  replace B := Lib.hid (below_size B.out bb)
  replace bx := Lib.hid (bx.out.below bb)
  replace R := Lib.hid (R.out.below bb)
  replace I := Lib.hid (I.out.below bb)
  replace bi := Lib.hid (bi.out.below bb)
  replace b1 := Lib.hid (b1.out.below bb)
  replace b2 := Lib.hid (b2.out.below bb)
  clear bb
  go_wp2_with fail
  clear C1 C2
  have hb9 := Lib.hid (Below.refl w10.heap.size w10)
  go_loopw [19] (fun vi wr => vi = .int .i64 0 ∧ wr = w10) (fun _ _ => 0)
  case atStart => exact ⟨rfl, rfl⟩
  case round =>
    obtain ⟨rfl, hwr⟩ := hrel
    subst hwr
    go_wp2_with fail
    clear G1 G2 S1 S2 HF
    have e1 : decide (eqS sW sH sC sD sW sH sC sD) = true := by simp [eqS]
    have M1 := fun w => eqShape_any sW sH sC sD sW sH sC sD w
    rw [e1] at M1
    have N1 := Lib.hid M1
    clear e1 M1
    refine (first_any _).mono ?_; rintro e w11 ⟨rfl, bb⟩
    replace B := Lib.hid (below_size B.out bb)
    replace R := Lib.hid (R.out.below bb)
    replace I := Lib.hid (I.out.below bb)
    replace bx := Lib.hid (bx.out.below bb)
    replace bi := Lib.hid (bi.out.below bb)
    replace b1 := Lib.hid (b1.out.below bb)
    replace b2 := Lib.hid (b2.out.below bb)
    clear bb
    have c0 := b1.out.c0; have c1 := b1.out.c1; have c2 := b1.out.c2; have c3 := b1.out.c3
    have d0 := b2.out.c0; have d1 := b2.out.c1; have d2 := b2.out.c2; have d3 := b2.out.c3
    go_wp2_with fail
    clear c0 c1 c2 c3
    clear d0 d1 d2 d3
    refine (N1.out _).mono ?_; rintro e w12 ⟨rfl, bb⟩
    replace B := Lib.hid (below_size B.out bb)
    replace R := Lib.hid (R.out.below bb)
    replace I := Lib.hid (I.out.below bb)
    replace bx := Lib.hid (bx.out.below bb)
    replace bi := Lib.hid (bi.out.below bb)
    replace b1 := Lib.hid (b1.out.below bb)
    replace b2 := Lib.hid (b2.out.below bb)
    clear bb
    have c0 := bi.out.box.c0; have c1 := bi.out.box.c1; have c2 := bi.out.box.c2; have c3 := bi.out.box.c3; have c4 := bi.out.c4
    have d0 := bx.out.box.c0; have d1 := bx.out.box.c1; have d2 := bx.out.box.c2; have d3 := bx.out.box.c3; have d4 := bx.out.c4
    go_wp2_with fail
    clear c0 c1 c2 c3 c4
    clear d0 d1 d2 d3 d4
    have q1 := eqRaster_any W H C D W H C D _ _ _ _ _ _ _ _ _ I.out R.out hXB.out hXB.out
    rw [eqR_self] at q1
    have Q1 := Lib.hid q1
    clear q1
    refine (Q1.out).mono ?_; rintro e w13 ⟨rfl, bb⟩
    replace B := Lib.hid (below_size B.out bb)
    replace R := Lib.hid (R.out.below bb)
    replace I := Lib.hid (I.out.below bb)
    replace bx := Lib.hid (bx.out.below bb)
    replace bi := Lib.hid (bi.out.below bb)
    replace b1 := Lib.hid (b1.out.below bb)
    replace b2 := Lib.hid (b2.out.below bb)
    clear bb
    go_wp2_with fail
    go_ret
    exact ⟨rfl, B.out⟩

set_option maxRecDepth 100000 in
set_option maxHeartbeats 8000000 in
theorem cuts_yes (W H C D : Int) (b off : Nat) (n cap : Nat) (xs : List Int) (i : Int) (w : World) (hr : Reads .u8 w (some ⟨b, off, Option.none⟩) n cap xs) (hx : isB xs) (hH : -9223372036854775808 ≤ H ∧ H ≤ 9223372036854775807) (hn : n ≤ 20000) (hm : mayR W H C D n = true) :
    Calls Try.prog 3 #[ras W H C D (some ⟨b, off, Option.none⟩) n cap, .int .i64 i] w fun e w' => e = .returned (.bool true) ∧ Below w.heap.size w w' := by
  have hF := fun w' => few_any W H C D (some ⟨b, off, Option.none⟩) n cap w'
  simp only [hn, decide_true] at hF
  have HF := Lib.hid hF
  have G1 := Lib.hid (fun (w' : World) => grid_any W H C D w' hH)
  have G2 := Lib.hid (fun (w' : World) => rgrid_any W H C D w' hH)
  have S1 := Lib.hid (fun (w' : World) => shape_any W H C D i w' hH)
  have S2 := Lib.hid (fun (w' : World) => rshape_any W H C D i w' hH)
  have hXB := Lib.hid hx
  have C1 := Lib.hid (fun (p q k : Nat) (w' : World) hr' => cut_yes W H C D p q n k xs w' hm hr')
  have C2 := Lib.hid (fun (p q k : Nat) (w' : World) hr' => rcut_yes W H C D p q n k xs w' hm hr')
  obtain ⟨hbn, _, hns⟩ := mayR_spec hm
  have hn1 : 0 < n := by
    have h1 := row_pos hbn
    have h2 : 0 < rowN W H C D * H := Int.mul_pos (by omega) (by have := hbn.2.2.1; omega)
    unfold sizeN at hns
    omega
  obtain ⟨_, _, _, hN1, hN2⟩ := tN_bd hbn
  have TL := Lib.hid (tils_len W H C D xs (tN W H))
  have TB := Lib.hid (tils_isB (W := W) (H := H) (C := C) (D := D) hx (tN W H))
  have TP := Lib.hid (show ∀ k, k < tN W H → ((tils W H C D xs (tN W H)).map (·.2.length)).getD k 0 ≤ 16384 from fun k hk => by
    have := tilP_len hm hr.len k hk
    simpa [tils, List.getD, hk] using this)
  generalize hts : tils W H C D xs (tN W H) = ts at *
  generalize hNN : tN W H = N at *
  clear hts hNN hns hbn hm
  generalize (grA W H C D).1 = gw at *
  generalize (grA W H C D).2 = gh at *
  generalize (shA W H C D i).1.1 = sW at *
  generalize (shA W H C D i).1.2.1 = sH at *
  generalize (shA W H C D i).1.2.2.1 = sC at *
  generalize (shA W H C D i).1.2.2.2 = sD at *
  generalize (shA W H C D i).2 = se at *
  have R := Lib.hid hr
  have HL := Lib.hid hr.len
  clear hF hr hx
  have bl : Below w.heap.size w (w.alloc (.cells #[.int .i64 W, .int .i64 H, .int .i64 C, .int .i64 D, .slice (some ⟨b, off, Option.none⟩) n cap] 26)) := (Below.refl _ _).alloc (Nat.le_refl _) _
  have bx := Lib.hid (rbox_alloc w W H C D (some ⟨b, off, Option.none⟩) n cap 26)
  have B := Lib.hid bl
  replace R := Lib.hid (R.out.below bl)
  go_enter Try.func3, Try.ntmps3
  go_wp2_with fail
  generalize (w.alloc (.cells #[.int .i64 W, .int .i64 H, .int .i64 C, .int .i64 D, .slice (some ⟨b, off, Option.none⟩) n cap] 26)) = v0 at *
  clear bl
  refine (first_any _).mono ?_; rintro e w1 ⟨rfl, bb⟩
  replace B := Lib.hid (below_size B.out bb)
  replace bx := Lib.hid (bx.out.below bb)
  replace R := Lib.hid (R.out.below bb)
  clear bb
  have c0 := bx.out.box.c0; have c1 := bx.out.box.c1; have c2 := bx.out.box.c2; have c3 := bx.out.box.c3; have c4 := bx.out.c4
  go_wp2_with fail
  clear c0 c1 c2 c3 c4
  refine (HF.out _).mono ?_; rintro e w2 ⟨rfl, bb⟩
  replace B := Lib.hid (below_size B.out bb)
  replace bx := Lib.hid (bx.out.below bb)
  replace R := Lib.hid (R.out.below bb)
  clear bb
  have c0 := bx.out.box.c0; have c1 := bx.out.box.c1; have c2 := bx.out.box.c2; have c3 := bx.out.box.c3; have c4 := bx.out.c4
  go_wp2_with fail
  clear c0 c1 c2 c3 c4
  refine (copy_any W H C D _ n cap xs _ R.out (by omega)).mono ?_; rintro e u0 ⟨ai, ki, rfl, oi, bb⟩
  replace B := Lib.hid (below_size B.out bb)
  replace bx := Lib.hid (bx.out.below bb)
  replace R := Lib.hid (R.out.below bb)
  rw [HL.out] at oi
  rw [HL.out]
  obtain ⟨gb, rfl, hgb⟩ := owns_addr oi hn1
  clear hgb
  have I := Lib.hid (reads_of_owns oi)
  have bl : Below u0.heap.size u0 (u0.alloc (.cells #[.int .i64 W, .int .i64 H, .int .i64 C, .int .i64 D, .slice (some ⟨gb, 0, Option.none⟩) n ki] 26)) := (Below.refl _ _).alloc (Nat.le_refl _) _
  have bi := Lib.hid (rbox_alloc u0 W H C D (some ⟨gb, 0, Option.none⟩) n ki 26)
  replace B := Lib.hid (below_size B.out bl)
  replace bx := Lib.hid (bx.out.below bl)
  replace R := Lib.hid (R.out.below bl)
  replace I := Lib.hid (I.out.below bl)
  clear bb bl oi
  have c0 := bx.out.box.c0; have c1 := bx.out.box.c1; have c2 := bx.out.box.c2; have c3 := bx.out.box.c3; have c4 := bx.out.c4
  go_wp2_with fail
  clear c0 c1 c2 c3 c4
  generalize u0.alloc (.cells #[.int .i64 W, .int .i64 H, .int .i64 C, .int .i64 D, .slice (some ⟨gb, 0, Option.none⟩) n ki] 26) = v1 at *
  generalize u0.heap.size = gi at *
  refine (G1.out _).mono ?_; rintro e w4 ⟨rfl, bb⟩
  replace B := Lib.hid (below_size B.out bb)
  replace bx := Lib.hid (bx.out.below bb)
  replace R := Lib.hid (R.out.below bb)
  replace I := Lib.hid (I.out.below bb)
  replace bi := Lib.hid (bi.out.below bb)
  clear bb
  have c0 := bx.out.box.c0; have c1 := bx.out.box.c1; have c2 := bx.out.box.c2; have c3 := bx.out.box.c3; have c4 := bx.out.c4
  go_wp2_with fail
  clear c0 c1 c2 c3 c4
  refine (G2.out _).mono ?_; rintro e w5 ⟨rfl, bb⟩
  replace B := Lib.hid (below_size B.out bb)
  replace bx := Lib.hid (bx.out.below bb)
  replace R := Lib.hid (R.out.below bb)
  replace I := Lib.hid (I.out.below bb)
  replace bi := Lib.hid (bi.out.below bb)
  clear bb
  have c0 := bi.out.box.c0; have c1 := bi.out.box.c1; have c2 := bi.out.box.c2; have c3 := bi.out.box.c3; have c4 := bi.out.c4
  go_wp2_with fail
  clear c0 c1 c2 c3 c4
  have B6 := B; have R6 := R; have I6 := I; have bx6 := bx; have bi6 := bi
  refine (C1.out _ _ _ _ I.out).mono ?_; rintro e w7 ⟨g7, c7, vs, rfl, o7, t7, bb⟩
  replace B := Lib.hid (below_size B.out bb)
  replace bx := Lib.hid (bx.out.below bb)
  replace R := Lib.hid (R.out.below bb)
  replace I := Lib.hid (I.out.below bb)
  replace bi := Lib.hid (bi.out.below bb)
  have HS7 : w5.heap.size ≤ w7.heap.size := bb.size
  have F7 := Lib.hid bb
  have K7 := Lib.hid (show KL w7 w5.heap.size g7 N c7 w7.heap.size vs (ts.map (·.2.length)) from ⟨o7, t7.toL TB.out⟩)
  have L7 := Lib.hid (show LRas w7 w5.heap.size g7 N c7 ts from ⟨vs, o7, t7⟩)
  have J7 := Lib.hid (Below.refl w7.heap.size w7)
  clear bb o7 t7
  have c0 := bx.out.box.c0; have c1 := bx.out.box.c1; have c2 := bx.out.box.c2; have c3 := bx.out.box.c3; have c4 := bx.out.c4
  go_wp2_with fail
  clear c0 c1 c2 c3 c4
  refine (C2.out _ _ _ _ R.out).mono ?_; rintro e w8 ⟨g8, c8, us, rfl, o8, t8, bb⟩
  replace B := Lib.hid (below_size B.out bb)
  replace F7 := Lib.hid (below_size F7.out bb)
  replace J7 := Lib.hid (below_size J7.out bb)
  replace bx := Lib.hid (bx.out.below bb)
  replace R := Lib.hid (R.out.below bb)
  replace I := Lib.hid (I.out.below bb)
  replace bi := Lib.hid (bi.out.below bb)
  replace K7 := Lib.hid (K7.out.below bb)
  replace L7 := Lib.hid (L7.out.below bb)
  have L8 := Lib.hid (show LRas w8 w7.heap.size g8 N c8 ts from ⟨us, o8, t8⟩)
  clear bb o8 t8
  have c0 := bx.out.box.c0; have c1 := bx.out.box.c1; have c2 := bx.out.box.c2; have c3 := bx.out.box.c3; have c4 := bx.out.c4
  go_wp2_with fail
  clear c0 c1 c2 c3 c4
  refine (S1.out _).mono ?_; rintro e s1 ⟨rfl, bb⟩
  replace B := Lib.hid (below_size B.out bb)
  replace F7 := Lib.hid (below_size F7.out bb)
  replace J7 := Lib.hid (below_size J7.out bb)
  replace bx := Lib.hid (bx.out.below bb)
  replace R := Lib.hid (R.out.below bb)
  replace I := Lib.hid (I.out.below bb)
  replace bi := Lib.hid (bi.out.below bb)
  replace K7 := Lib.hid (K7.out.below bb)
  replace L7 := Lib.hid (L7.out.below bb)
  replace L8 := Lib.hid (L8.out.below bb)
  have bl : Below s1.heap.size s1 (s1.alloc (.cells #[.int .i64 sW, .int .i64 sH, .int .i64 sC, .int .i64 sD] 23)) := (Below.refl _ _).alloc (Nat.le_refl _) _
  have b1 := Lib.hid (box_alloc s1 sW sH sC sD 23)
  have hM1 : w7.heap.size ≤ s1.heap.size := J7.out.size
  replace B := Lib.hid (below_size B.out bl)
  replace F7 := Lib.hid (below_size F7.out bl)
  replace J7 := Lib.hid (below_size J7.out bl)
  replace bx := Lib.hid (bx.out.below bl)
  replace R := Lib.hid (R.out.below bl)
  replace I := Lib.hid (I.out.below bl)
  replace bi := Lib.hid (bi.out.below bl)
  replace K7 := Lib.hid (K7.out.below bl)
  replace L7 := Lib.hid (L7.out.below bl)
  replace L8 := Lib.hid (L8.out.below bl)
  clear bb bl
  have c0 := bx.out.box.c0; have c1 := bx.out.box.c1; have c2 := bx.out.box.c2; have c3 := bx.out.box.c3; have c4 := bx.out.c4
  go_wp2_with fail
  clear c0 c1 c2 c3 c4
  generalize s1.alloc (.cells #[.int .i64 sW, .int .i64 sH, .int .i64 sC, .int .i64 sD] 23) = t1 at *
  generalize s1.heap.size = gs1 at *
  refine (S2.out _).mono ?_; rintro e s2 ⟨rfl, bb⟩
  replace B := Lib.hid (below_size B.out bb)
  replace F7 := Lib.hid (below_size F7.out bb)
  replace J7 := Lib.hid (below_size J7.out bb)
  replace bx := Lib.hid (bx.out.below bb)
  replace R := Lib.hid (R.out.below bb)
  replace I := Lib.hid (I.out.below bb)
  replace bi := Lib.hid (bi.out.below bb)
  replace K7 := Lib.hid (K7.out.below bb)
  replace L7 := Lib.hid (L7.out.below bb)
  replace L8 := Lib.hid (L8.out.below bb)
  replace b1 := Lib.hid (b1.out.below bb)
  have bl : Below s2.heap.size s2 (s2.alloc (.cells #[.int .i64 sW, .int .i64 sH, .int .i64 sC, .int .i64 sD] 23)) := (Below.refl _ _).alloc (Nat.le_refl _) _
  have b2 := Lib.hid (box_alloc s2 sW sH sC sD 23)
  have hM2 : w7.heap.size ≤ s2.heap.size := J7.out.size
  replace B := Lib.hid (below_size B.out bl)
  replace F7 := Lib.hid (below_size F7.out bl)
  replace J7 := Lib.hid (below_size J7.out bl)
  replace bx := Lib.hid (bx.out.below bl)
  replace R := Lib.hid (R.out.below bl)
  replace I := Lib.hid (I.out.below bl)
  replace bi := Lib.hid (bi.out.below bl)
  replace K7 := Lib.hid (K7.out.below bl)
  replace L7 := Lib.hid (L7.out.below bl)
  replace L8 := Lib.hid (L8.out.below bl)
  replace b1 := Lib.hid (b1.out.below bl)
  clear bb bl
  go_wp2_with fail
  generalize s2.alloc (.cells #[.int .i64 sW, .int .i64 sH, .int .i64 sC, .int .i64 sD] 23) = t2 at *
  generalize s2.heap.size = gs2 at *
  refine (rasters_any _ _ _ _ _ _ _ _ _ L7.out L8.out TL.out (by omega) TB.out).mono ?_; rintro e w10 ⟨rfl, bb⟩
  replace B := Lib.hid (below_size B.out bb)
  replace F7 := Lib.hid (below_size F7.out bb)
  replace J7 := Lib.hid (below_size J7.out bb)
  replace bx := Lib.hid (bx.out.below bb)
  replace R := Lib.hid (R.out.below bb)
  replace I := Lib.hid (I.out.below bb)
  replace bi := Lib.hid (bi.out.below bb)
  replace K7 := Lib.hid (K7.out.below bb)
  replace L7 := Lib.hid (L7.out.below bb)
  replace L8 := Lib.hid (L8.out.below bb)
  replace b1 := Lib.hid (b1.out.below bb)
  replace b2 := Lib.hid (b2.out.below bb)
  clear bb
  clear L7 L8 C1 C2 J7 TB
  go_wp2_with fail
  have HM1 := Lib.hid hM1; have HM2 := Lib.hid hM2
  clear hM1 hM2
  have LEN := Lib.hid (show (ts.map (·.2.length)).length = N by simpa using TL.out)
  generalize ts.map (·.2.length) = ls at *
  clear TL
  go_loopw [19] (fun vi wr => ∃ k : Nat, k ≤ N ∧ vi = .int .i64 k ∧ Hid (KL wr w5.heap.size g7 N c7 w7.heap.size vs ls) ∧ Hid (Below w5.heap.size w5 wr) ∧ Hid (Box wr gs1 sW sH sC sD) ∧ Hid (Box wr gs2 sW sH sC sD)) (fun vi _ => N - (intOf vi).toNat)
  case atStart => exact ⟨0, Nat.zero_le _, rfl, K7, F7, b1, b2⟩
  case round =>
    obtain ⟨k, hk, rfl, K0, F0, p1, p2⟩ := hrel
    clear K7 F7 b1 b2 B R I bx bi
    by_cases hlt : k < N
    · obtain ⟨q, c, _, hv4, hqg, hq1, hq2, _, _⟩ := K0.out.has k (by rw [LEN.out]; exact hlt)
      have HV4 := Lib.hid hv4
      have hL := TP.out k hlt
      have LIK := Lib.hid (show k < ls.length by rw [LEN.out]; exact hlt)
      have hk4 := (K0.out.own.cellAt (k * 5 + 4) (by omega)).trans hv4
      obtain ⟨L, hLe⟩ : ∃ L, ls.getD k 0 = L := ⟨_, rfl⟩
      rw [hLe] at hL HV4 hk4
      have HLE := Lib.hid hLe
      clear hv4 hLe
      go_wp2_with fail
      clear hk4
      go_loopw [20] (fun vm wz => ∃ m : Nat, m ≤ L ∧ vm = .int .i64 m ∧ Hid (KL wz w5.heap.size g7 N c7 w7.heap.size vs ls) ∧ Hid (Below w5.heap.size w5 wz) ∧ Hid (Box wz gs1 sW sH sC sD) ∧ Hid (Box wz gs2 sW sH sC sD)) (fun vm _ => L - (intOf vm).toNat)
      case atStart => exact ⟨0, Nat.zero_le _, rfl, K0, F0, p1, p2⟩
      case round =>
        obtain ⟨m, hm, rfl, K1, F1, r1, r2⟩ := hrel
        clear K0 F0 p1 p2
        obtain ⟨q', c', zs, hv, _, _, _, hzB, ho⟩ := K1.out.has k LIK.out
        obtain ⟨rfl, rfl⟩ : q = q' ∧ c = c' := by
          have := HV4.out
          rw [← HLE.out, hv] at this
          simpa [eq_comm] using this
        rw [HLE.out] at ho hv
        have hk4 := (K1.out.own.cellAt (k * 5 + 4) (by omega)).trans hv
        have HO := Lib.hid ho
        clear ho hv
        by_cases hlm : m < L
        · have hc := owns_cell HO.out m hlm
          have hfz := HO.out.frozenAt m
          have hz := hzB.get m (by have := HO.out.1; simp at this; omega)
          generalize zs.getD m 0 = z at *
          clear hzB
          go_wp2_with fail
          go_roundw
          case rel => exact ⟨m + 1, by omega, by go_num, Lib.hid (K1.out.set q m _ hqg (by omega)), Lib.hid (below_set F1.out q m _ hq1), Lib.hid (r1.out.setFar q m _ (by have := HM1.out; omega)), Lib.hid (r2.out.setFar q m _ (by have := HM2.out; omega))⟩
          case measure => simp [intOf]; omega
        · obtain rfl : m = L := by omega
          clear hzB
          go_wp2_with fail
          go_roundw
          case rel => exact ⟨k + 1, by omega, by go_num, K1, F1, r1, r2⟩
          case measure => simp [intOf]; omega
    · obtain rfl : k = N := by omega
      have R := Lib.hid (R6.out.below F0.out)
      have I := Lib.hid (I6.out.below F0.out)
      have bx := Lib.hid (bx6.out.below F0.out)
      have bi := Lib.hid (bi6.out.below F0.out)
      have B := Lib.hid (below_size B6.out F0.out)
      have b1 := p1; have b2 := p2
      clear R6 I6 bx6 bi6 B6 K0 F0 p1 p2
      go_wp2_with fail
      clear G1 G2 S1 S2 HF
      have e1 : decide (eqS sW sH sC sD sW sH sC sD) = true := by simp [eqS]
      have M1 := fun w => eqShape_any sW sH sC sD sW sH sC sD w
      rw [e1] at M1
      have N1 := Lib.hid M1
      clear e1 M1
      refine (first_any _).mono ?_; rintro e w11 ⟨rfl, bb⟩
      replace B := Lib.hid (below_size B.out bb)
      replace R := Lib.hid (R.out.below bb)
      replace I := Lib.hid (I.out.below bb)
      replace bx := Lib.hid (bx.out.below bb)
      replace bi := Lib.hid (bi.out.below bb)
      replace b1 := Lib.hid (b1.out.below bb)
      replace b2 := Lib.hid (b2.out.below bb)
      clear bb
      have c0 := b1.out.c0; have c1 := b1.out.c1; have c2 := b1.out.c2; have c3 := b1.out.c3
      have d0 := b2.out.c0; have d1 := b2.out.c1; have d2 := b2.out.c2; have d3 := b2.out.c3
      go_wp2_with fail
      clear c0 c1 c2 c3
      clear d0 d1 d2 d3
      refine (N1.out _).mono ?_; rintro e w12 ⟨rfl, bb⟩
      replace B := Lib.hid (below_size B.out bb)
      replace R := Lib.hid (R.out.below bb)
      replace I := Lib.hid (I.out.below bb)
      replace bx := Lib.hid (bx.out.below bb)
      replace bi := Lib.hid (bi.out.below bb)
      replace b1 := Lib.hid (b1.out.below bb)
      replace b2 := Lib.hid (b2.out.below bb)
      clear bb
      have c0 := bi.out.box.c0; have c1 := bi.out.box.c1; have c2 := bi.out.box.c2; have c3 := bi.out.box.c3; have c4 := bi.out.c4
      have d0 := bx.out.box.c0; have d1 := bx.out.box.c1; have d2 := bx.out.box.c2; have d3 := bx.out.box.c3; have d4 := bx.out.c4
      go_wp2_with fail
      clear c0 c1 c2 c3 c4
      clear d0 d1 d2 d3 d4
      have q1 := eqRaster_any W H C D W H C D _ _ _ _ _ _ _ _ _ I.out R.out hXB.out hXB.out
      rw [eqR_self] at q1
      have Q1 := Lib.hid q1
      clear q1
      refine (Q1.out).mono ?_; rintro e w13 ⟨rfl, bb⟩
      replace B := Lib.hid (below_size B.out bb)
      replace R := Lib.hid (R.out.below bb)
      replace I := Lib.hid (I.out.below bb)
      replace bx := Lib.hid (bx.out.below bb)
      replace bi := Lib.hid (bi.out.below bb)
      replace b1 := Lib.hid (b1.out.below bb)
      replace b2 := Lib.hid (b2.out.below bb)
      clear bb
      go_wp2_with fail
      go_ret
      exact ⟨rfl, B.out⟩

theorem walk_TileCuts (W H C D : Int) (a : Option Addr) (n cap : Nat) (xs : List Int) (i : Int) (w : World) (_ : -9223372036854775808 ≤ W ∧ W ≤ 9223372036854775807) (hH : -9223372036854775808 ≤ H ∧ H ≤ 9223372036854775807) (_ : -9223372036854775808 ≤ C ∧ C ≤ 9223372036854775807) (_ : -9223372036854775808 ≤ D ∧ D ≤ 9223372036854775807) (hr : Reads .u8 w a n cap xs) (hx : isB xs) (_ : -9223372036854775808 ≤ i ∧ i ≤ 9223372036854775807) :
    Calls Try.prog 3 #[ras W H C D a n cap, .int .i64 i] w fun e w' => e = .returned (.bool true) ∧ Below w.heap.size w w' := by
  by_cases h1 : n ≤ 20000
  · cases h2 : mayR W H C D n with
    | false => exact cuts_no W H C D a n cap xs i w hr hx hH h1 h2
    | true =>
      obtain ⟨hbn, _, hns⟩ := mayR_spec h2
      have hn1 : 0 < n := by
        have h1 := row_pos hbn
        have h2 : 0 < rowN W H C D * H := Int.mul_pos (by omega) (by have := hbn.2.2.1; omega)
        unfold sizeN at hns
        omega
      obtain ⟨b, off, rfl, _, _⟩ := hr.cells hn1
      exact cuts_yes W H C D b off n cap xs i w hr hx hH h1 h2
  · exact cuts_few W H C D a n cap xs i w hr hx hH h1
end Go.Proofs.Ytdmaoaclhaofbaa
