/-
  The walk of PixBytes.
-/
import Derived.Test.YtdlmcjcdmjkhhaaPixRefDec
import Derived.Test.YtdlmcjcdmjkhhaaAquref
namespace Go.Proofs.Ytdlmcjcdmjkhhaa
open Go.RowKit

set_option maxRecDepth 100000 in
set_option maxHeartbeats 4000000 in
theorem bytes_few1 (W H C D : Int) (a : Option Addr) (n cap : Nat) (xs : List Int) (b : Option Addr) (m cb : Nat) (ys : List Int) (w : World) (hr : Reads .u8 w a n cap xs) (hx : isB xs) (hs : Reads .u8 w b m cb ys) (hy : isB ys) (hH : -9223372036854775808 ≤ H ∧ H ≤ 9223372036854775807) (h : ¬ n ≤ 20000) :
    Calls Try.prog 4 #[ras W H C D a n cap, .slice b m cb] w fun e w' => e = .returned (.bool true) ∧ Below w.heap.size w w' := by
  have hF := fun w' => few_any W H C D a n cap w'
  simp only [h, decide_false] at hF
  go_enter Try.func4, Try.ntmps4
  go_wp2_with fail
  have bx := rbox_alloc w W H C D a n cap 26
  refine (first_any _).mono ?_; rintro e w1 ⟨rfl, b1⟩
  have B := below_size ((Below.refl _ _).alloc (Nat.le_refl _) _) b1
  replace bx := bx.below b1
  have c0 := bx.box.c0; have c1 := bx.box.c1; have c2 := bx.box.c2; have c3 := bx.box.c3; have c4 := bx.c4
  clear b1
  go_wp2_with fail
  refine (hF _).mono ?_; rintro e w2 ⟨rfl, b2⟩
  replace B := below_size B b2
  clear c0 c1 c2 c3 c4
  clear bx b2
  go_wp2_with fail
  refine (first_any _).mono ?_; rintro e w3 ⟨rfl, b3⟩
  replace B := below_size B b3
  go_wp2_with fail
  go_ret
  exact ⟨rfl, B⟩

set_option maxRecDepth 100000 in
set_option maxHeartbeats 4000000 in
theorem bytes_few2 (W H C D : Int) (a : Option Addr) (n cap : Nat) (xs : List Int) (b : Option Addr) (m cb : Nat) (ys : List Int) (w : World) (hr : Reads .u8 w a n cap xs) (hx : isB xs) (hs : Reads .u8 w b m cb ys) (hy : isB ys) (hH : -9223372036854775808 ≤ H ∧ H ≤ 9223372036854775807) (h : n ≤ 20000 ∧ ¬ m ≤ 20000) :
    Calls Try.prog 4 #[ras W H C D a n cap, .slice b m cb] w fun e w' => e = .returned (.bool true) ∧ Below w.heap.size w w' := by
  have hF := fun w' => few_any W H C D a n cap w'
  simp only [h.1, decide_true] at hF
  have hm : (20000 : Int) < m := by omega
  clear h
  go_enter Try.func4, Try.ntmps4
  go_wp2_with fail
  have bx := rbox_alloc w W H C D a n cap 26
  refine (first_any _).mono ?_; rintro e w1 ⟨rfl, b1⟩
  have B := below_size ((Below.refl _ _).alloc (Nat.le_refl _) _) b1
  replace bx := bx.below b1
  have c0 := bx.box.c0; have c1 := bx.box.c1; have c2 := bx.box.c2; have c3 := bx.box.c3; have c4 := bx.c4
  clear b1
  go_wp2_with fail
  refine (hF _).mono ?_; rintro e w2 ⟨rfl, b2⟩
  replace B := below_size B b2
  clear c0 c1 c2 c3 c4
  clear bx b2
  go_wp2_with fail
  refine (first_any _).mono ?_; rintro e w3 ⟨rfl, b3⟩
  replace B := below_size B b3
  go_wp2_with fail
  go_ret
  exact ⟨rfl, B⟩

theorem encL_isB {W H C D : Int} {n : Nat} {xs : List Int} (hx : isB xs) : isB (encL W H C D n xs) := by
  unfold encL
  split
  · next h => exact (hdr_isB h).append hx
  · exact isB.nil
theorem rP_isB {xs : List Int} (hx : isB xs) : isB (rP xs) := by
  unfold rP
  split
  · exact hx.drop 7
  · exact isB.nil

set_option maxRecDepth 100000 in
set_option maxHeartbeats 4000000 in
theorem bytes_main (W H C D : Int) (a : Option Addr) (n cap : Nat) (xs : List Int) (b : Option Addr) (m cb : Nat) (ys : List Int) (w : World) (hr : Reads .u8 w a n cap xs) (hx : isB xs) (hs : Reads .u8 w b m cb ys) (hy : isB ys) (hH : -9223372036854775808 ≤ H ∧ H ≤ 9223372036854775807) (hn : n ≤ 20000) (hm20 : m ≤ 20000) :
    Calls Try.prog 4 #[ras W H C D a n cap, .slice b m cb] w fun e w' => e = .returned (.bool true) ∧ Below w.heap.size w w' := by
  have hF := fun w' => few_any W H C D a n cap w'
  simp only [hn, decide_true] at hF
  have hmm : decide ((20000 : Int) < m) = false := by simp; omega
  have E1 := Lib.hid (fun w' hr' => enc_any W H C D a n cap xs w' hr' hx hH)
  have E2 := Lib.hid (fun w' hr' => renc_any W H C D a n cap xs w' hr' hx hH)
  have eB := Lib.hid (encL_isB (W := W) (H := H) (C := C) (D := D) (n := n) hx)
  generalize encL W H C D n xs = es at *
  generalize encE W H C D n = ee at *
  have D1 := Lib.hid (fun (q : Option Addr) (k : Nat) (w' : World) hr' => dec_any q m k ys w' hr' hy (by omega))
  have D2 := Lib.hid (fun (w' : World) hr' => rdec_any b m cb ys w' hr' hy (by omega))
  have pB := Lib.hid (rP_isB hy)
  generalize rW ys = W' at *
  generalize rH ys = H' at *
  generalize rC ys = C' at *
  generalize rD ys = D' at *
  generalize rP ys = ps at *
  generalize decErr ys = de at *
  have HF := Lib.hid hF; have R := Lib.hid hr; have S := Lib.hid hs
  have HL := Lib.hid hs.len
  clear hF hr hs
  go_enter Try.func4, Try.ntmps4
  go_wp2_with fail
  have bl : Below w.heap.size w (w.alloc (.cells #[.int .i64 W, .int .i64 H, .int .i64 C, .int .i64 D, .slice a n cap] 26)) := (Below.refl _ _).alloc (Nat.le_refl _) _
  have bx := Lib.hid (rbox_alloc w W H C D a n cap 26)
  have B := Lib.hid bl
  replace R := Lib.hid (R.out.below bl)
  replace S := Lib.hid (S.out.below bl)
  generalize w.alloc (.cells #[.int .i64 W, .int .i64 H, .int .i64 C, .int .i64 D, .slice a n cap] 26) = v0 at *
  clear bl
  refine (first_any _).mono ?_; rintro e w1 ⟨rfl, bb⟩
  replace B := Lib.hid (below_size B.out bb)
  replace R := Lib.hid (R.out.below bb)
  replace S := Lib.hid (S.out.below bb)
  replace bx := Lib.hid (bx.out.below bb)
  have c0 := bx.out.box.c0; have c1 := bx.out.box.c1; have c2 := bx.out.box.c2; have c3 := bx.out.box.c3; have c4 := bx.out.c4
  clear bb
  go_wp2_with fail
  refine (HF.out _).mono ?_; rintro e w2 ⟨rfl, bb⟩
  replace B := Lib.hid (below_size B.out bb)
  replace R := Lib.hid (R.out.below bb)
  replace S := Lib.hid (S.out.below bb)
  replace bx := Lib.hid (bx.out.below bb)
  clear c0 c1 c2 c3 c4
  clear bb
  go_wp2_with fail
  refine (copyBytes_any _ _ _ _ _ S.out (by omega)).mono ?_; rintro e w3 ⟨ai, ki, rfl, oi, bb⟩
  replace B := Lib.hid (below_size B.out bb)
  replace R := Lib.hid (R.out.below bb)
  replace S := Lib.hid (S.out.below bb)
  replace bx := Lib.hid (bx.out.below bb)
  rw [HL.out] at oi
  rw [HL.out]
  have I := Lib.hid (reads_of_owns oi)
  clear bb oi
  have c0 := bx.out.box.c0; have c1 := bx.out.box.c1; have c2 := bx.out.box.c2; have c3 := bx.out.box.c3; have c4 := bx.out.c4
  go_wp2_with fail
  refine (E1.out _ R.out).mono ?_; rintro e w4 ⟨ax, kx, rfl, ox, bb⟩
  replace B := Lib.hid (below_size B.out bb)
  replace R := Lib.hid (R.out.below bb)
  replace S := Lib.hid (S.out.below bb)
  replace I := Lib.hid (I.out.below bb)
  replace bx := Lib.hid (bx.out.below bb)
  have X := Lib.hid (reads_of_owns ox)
  clear c0 c1 c2 c3 c4
  clear bb ox
  have c0 := bx.out.box.c0; have c1 := bx.out.box.c1; have c2 := bx.out.box.c2; have c3 := bx.out.box.c3; have c4 := bx.out.c4
  go_wp2_with fail
  refine (E2.out _ R.out).mono ?_; rintro e w5 ⟨ay, ky, rfl, oy, bb⟩
  replace B := Lib.hid (below_size B.out bb)
  replace R := Lib.hid (R.out.below bb)
  replace S := Lib.hid (S.out.below bb)
  replace I := Lib.hid (I.out.below bb)
  replace X := Lib.hid (X.out.below bb)
  replace bx := Lib.hid (bx.out.below bb)
  have Y := Lib.hid (reads_of_owns oy)
  clear c0 c1 c2 c3 c4
  clear bb oy
  go_wp2_with fail
  refine (D1.out _ _ _ I.out).mono ?_; rintro e w6 ⟨ap, kp, rfl, op, bb⟩
  replace B := Lib.hid (below_size B.out bb)
  replace R := Lib.hid (R.out.below bb)
  replace S := Lib.hid (S.out.below bb)
  replace I := Lib.hid (I.out.below bb)
  replace X := Lib.hid (X.out.below bb)
  replace Y := Lib.hid (Y.out.below bb)
  replace bx := Lib.hid (bx.out.below bb)
  have P := Lib.hid (reads_of_owns op)
  have bl : Below w6.heap.size w6 (w6.alloc (.cells #[.int .i64 W', .int .i64 H', .int .i64 C', .int .i64 D', .slice ap ps.length kp] 26)) := (Below.refl _ _).alloc (Nat.le_refl _) _
  have bp := Lib.hid (rbox_alloc w6 W' H' C' D' ap ps.length kp 26)
  replace B := Lib.hid (below_size B.out bl)
  replace R := Lib.hid (R.out.below bl)
  replace S := Lib.hid (S.out.below bl)
  replace I := Lib.hid (I.out.below bl)
  replace X := Lib.hid (X.out.below bl)
  replace Y := Lib.hid (Y.out.below bl)
  replace P := Lib.hid (P.out.below bl)
  replace bx := Lib.hid (bx.out.below bl)
  clear bb bl op
  go_wp2_with fail
  generalize w6.alloc (.cells #[.int .i64 W', .int .i64 H', .int .i64 C', .int .i64 D', .slice ap ps.length kp] 26) = v6 at *
  generalize w6.heap.size = gp at *
  refine (D2.out _ S.out).mono ?_; rintro e w7 ⟨aq, kq, rfl, oq, bb⟩
  replace B := Lib.hid (below_size B.out bb)
  replace R := Lib.hid (R.out.below bb)
  replace S := Lib.hid (S.out.below bb)
  replace I := Lib.hid (I.out.below bb)
  replace X := Lib.hid (X.out.below bb)
  replace Y := Lib.hid (Y.out.below bb)
  replace P := Lib.hid (P.out.below bb)
  replace bx := Lib.hid (bx.out.below bb)
  replace bp := Lib.hid (bp.out.below bb)
  have Q := Lib.hid (reads_of_owns oq)
  have bl : Below w7.heap.size w7 (w7.alloc (.cells #[.int .i64 W', .int .i64 H', .int .i64 C', .int .i64 D', .slice aq ps.length kq] 26)) := (Below.refl _ _).alloc (Nat.le_refl _) _
  have bq := Lib.hid (rbox_alloc w7 W' H' C' D' aq ps.length kq 26)
  replace B := Lib.hid (below_size B.out bl)
  replace R := Lib.hid (R.out.below bl)
  replace S := Lib.hid (S.out.below bl)
  replace I := Lib.hid (I.out.below bl)
  replace X := Lib.hid (X.out.below bl)
  replace Y := Lib.hid (Y.out.below bl)
  replace P := Lib.hid (P.out.below bl)
  replace Q := Lib.hid (Q.out.below bl)
  replace bx := Lib.hid (bx.out.below bl)
  replace bp := Lib.hid (bp.out.below bl)
  clear bb bl oq
  go_wp2_with fail
  generalize w7.alloc (.cells #[.int .i64 W', .int .i64 H', .int .i64 C', .int .i64 D', .slice aq ps.length kq] 26) = v7 at *
  generalize w7.heap.size = gq at *
  refine (first_any _).mono ?_; rintro e w8 ⟨rfl, bb⟩
  replace B := Lib.hid (below_size B.out bb)
  replace R := Lib.hid (R.out.below bb)
  replace S := Lib.hid (S.out.below bb)
  replace I := Lib.hid (I.out.below bb)
  replace X := Lib.hid (X.out.below bb)
  replace Y := Lib.hid (Y.out.below bb)
  replace P := Lib.hid (P.out.below bb)
  replace Q := Lib.hid (Q.out.below bb)
  replace bx := Lib.hid (bx.out.below bb)
  replace bp := Lib.hid (bp.out.below bb)
  replace bq := Lib.hid (bq.out.below bb)
  clear bb
  go_wp2_with fail
  have q1 := bytes_any _ _ _ _ _ _ _ _ _ X.out Y.out eB.out eB.out
  rw [decide_eq_true rfl] at q1
  have Q1 := Lib.hid q1; clear q1
  refine Q1.out.mono ?_; rintro e w9 ⟨rfl, rfl⟩
  clear Q1
  have c0 := bp.out.box.c0; have c1 := bp.out.box.c1; have c2 := bp.out.box.c2; have c3 := bp.out.box.c3; have c4 := bp.out.c4
  have d0 := bq.out.box.c0; have d1 := bq.out.box.c1; have d2 := bq.out.box.c2; have d3 := bq.out.box.c3; have d4 := bq.out.c4
  go_wp2_with fail
  have q1 := eqRaster_any W' H' C' D' W' H' C' D' _ _ _ _ _ _ _ _ _ P.out Q.out pB.out pB.out
  rw [eqR_self] at q1
  have Q1 := Lib.hid q1; clear q1
  refine Q1.out.mono ?_; rintro e w10 ⟨rfl, bb⟩
  replace B := Lib.hid (below_size B.out bb)
  replace I := Lib.hid (I.out.below bb)
  replace S := Lib.hid (S.out.below bb)
  clear Q1 bb
  clear c0 c1 c2 c3 c4 d0 d1 d2 d3 d4
  go_wp2_with fail
  have q1 := bytes_any _ _ _ _ _ _ _ _ _ I.out S.out hy hy
  rw [decide_eq_true rfl] at q1
  have Q1 := Lib.hid q1; clear q1
  refine Q1.out.mono ?_; rintro e w11 ⟨rfl, rfl⟩
  go_wp2_with fail
  go_ret
  exact ⟨rfl, B.out⟩

theorem walk_PixBytes (W H C D : Int) (a : Option Addr) (n cap : Nat) (xs : List Int) (b : Option Addr) (m cb : Nat) (ys : List Int) (w : World) (_ : -9223372036854775808 ≤ W ∧ W ≤ 9223372036854775807) (hH : -9223372036854775808 ≤ H ∧ H ≤ 9223372036854775807) (_ : -9223372036854775808 ≤ C ∧ C ≤ 9223372036854775807) (_ : -9223372036854775808 ≤ D ∧ D ≤ 9223372036854775807) (hr : Reads .u8 w a n cap xs) (hx : isB xs) (hs : Reads .u8 w b m cb ys) (hy : isB ys) :
    Calls Try.prog 4 #[ras W H C D a n cap, .slice b m cb] w fun e w' => e = .returned (.bool true) ∧ Below w.heap.size w w' := by
  by_cases h1 : n ≤ 20000
  · by_cases h2 : m ≤ 20000
    · exact bytes_main W H C D a n cap xs b m cb ys w hr hx hs hy hH h1 h2
    · exact bytes_few2 W H C D a n cap xs b m cb ys w hr hx hs hy hH ⟨h1, h2⟩
  · exact bytes_few1 W H C D a n cap xs b m cb ys w hr hx hs hy hH h1
end Go.Proofs.Ytdlmcjcdmjkhhaa
