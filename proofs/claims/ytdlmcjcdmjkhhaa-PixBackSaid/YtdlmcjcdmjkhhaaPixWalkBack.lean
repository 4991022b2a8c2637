/-
  The walk of PixBack.
-/
import Derived.Test.YtdlmcjcdmjkhhaaPixMore
namespace Go.Proofs.Ytdlmcjcdmjkhhaa
open Go.RowKit

set_option maxRecDepth 100000 in
set_option maxHeartbeats 4000000 in
theorem back_few1 (W H C D : Int) (a : Option Addr) (n cap : Nat) (xs : List Int) (b : Option Addr) (m cb : Nat) (ys : List Int) (w : World) (hr : Reads .u8 w a n cap xs) (hx : isB xs) (hs : Reads .u8 w b m cb ys) (hy : isB ys) (hH : -9223372036854775808 ≤ H ∧ H ≤ 9223372036854775807) (h : ¬ n ≤ 20000) :
    Calls Try.prog 5 #[ras W H C D a n cap, .slice b m cb] w fun e w' => e = .returned (.bool true) ∧ Below w.heap.size w w' := by
  have hF := fun w' => few_any W H C D a n cap w'
  simp only [h, decide_false] at hF
  go_enter Try.func5, Try.ntmps5
  go_wp2_with fail
  have bx := rbox_alloc w W H C D a n cap 26
  refine (first_any _).mono ?_; rintro e w1 ⟨rfl, b1⟩
  have B := below_size ((Below.refl _ _).alloc (Nat.le_refl _) _) b1
  replace bx := bx.below b1
  have c0 := bx.box.c0; have c1 := bx.box.c1; have c2 := bx.box.c2; have c3 := bx.box.c3; have c4 := bx.c4
  clear b1
  go_wp2_with fail
  refine (hF _).mono ?_; rintro e w2 ⟨rfl, b2⟩
  replace B := below_size B b2
  clear c0 c1 c2 c3 c4
  clear bx b2
  go_wp2_with fail
  refine (first_any _).mono ?_; rintro e w3 ⟨rfl, b3⟩
  replace B := below_size B b3
  go_wp2_with fail
  go_ret
  exact ⟨rfl, B⟩

set_option maxRecDepth 100000 in
set_option maxHeartbeats 4000000 in
theorem back_few2 (W H C D : Int) (a : Option Addr) (n cap : Nat) (xs : List Int) (b : Option Addr) (m cb : Nat) (ys : List Int) (w : World) (hr : Reads .u8 w a n cap xs) (hx : isB xs) (hs : Reads .u8 w b m cb ys) (hy : isB ys) (hH : -9223372036854775808 ≤ H ∧ H ≤ 9223372036854775807) (h : n ≤ 20000 ∧ ¬ m ≤ 20000) :
    Calls Try.prog 5 #[ras W H C D a n cap, .slice b m cb] w fun e w' => e = .returned (.bool true) ∧ Below w.heap.size w w' := by
  have hF := fun w' => few_any W H C D a n cap w'
  simp only [h.1, decide_true] at hF
  have hm : (20000 : Int) < m := by omega
  clear h
  go_enter Try.func5, Try.ntmps5
  go_wp2_with fail
  have bx := rbox_alloc w W H C D a n cap 26
  refine (first_any _).mono ?_; rintro e w1 ⟨rfl, b1⟩
  have B := below_size ((Below.refl _ _).alloc (Nat.le_refl _) _) b1
  replace bx := bx.below b1
  have c0 := bx.box.c0; have c1 := bx.box.c1; have c2 := bx.box.c2; have c3 := bx.box.c3; have c4 := bx.c4
  clear b1
  go_wp2_with fail
  refine (hF _).mono ?_; rintro e w2 ⟨rfl, b2⟩
  replace B := below_size B b2
  clear c0 c1 c2 c3 c4
  clear bx b2
  go_wp2_with fail
  refine (first_any _).mono ?_; rintro e w3 ⟨rfl, b3⟩
  replace B := below_size B b3
  go_wp2_with fail
  go_ret
  exact ⟨rfl, B⟩

set_option maxRecDepth 100000 in
set_option maxHeartbeats 4000000 in
theorem back_no (W H C D : Int) (a : Option Addr) (n cap : Nat) (xs : List Int) (b : Option Addr) (m cb : Nat) (ys : List Int) (w : World) (hr : Reads .u8 w a n cap xs) (hx : isB xs) (hs : Reads .u8 w b m cb ys) (hy : isB ys) (hH : -9223372036854775808 ≤ H ∧ H ≤ 9223372036854775807) (hn : n ≤ 20000) (hm20 : m ≤ 20000) (hm : mayR W H C D n = false) :
    Calls Try.prog 5 #[ras W H C D a n cap, .slice b m cb] w fun e w' => e = .returned (.bool true) ∧ Below w.heap.size w w' := by
  have hF := fun w' => few_any W H C D a n cap w'
  simp only [hn, decide_true] at hF
  have hmm : decide ((20000 : Int) < m) = false := by simp; omega
  have hE := fun w' hr' => enc_any W H C D a n cap xs w' hr' hx hH
  rw [encL, encE, if_neg (by simp [hm]), if_neg (by simp [hm])] at hE
  have hMy := fun w' => may_any W H C D a n cap w' hH
  rw [hm] at hMy
  have HE := Lib.hid (fun (w' : World) hr' => hE w' hr'); have HMy := Lib.hid hMy; have HF := Lib.hid hF; have R := Lib.hid hr; have S := Lib.hid hs
  clear hE hMy hF hr hs
  go_enter Try.func5, Try.ntmps5
  go_wp2_with fail
  have bl : Below w.heap.size w (w.alloc (.cells #[.int .i64 W, .int .i64 H, .int .i64 C, .int .i64 D, .slice a n cap] 26)) := (Below.refl _ _).alloc (Nat.le_refl _) _
  have bx := Lib.hid (rbox_alloc w W H C D a n cap 26)
  have B := Lib.hid bl
  replace R := Lib.hid (R.out.below bl)
  replace S := Lib.hid (S.out.below bl)
  generalize w.alloc (.cells #[.int .i64 W, .int .i64 H, .int .i64 C, .int .i64 D, .slice a n cap] 26) = v0 at *
  clear bl
  refine (first_any _).mono ?_; rintro e w1 ⟨rfl, bb⟩
  replace B := Lib.hid (below_size B.out bb)
  replace R := Lib.hid (R.out.below bb)
  replace S := Lib.hid (S.out.below bb)
  replace bx := Lib.hid (bx.out.below bb)
  have c0 := bx.out.box.c0; have c1 := bx.out.box.c1; have c2 := bx.out.box.c2; have c3 := bx.out.box.c3; have c4 := bx.out.c4
  clear bb
  go_wp2_with fail
  refine (HF.out _).mono ?_; rintro e w2 ⟨rfl, bb⟩
  replace B := Lib.hid (below_size B.out bb)
  replace R := Lib.hid (R.out.below bb)
  replace S := Lib.hid (S.out.below bb)
  replace bx := Lib.hid (bx.out.below bb)
  clear c0 c1 c2 c3 c4
  have c0 := bx.out.box.c0; have c1 := bx.out.box.c1; have c2 := bx.out.box.c2; have c3 := bx.out.box.c3; have c4 := bx.out.c4
  clear bb
  go_wp2_with fail
  refine (HE.out _ R.out).mono ?_; rintro e w3 ⟨ax, kx, rfl, ox, bb⟩
  replace B := Lib.hid (below_size B.out bb)
  replace R := Lib.hid (R.out.below bb)
  replace S := Lib.hid (S.out.below bb)
  replace bx := Lib.hid (bx.out.below bb)
  clear c0 c1 c2 c3 c4
  have c0 := bx.out.box.c0; have c1 := bx.out.box.c1; have c2 := bx.out.box.c2; have c3 := bx.out.box.c3; have c4 := bx.out.c4
  clear bb ox
  go_wp2_with fail
  refine (HMy.out _).mono ?_; rintro e w4 ⟨rfl, bb⟩
  replace B := Lib.hid (below_size B.out bb)
  replace R := Lib.hid (R.out.below bb)
  replace S := Lib.hid (S.out.below bb)
  replace bx := Lib.hid (bx.out.below bb)
  clear c0 c1 c2 c3 c4
  clear bb
  go_wp2_with fail
  by_cases hd : decErr ys = 0
  · have hq := fun (w' : World) hs' => dec_good b m cb ys w' hs' hy (by omega) hd
    obtain ⟨t1, t2⟩ := enc_dec hy hd
    have hq2 := fun (q : Option Addr) (k : Nat) (w' : World) hr' hH' => enc_any (dW ys) (dH ys) (dC ys) (dD ys) q (ys.drop 7).length k (ys.drop 7) w' hr' (hy.drop 7) hH'
    rw [encL, encE, if_pos t1, if_pos t1, t2] at hq2
    have hHb : -9223372036854775808 ≤ dH ys ∧ dH ys ≤ 9223372036854775807 := by
      have hb := (mayR_spec t1).1
      have h1 := hb.2.2.1; have h2 := hb.2.2.2.1
      omega
    have Q1 := Lib.hid hq; have Q2 := Lib.hid (fun (q : Option Addr) (k : Nat) (w' : World) hr' => hq2 q k w' hr' hHb)
    clear hq hq2 t1 t2 hHb
    generalize dW ys = tW at *
    generalize dH ys = tH at *
    generalize dC ys = tC at *
    generalize dD ys = tD at *
    refine (Q1.out _ S.out).mono ?_; rintro e wt ⟨at_, kt, rfl, ot, bb⟩
    have T := Lib.hid (reads_of_owns ot)
    generalize ys.drop 7 = ts at *
    replace B := Lib.hid (below_size B.out bb)
    replace S := Lib.hid (S.out.below bb)
    have bl : Below wt.heap.size wt (wt.alloc (.cells #[.int .i64 tW, .int .i64 tH, .int .i64 tC, .int .i64 tD, .slice at_ ts.length kt] 26)) := (Below.refl _ _).alloc (Nat.le_refl _) _
    replace B := Lib.hid (below_size B.out bl)
    replace S := Lib.hid (S.out.below bl)
    replace T := Lib.hid (T.out.below bl)
    have bt := rbox_alloc wt tW tH tC tD at_ ts.length kt 26
    have t0 := bt.box.c0; have t1 := bt.box.c1; have t2 := bt.box.c2; have t3 := bt.box.c3; have t4 := bt.c4
    clear bb bl ot bx R
    go_wp2_with fail
    refine (Q2.out _ _ _ T.out).mono ?_; rintro e wu ⟨au, ku, rfl, ou, bb⟩
    replace B := Lib.hid (below_size B.out bb)
    replace S := Lib.hid (S.out.below bb)
    have U := Lib.hid (reads_of_owns ou)
    clear t0 t1 t2 t3 t4
    clear bb ou bt T
    go_wp2_with fail
    refine (first_any _).mono ?_; rintro e wv ⟨rfl, bb⟩
    replace B := Lib.hid (below_size B.out bb)
    replace S := Lib.hid (S.out.below bb)
    replace U := Lib.hid (U.out.below bb)
    clear bb
    go_wp2_with fail
    have hbb := bytes_any _ _ _ _ _ _ _ _ wv U.out S.out hy hy
    rw [decide_eq_true rfl] at hbb
    have HBB := Lib.hid hbb
    clear hbb U S
    refine HBB.out.mono ?_; rintro e wz ⟨rfl, rfl⟩
    go_wp2_with fail
    go_ret
    exact ⟨rfl, B.out⟩
  · have hd' : (decErr ys != 0) = true := by simpa using hd
    have hq := fun (w' : World) hs' => dec_bad b m cb ys w' hs' hy (by omega) rfl hd
    have Q1 := Lib.hid hq
    clear hq hd
    generalize decErr ys = E at *
    refine (Q1.out _ S.out).mono ?_; rintro e wt ⟨at_, kt, rfl, _, bb⟩
    replace B := Lib.hid (below_size B.out bb)
    have bl : Below wt.heap.size wt (wt.alloc (.cells #[.int .i64 0, .int .i64 0, .int .i64 0, .int .i64 0, .slice at_ 0 kt] 26)) := (Below.refl _ _).alloc (Nat.le_refl _) _
    replace B := Lib.hid (below_size B.out bl)
    have bt := rbox_alloc wt 0 0 0 0 at_ 0 kt 26
    simp only [List.length_nil]
    clear bb bl bx R S
    go_wp2_with fail
    refine (first_any _).mono ?_; rintro e wu ⟨rfl, bb⟩
    replace B := Lib.hid (below_size B.out bb)
    replace bt := bt.below bb
    have t0 := bt.box.c0; have t1 := bt.box.c1; have t2 := bt.box.c2; have t3 := bt.box.c3; have t4 := bt.c4
    clear bb
    go_wp2_with fail
    go_ret
    exact ⟨rfl, B.out⟩

set_option maxRecDepth 100000 in
set_option maxHeartbeats 4000000 in
theorem back_yes (W H C D : Int) (a : Option Addr) (n cap : Nat) (xs : List Int) (b : Option Addr) (m cb : Nat) (ys : List Int) (w : World) (hr : Reads .u8 w a n cap xs) (hx : isB xs) (hs : Reads .u8 w b m cb ys) (hy : isB ys) (hH : -9223372036854775808 ≤ H ∧ H ≤ 9223372036854775807) (hn : n ≤ 20000) (hm20 : m ≤ 20000) (hm : mayR W H C D n = true) :
    Calls Try.prog 5 #[ras W H C D a n cap, .slice b m cb] w fun e w' => e = .returned (.bool true) ∧ Below w.heap.size w w' := by
  have hF := fun w' => few_any W H C D a n cap w'
  simp only [hn, decide_true] at hF
  have hmm : decide ((20000 : Int) < m) = false := by simp; omega
  have hE := fun w' hr' => enc_any W H C D a n cap xs w' hr' hx hH
  rw [encL, encE, if_pos hm, if_pos hm] at hE
  have hMy := fun w' => may_any W H C D a n cap w' hH
  rw [hm] at hMy
  have hl := hr.len
  have e1 := decErr_enc hl hm
  have e2 := decErr_long hl hm
  have e3 := decErr_cut hl hm
  obtain ⟨M, hM⟩ : ∃ M, 7 + n = M + 1 := ⟨6 + n, by omega⟩
  rw [hM, Nat.add_sub_cancel] at e3
  have hxB : isB (hdr W H C D ++ xs) := (hdr_isB hm).append hx
  have hD1 := fun (q : Option Addr) (l k : Nat) (w' : World) hr' hn' => dec_good q l k (hdr W H C D ++ xs) w' hr' hxB hn' e1
  have hD2 := fun (q : Option Addr) (l k : Nat) (w' : World) hr' hn' => dec_bad q l k (hdr W H C D ++ xs ++ [0]) w' hr' (hxB.append (isB.one (by omega) (by omega))) hn' e2 (by decide)
  have hD3 := fun (q : Option Addr) (l k : Nat) (w' : World) hr' hn' => dec_bad q l k ((hdr W H C D ++ xs).take M) w' hr' (hxB.take _) hn' e3 (by decide)
  simp only [dW_hdr, dH_hdr, dC_hdr, dD_hdr, drop_hdr] at hD1
  have hl7 : (hdr W H C D ++ xs).length = M + 1 := by rw [List.length_append, hdr_len, hl, hM]
  have hn1 : 1 ≤ n := by have := size_bd W H C D (mayR_spec hm).1; have := (mayR_spec hm).2.2; omega
  have hsame : sameR W H C D xs W H C D xs = true := by simp [sameR]
  have HSm := Lib.hid hsame
  have D1 := Lib.hid hD1; have D2 := Lib.hid hD2; have D3 := Lib.hid hD3
  have HXB := Lib.hid hxB
  have HL7 := Lib.hid hl7
  have HL := Lib.hid hl
  have hM8 : 8 ≤ M + 1 := by omega
  have hM2 : M ≤ 20010 := by omega
  clear hM e1 e2 e3 hD1 hD2 hD3 hxB hl7 hl hsame
  generalize hz : hdr W H C D ++ xs = zs at *
  clear hz
  have HE := Lib.hid (fun (w' : World) hr' => hE w' hr'); have HMy := Lib.hid hMy; have HF := Lib.hid hF; have R := Lib.hid hr; have S := Lib.hid hs
  clear hE hMy hF hr hs
  go_enter Try.func5, Try.ntmps5
  go_wp2_with fail
  have bl : Below w.heap.size w (w.alloc (.cells #[.int .i64 W, .int .i64 H, .int .i64 C, .int .i64 D, .slice a n cap] 26)) := (Below.refl _ _).alloc (Nat.le_refl _) _
  have bx := Lib.hid (rbox_alloc w W H C D a n cap 26)
  have B := Lib.hid bl
  replace R := Lib.hid (R.out.below bl)
  replace S := Lib.hid (S.out.below bl)
  generalize w.alloc (.cells #[.int .i64 W, .int .i64 H, .int .i64 C, .int .i64 D, .slice a n cap] 26) = v0 at *
  clear bl
  refine (first_any _).mono ?_; rintro e w1 ⟨rfl, bb⟩
  replace B := Lib.hid (below_size B.out bb)
  replace R := Lib.hid (R.out.below bb)
  replace S := Lib.hid (S.out.below bb)
  replace bx := Lib.hid (bx.out.below bb)
  have c0 := bx.out.box.c0; have c1 := bx.out.box.c1; have c2 := bx.out.box.c2; have c3 := bx.out.box.c3; have c4 := bx.out.c4
  clear bb
  go_wp2_with fail
  refine (HF.out _).mono ?_; rintro e w2 ⟨rfl, bb⟩
  replace B := Lib.hid (below_size B.out bb)
  replace R := Lib.hid (R.out.below bb)
  replace S := Lib.hid (S.out.below bb)
  replace bx := Lib.hid (bx.out.below bb)
  clear c0 c1 c2 c3 c4
  have c0 := bx.out.box.c0; have c1 := bx.out.box.c1; have c2 := bx.out.box.c2; have c3 := bx.out.box.c3; have c4 := bx.out.c4
  clear bb
  go_wp2_with fail
  refine (HE.out _ R.out).mono ?_; rintro e w3 ⟨ax, kx, rfl, ox, bb⟩
  replace B := Lib.hid (below_size B.out bb)
  replace R := Lib.hid (R.out.below bb)
  replace S := Lib.hid (S.out.below bb)
  replace bx := Lib.hid (bx.out.below bb)
  clear c0 c1 c2 c3 c4
  have c0 := bx.out.box.c0; have c1 := bx.out.box.c1; have c2 := bx.out.box.c2; have c3 := bx.out.box.c3; have c4 := bx.out.c4
  rw [HL7.out] at ox
  rw [HL7.out]
  have X := Lib.hid (reads_of_owns ox)
  obtain ⟨gx, rfl, _⟩ := owns_addr ox (by omega)
  clear bb ox
  go_wp2_with fail
  refine (HMy.out _).mono ?_; rintro e w4 ⟨rfl, bb⟩
  replace B := Lib.hid (below_size B.out bb)
  replace R := Lib.hid (R.out.below bb)
  replace S := Lib.hid (S.out.below bb)
  replace X := Lib.hid (X.out.below bb)
  replace bx := Lib.hid (bx.out.below bb)
  clear c0 c1 c2 c3 c4
  clear bb
  go_wp2_with fail
  refine (D1.out _ _ _ _ X.out (by omega)).mono ?_; rintro e w5 ⟨ap, kp, rfl, op, bb⟩
  replace B := Lib.hid (below_size B.out bb)
  replace R := Lib.hid (R.out.below bb)
  replace S := Lib.hid (S.out.below bb)
  replace X := Lib.hid (X.out.below bb)
  replace bx := Lib.hid (bx.out.below bb)
  rw [HL.out] at op
  rw [HL.out]
  have P := Lib.hid (reads_of_owns op)
  have bl : Below w5.heap.size w5 (w5.alloc (.cells #[.int .i64 W, .int .i64 H, .int .i64 C, .int .i64 D, .slice ap n kp] 26)) := (Below.refl _ _).alloc (Nat.le_refl _) _
  have bp := Lib.hid (rbox_alloc w5 W H C D ap n kp 26)
  replace B := Lib.hid (below_size B.out bl)
  replace R := Lib.hid (R.out.below bl)
  replace S := Lib.hid (S.out.below bl)
  replace X := Lib.hid (X.out.below bl)
  replace P := Lib.hid (P.out.below bl)
  replace bx := Lib.hid (bx.out.below bl)
  clear bb bl op
  go_wp2_with fail
  generalize w5.alloc (.cells #[.int .i64 W, .int .i64 H, .int .i64 C, .int .i64 D, .slice ap n kp] 26) = v5 at *
  generalize w5.heap.size = gp at *
  refine (copyBytes_any _ _ _ _ _ X.out (by omega)).mono ?_; rintro e w6 ⟨ac, kc, rfl, oc, bb⟩
  rw [HL7.out] at oc
  rw [HL7.out]
  have hrd := reads_alloc (k := .u8) w6 [0] #[.int .u8 0] 5 (0, 0) rfl (by unfold maxLen; simp) 1 rfl
  have oc' := World.ownsRow.alloc oc (.cells #[.int .u8 0] 5)
  have hsz := bb.size
  have bl : Below w6.heap.size w6 (w6.alloc (.cells #[.int .u8 0] 5)) := (Below.refl _ _).alloc (Nat.le_refl _) _
  obtain ⟨i0, hi, hz0, hz1, hz2⟩ := info_parts infoC
  have Hi := Lib.hid hi; have Hz0 := Lib.hid hz0; have Hz1 := Lib.hid hz1; have Hz2 := Lib.hid hz2
  have OC := Lib.hid oc'; have HRD := Lib.hid hrd
  have bv := Lib.hid bb
  clear hi hz0 hz1 hz2 bb oc oc' hrd
  go_wp2_with (at_builtin; refine wpList_append_reads _ rfl _ _ 24 rfl v5.heap.size 5 i0 (.int .u8 0) 1 Try.underlying24 Hi.out Hz0.out Hz1.out Hz2.out rfl .u8 ac (M + 1) kc zs rfl OC.out _ 1 1 [0] rfl HRD.out (by unfold maxLen; omega) (by omega) (by simp; omega) ?_)
  intro ad kd w7 od hgrow _
  have bb : Below v5.heap.size v5 w7 := below_grown (bv.out.alloc bv.out.size _) OC.out hgrow (Nat.le_refl _) (by simp; omega)
  replace B := Lib.hid (below_size B.out bb)
  replace R := Lib.hid (R.out.below bb)
  replace S := Lib.hid (S.out.below bb)
  replace X := Lib.hid (X.out.below bb)
  replace P := Lib.hid (P.out.below bb)
  replace bx := Lib.hid (bx.out.below bb)
  replace bp := Lib.hid (bp.out.below bb)
  have Y := Lib.hid (reads_of_owns (xs := zs ++ [0]) (by simpa using od))
  clear hgrow od bb bl OC HRD bv Hi Hz0 Hz1 Hz2
  go_wp2_with fail
  refine (D2.out _ _ _ _ Y.out (by omega)).mono ?_; rintro e w8 ⟨aq, kq, rfl, _, bb⟩
  replace B := Lib.hid (below_size B.out bb)
  replace R := Lib.hid (R.out.below bb)
  replace S := Lib.hid (S.out.below bb)
  replace X := Lib.hid (X.out.below bb)
  replace P := Lib.hid (P.out.below bb)
  replace bx := Lib.hid (bx.out.below bb)
  replace bp := Lib.hid (bp.out.below bb)
  have bl : Below w8.heap.size w8 (w8.alloc (.cells #[.int .i64 0, .int .i64 0, .int .i64 0, .int .i64 0, .slice aq 0 kq] 26)) := (Below.refl _ _).alloc (Nat.le_refl _) _
  replace B := Lib.hid (below_size B.out bl)
  replace R := Lib.hid (R.out.below bl)
  replace S := Lib.hid (S.out.below bl)
  replace X := Lib.hid (X.out.below bl)
  replace P := Lib.hid (P.out.below bl)
  replace bx := Lib.hid (bx.out.below bl)
  replace bp := Lib.hid (bp.out.below bl)
  clear bb bl Y
  simp only [List.length_nil]
  have hcut := Lib.hid (reads_upto X.out M (by omega))
  have hkx : M + 1 ≤ kx := X.out.le
  go_wp2_with fail
  generalize w8.alloc (.cells #[.int .i64 0, .int .i64 0, .int .i64 0, .int .i64 0, .slice aq 0 kq] 26) = v8 at *
  generalize w8.heap.size = gq at *
  refine (D3.out _ _ _ _ hcut.out (by omega)).mono ?_; rintro e w9 ⟨ar, kr, rfl, _, bb⟩
  replace B := Lib.hid (below_size B.out bb)
  replace R := Lib.hid (R.out.below bb)
  replace S := Lib.hid (S.out.below bb)
  replace X := Lib.hid (X.out.below bb)
  replace P := Lib.hid (P.out.below bb)
  replace bx := Lib.hid (bx.out.below bb)
  replace bp := Lib.hid (bp.out.below bb)
  have bl : Below w9.heap.size w9 (w9.alloc (.cells #[.int .i64 0, .int .i64 0, .int .i64 0, .int .i64 0, .slice ar 0 kr] 26)) := (Below.refl _ _).alloc (Nat.le_refl _) _
  replace B := Lib.hid (below_size B.out bl)
  replace R := Lib.hid (R.out.below bl)
  replace S := Lib.hid (S.out.below bl)
  replace X := Lib.hid (X.out.below bl)
  replace P := Lib.hid (P.out.below bl)
  replace bx := Lib.hid (bx.out.below bl)
  replace bp := Lib.hid (bp.out.below bl)
  clear bb bl hcut hkx
  simp only [List.length_nil]
  have c0 := bx.out.box.c0; have c1 := bx.out.box.c1; have c2 := bx.out.box.c2; have c3 := bx.out.box.c3; have c4 := bx.out.c4
  have d0 := bp.out.box.c0; have d1 := bp.out.box.c1; have d2 := bp.out.box.c2; have d3 := bp.out.box.c3; have d4 := bp.out.c4
  go_wp2_with fail
  generalize w9.alloc (.cells #[.int .i64 0, .int .i64 0, .int .i64 0, .int .i64 0, .slice ar 0 kr] 26) = v9 at *
  generalize w9.heap.size = gr at *
  have hsm := same_any W H C D W H C D ap a n kp n cap xs xs v9 P.out R.out hx hx
  rw [HSm.out] at hsm
  have HSM := Lib.hid hsm
  clear hsm
  refine HSM.out.mono ?_; rintro e w10 ⟨rfl, bb⟩
  replace B := Lib.hid (below_size B.out bb)
  replace R := Lib.hid (R.out.below bb)
  replace S := Lib.hid (S.out.below bb)
  replace X := Lib.hid (X.out.below bb)
  replace P := Lib.hid (P.out.below bb)
  replace bx := Lib.hid (bx.out.below bb)
  replace bp := Lib.hid (bp.out.below bb)
  clear c0 c1 c2 c3 c4 d0 d1 d2 d3 d4
  clear bb HSM
  go_wp2_with fail
  by_cases hd : decErr ys = 0
  · have hq := fun (w' : World) hs' => dec_good b m cb ys w' hs' hy (by omega) hd
    obtain ⟨t1, t2⟩ := enc_dec hy hd
    have hq2 := fun (q : Option Addr) (k : Nat) (w' : World) hr' hH' => enc_any (dW ys) (dH ys) (dC ys) (dD ys) q (ys.drop 7).length k (ys.drop 7) w' hr' (hy.drop 7) hH'
    rw [encL, encE, if_pos t1, if_pos t1, t2] at hq2
    have hHb : -9223372036854775808 ≤ dH ys ∧ dH ys ≤ 9223372036854775807 := by
      have hb := (mayR_spec t1).1
      have h1 := hb.2.2.1; have h2 := hb.2.2.2.1
      omega
    have Q1 := Lib.hid hq; have Q2 := Lib.hid (fun (q : Option Addr) (k : Nat) (w' : World) hr' => hq2 q k w' hr' hHb)
    clear hq hq2 t1 t2 hHb
    generalize dW ys = tW at *
    generalize dH ys = tH at *
    generalize dC ys = tC at *
    generalize dD ys = tD at *
    refine (Q1.out _ S.out).mono ?_; rintro e wt ⟨at_, kt, rfl, ot, bb⟩
    have T := Lib.hid (reads_of_owns ot)
    generalize ys.drop 7 = ts at *
    replace B := Lib.hid (below_size B.out bb)
    replace S := Lib.hid (S.out.below bb)
    have bl : Below wt.heap.size wt (wt.alloc (.cells #[.int .i64 tW, .int .i64 tH, .int .i64 tC, .int .i64 tD, .slice at_ ts.length kt] 26)) := (Below.refl _ _).alloc (Nat.le_refl _) _
    replace B := Lib.hid (below_size B.out bl)
    replace S := Lib.hid (S.out.below bl)
    replace T := Lib.hid (T.out.below bl)
    have bt := rbox_alloc wt tW tH tC tD at_ ts.length kt 26
    have t0 := bt.box.c0; have t1 := bt.box.c1; have t2 := bt.box.c2; have t3 := bt.box.c3; have t4 := bt.c4
    clear bb bl ot bx R
    go_wp2_with fail
    refine (Q2.out _ _ _ T.out).mono ?_; rintro e wu ⟨au, ku, rfl, ou, bb⟩
    replace B := Lib.hid (below_size B.out bb)
    replace S := Lib.hid (S.out.below bb)
    have U := Lib.hid (reads_of_owns ou)
    clear t0 t1 t2 t3 t4
    clear bb ou bt T
    go_wp2_with fail
    refine (first_any _).mono ?_; rintro e wv ⟨rfl, bb⟩
    replace B := Lib.hid (below_size B.out bb)
    replace S := Lib.hid (S.out.below bb)
    replace U := Lib.hid (U.out.below bb)
    clear bb
    go_wp2_with fail
    have hbb := bytes_any _ _ _ _ _ _ _ _ wv U.out S.out hy hy
    rw [decide_eq_true rfl] at hbb
    have HBB := Lib.hid hbb
    clear hbb U S
    refine HBB.out.mono ?_; rintro e wz ⟨rfl, rfl⟩
    go_wp2_with fail
    go_ret
    exact ⟨rfl, B.out⟩
  · have hd' : (decErr ys != 0) = true := by simpa using hd
    have hq := fun (w' : World) hs' => dec_bad b m cb ys w' hs' hy (by omega) rfl hd
    have Q1 := Lib.hid hq
    clear hq hd
    generalize decErr ys = E at *
    refine (Q1.out _ S.out).mono ?_; rintro e wt ⟨at_, kt, rfl, _, bb⟩
    replace B := Lib.hid (below_size B.out bb)
    have bl : Below wt.heap.size wt (wt.alloc (.cells #[.int .i64 0, .int .i64 0, .int .i64 0, .int .i64 0, .slice at_ 0 kt] 26)) := (Below.refl _ _).alloc (Nat.le_refl _) _
    replace B := Lib.hid (below_size B.out bl)
    have bt := rbox_alloc wt 0 0 0 0 at_ 0 kt 26
    simp only [List.length_nil]
    clear bb bl bx R S
    go_wp2_with fail
    refine (first_any _).mono ?_; rintro e wu ⟨rfl, bb⟩
    replace B := Lib.hid (below_size B.out bb)
    replace bt := bt.below bb
    have t0 := bt.box.c0; have t1 := bt.box.c1; have t2 := bt.box.c2; have t3 := bt.box.c3; have t4 := bt.c4
    clear bb
    go_wp2_with fail
    go_ret
    exact ⟨rfl, B.out⟩

theorem walk_PixBack (W H C D : Int) (a : Option Addr) (n cap : Nat) (xs : List Int) (b : Option Addr) (m cb : Nat) (ys : List Int) (w : World) (_ : -9223372036854775808 ≤ W ∧ W ≤ 9223372036854775807) (hH : -9223372036854775808 ≤ H ∧ H ≤ 9223372036854775807) (_ : -9223372036854775808 ≤ C ∧ C ≤ 9223372036854775807) (_ : -9223372036854775808 ≤ D ∧ D ≤ 9223372036854775807) (hr : Reads .u8 w a n cap xs) (hx : isB xs) (hs : Reads .u8 w b m cb ys) (hy : isB ys) :
    Calls Try.prog 5 #[ras W H C D a n cap, .slice b m cb] w fun e w' => e = .returned (.bool true) ∧ Below w.heap.size w w' := by
  by_cases h1 : n ≤ 20000
  · by_cases h2 : m ≤ 20000
    · cases hm : mayR W H C D n
      · exact back_no W H C D a n cap xs b m cb ys w hr hx hs hy hH h1 h2 hm
      · exact back_yes W H C D a n cap xs b m cb ys w hr hx hs hy hH h1 h2 hm
    · exact back_few2 W H C D a n cap xs b m cb ys w hr hx hs hy hH ⟨h1, h2⟩
  · exact back_few1 W H C D a n cap xs b m cb ys w hr hx hs hy hH h1
end Go.Proofs.Ytdlmcjcdmjkhhaa
