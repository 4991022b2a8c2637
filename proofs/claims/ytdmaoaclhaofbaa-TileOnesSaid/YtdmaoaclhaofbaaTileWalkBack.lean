/-
  The walk of TileBack.
-/
import Derived.Test.YtdmaoaclhaofbaaTileBackPure
import Derived.Test.YtdmaoaclhaofbaaTileWalkJoins
namespace Go.Proofs.Ytdmaoaclhaofbaa
open Go.RowKit

theorem rl_of {w : World} {base g n cap : Nat} {vs : List Value} {ts : List Til} (ho : w.ownsRow base 26 5 (.slice (some ⟨g, 0, Option.none⟩) n cap) n vs) (ht : HasT w base g vs ts) (hl : ts.length = n) (hB : ∀ t ∈ ts, isB t.2) (hH : ∀ t ∈ ts, -9223372036854775808 ≤ t.1.2.1 ∧ t.1.2.1 ≤ 9223372036854775807) : RL w g 0 n cap ts := by
  have hle : n ≤ cap := by
    rcases ho.2 with ⟨e, _⟩ | ⟨g1, c1, cur, e, _, _, h, _⟩
    · simp at e
    · simp at e; omega
  refine ⟨hl, hle, fun _ => (ho.lt g rfl).2, fun j hj => ?_⟩
  have hj' : j < ts.length := by omega
  obtain ⟨q, c, v0, v1, v2, v3, v4, _, hp⟩ := ht j hj'
  have e : ts.getD j ((0, 0, 0, 0), []) = ts[j] := by simp [List.getD, hj']
  rw [e]
  have cell := fun (i : Nat) (v : Value) (hv : vs[j * 5 + i]? = some v) => (ho.cellAt (j * 5 + i) (by have := (List.getElem?_eq_some_iff.1 hv).1; rw [ho.1] at this; omega)).trans hv
  have hmem := List.getElem_mem hj'
  refine ⟨some ⟨q, 0, Option.none⟩, c, ?_, ?_, ?_, ?_, ?_, reads_of_owns hp, hB _ hmem, hH _ hmem⟩
  · have := cell 0 _ v0; simpa using this
  · have := cell 1 _ v1; simpa using this
  · have := cell 2 _ v2; simpa using this
  · have := cell 3 _ v3; simpa using this
  · have := cell 4 _ v4; simpa using this
theorem join_back {W H C D : Int} {n : Nat} {xs : List Int} (hm : mayR W H C D n = true) (hl : xs.length = n) (g N c : Nat) (w : World) (hN : tN W H = N) (h : RL w g 0 N c (tils W H C D xs N)) :
    Calls Try.prog 20 #[shp W H C D, .slice (some ⟨g, 0, Option.none⟩) N c] w (RetRas w W H C D xs 0) := by
  have hb := (mayR_spec hm).1
  obtain ⟨_, _, _, _, a5⟩ := tN_bd hb
  subst hN
  have := join_any W H C D (some ⟨g, 0, Option.none⟩) g 0 (tN W H) c (tils W H C D xs (tN W H)) w (fun _ => rfl) h (by have h1 := hb.2.2.1; have h2 := hb.2.2.2.1; omega) (by omega)
  rw [jRes_back hm hl] at this
  exact this
theorem tils_H {W H C D : Int} {n : Nat} {xs : List Int} (hm : mayR W H C D n = true) : ∀ t ∈ tils W H C D xs (tN W H), -9223372036854775808 ≤ t.1.2.1 ∧ t.1.2.1 ≤ 9223372036854775807 := by
  intro t ht
  simp [tils] at ht
  obtain ⟨i, hi, rfl⟩ := ht
  have T := tf_of hm i hi
  have h1 := T.hH; have h2 := T.h8
  dsimp only
  omega

set_option maxRecDepth 100000 in
set_option maxHeartbeats 4000000 in
theorem back_few (W H C D : Int) (a : Option Addr) (n cap : Nat) (xs : List Int) (x y c : Int) (w : World) (hr : Reads .u8 w a n cap xs) (hx : isB xs) (hH : -9223372036854775808 ≤ H ∧ H ≤ 9223372036854775807) (h : ¬ n ≤ 20000) :
    Calls Try.prog 5 #[ras W H C D a n cap, .int .i64 x, .int .i64 y, .int .i64 c] w fun e w' => e = .returned (.bool true) ∧ Below w.heap.size w w' := by
  have hF := fun w' => few_any W H C D a n cap w'
  simp only [h, decide_false] at hF
  have HF := Lib.hid hF
  clear hF hr h
  have bl : Below w.heap.size w (w.alloc (.cells #[.int .i64 W, .int .i64 H, .int .i64 C, .int .i64 D, .slice a n cap] 26)) := (Below.refl _ _).alloc (Nat.le_refl _) _
  have bx := Lib.hid (rbox_alloc w W H C D a n cap 26)
  have B := Lib.hid bl
  go_enter Try.func5, Try.ntmps5
  go_wp2_with fail
  generalize (w.alloc (.cells #[.int .i64 W, .int .i64 H, .int .i64 C, .int .i64 D, .slice a n cap] 26)) = v0 at *
  clear bl
  refine (first_any _).mono ?_; rintro e w1 ⟨rfl, bb⟩
  replace B := Lib.hid (below_size B.out bb)
  replace bx := Lib.hid (bx.out.below bb)
  clear bb
  have c0 := bx.out.box.c0; have c1 := bx.out.box.c1; have c2 := bx.out.box.c2; have c3 := bx.out.box.c3; have c4 := bx.out.c4
  go_wp2_with fail
  clear c0 c1 c2 c3 c4
  refine (HF.out _).mono ?_; rintro e w2 ⟨rfl, bb⟩
  replace B := Lib.hid (below_size B.out bb)
  replace bx := Lib.hid (bx.out.below bb)
  clear bb
  go_wp2_with fail
  refine (first_any _).mono ?_; rintro e w3 ⟨rfl, bb⟩
  replace B := Lib.hid (below_size B.out bb)
  replace bx := Lib.hid (bx.out.below bb)
  clear bb
  go_wp2_with fail
  go_ret
  exact ⟨rfl, B.out⟩

set_option maxRecDepth 100000 in
set_option maxHeartbeats 4000000 in
theorem back_no (W H C D : Int) (a : Option Addr) (n cap : Nat) (xs : List Int) (x y c : Int) (w : World) (hr : Reads .u8 w a n cap xs) (hx : isB xs) (hH : -9223372036854775808 ≤ H ∧ H ≤ 9223372036854775807) (hn : n ≤ 20000) (hm : mayR W H C D n = false) :
    Calls Try.prog 5 #[ras W H C D a n cap, .int .i64 x, .int .i64 y, .int .i64 c] w fun e w' => e = .returned (.bool true) ∧ Below w.heap.size w w' := by
  have hF := fun w' => few_any W H C D a n cap w'
  simp only [hn, decide_true] at hF
  have HF := Lib.hid hF
  have hM := fun w' => may_any W H C D a n cap w' hH
  rw [hm] at hM
  have HM := Lib.hid hM
  clear hF hM hr hm
  have bl : Below w.heap.size w (w.alloc (.cells #[.int .i64 W, .int .i64 H, .int .i64 C, .int .i64 D, .slice a n cap] 26)) := (Below.refl _ _).alloc (Nat.le_refl _) _
  have bx := Lib.hid (rbox_alloc w W H C D a n cap 26)
  have B := Lib.hid bl
  go_enter Try.func5, Try.ntmps5
  go_wp2_with fail
  generalize (w.alloc (.cells #[.int .i64 W, .int .i64 H, .int .i64 C, .int .i64 D, .slice a n cap] 26)) = v0 at *
  clear bl
  refine (first_any _).mono ?_; rintro e w1 ⟨rfl, bb⟩
  replace B := Lib.hid (below_size B.out bb)
  replace bx := Lib.hid (bx.out.below bb)
  clear bb
  have c0 := bx.out.box.c0; have c1 := bx.out.box.c1; have c2 := bx.out.box.c2; have c3 := bx.out.box.c3; have c4 := bx.out.c4
  go_wp2_with fail
  clear c0 c1 c2 c3 c4
  refine (HF.out _).mono ?_; rintro e w2 ⟨rfl, bb⟩
  replace B := Lib.hid (below_size B.out bb)
  replace bx := Lib.hid (bx.out.below bb)
  clear bb
  have c0 := bx.out.box.c0; have c1 := bx.out.box.c1; have c2 := bx.out.box.c2; have c3 := bx.out.box.c3; have c4 := bx.out.c4
  go_wp2_with fail
  clear c0 c1 c2 c3 c4
  refine (HM.out _).mono ?_; rintro e w3 ⟨rfl, bb⟩
  replace B := Lib.hid (below_size B.out bb)
  replace bx := Lib.hid (bx.out.below bb)
  clear bb
  go_wp2_with fail
  refine (first_any _).mono ?_; rintro e w4 ⟨rfl, bb⟩
  replace B := Lib.hid (below_size B.out bb)
  replace bx := Lib.hid (bx.out.below bb)
  clear bb
  go_wp2_with fail
  go_ret
  exact ⟨rfl, B.out⟩

set_option maxRecDepth 100000 in
set_option maxHeartbeats 8000000 in
theorem back_yes (W H C D : Int) (b off : Nat) (n cap : Nat) (xs : List Int) (x y c : Int) (w : World) (hr : Reads .u8 w (some ⟨b, off, Option.none⟩) n cap xs) (hx : isB xs) (hH : -9223372036854775808 ≤ H ∧ H ≤ 9223372036854775807) (hn : n ≤ 20000) (hm : mayR W H C D n = true) :
    Calls Try.prog 5 #[ras W H C D (some ⟨b, off, Option.none⟩) n cap, .int .i64 x, .int .i64 y, .int .i64 c] w fun e w' => e = .returned (.bool true) ∧ Below w.heap.size w w' := by
  have hF := fun w' => few_any W H C D (some ⟨b, off, Option.none⟩) n cap w'
  simp only [hn, decide_true] at hF
  have HF := Lib.hid hF
  have hM := fun w' => may_any W H C D (some ⟨b, off, Option.none⟩) n cap w' hH
  rw [hm] at hM
  have HM := Lib.hid hM
  have C1 := Lib.hid (fun (p q k : Nat) (w' : World) hr' => cut_yes W H C D p q n k xs w' hm hr')
  have hbn := (mayR_spec hm).1
  obtain ⟨a1, a2, a3, hN1, hN2⟩ := tN_bd hbn
  have hG := fun w' => grid_may W H C D w' (mayR_iff' hm)
  rw [← a1, ← a2] at hG
  have hA1 : 1 ≤ tA W ∧ tA W ≤ 32 := by have := hbn.1; have := hbn.2.1; omega
  have q1 : IntKind.i64.wrap ((tA W : Int) * (tA H : Int)) = (tN W H : Nat) := by rw [← Int.natCast_mul]; exact Go.IntWalk.i64_in _ (by have : tA W * tA H = tN W H := rfl; rw [this]; omega)
  have HL := Lib.hid hr.len
  have TB := Lib.hid (tils_isB (W := W) (H := H) (C := C) (D := D) hx (tN W H))
  have TH := Lib.hid (tils_H (C := C) (D := D) (xs := xs) hm)
  have TL := Lib.hid (tils_len W H C D xs (tN W H))
  have HTF := Lib.hid (tf_of hm)
  have HMR := Lib.hid hm
  have HA := Lib.hid a1
  have HBN := Lib.hid hbn
  have hXB := Lib.hid hx
  have HG := Lib.hid hG
  have R := Lib.hid hr
  obtain ⟨N, hN⟩ : ∃ N, tN W H = N := ⟨_, rfl⟩
  have HN := Lib.hid hN
  rw [hN] at q1 hN1 hN2 TB TH TL HTF C1
  have hn63 : n ≤ 9223372036854775807 := by omega
  clear hF hM hG hr hx hm hN a1 a2 a3 hbn
  have bl : Below w.heap.size w (w.alloc (.cells #[.int .i64 W, .int .i64 H, .int .i64 C, .int .i64 D, .slice (some ⟨b, off, Option.none⟩) n cap] 26)) := (Below.refl _ _).alloc (Nat.le_refl _) _
  have bx := Lib.hid (rbox_alloc w W H C D (some ⟨b, off, Option.none⟩) n cap 26)
  have B := Lib.hid bl
  replace R := Lib.hid (R.out.below bl)
  go_enter Try.func5, Try.ntmps5
  go_wp2_with fail
  generalize (w.alloc (.cells #[.int .i64 W, .int .i64 H, .int .i64 C, .int .i64 D, .slice (some ⟨b, off, Option.none⟩) n cap] 26)) = v0 at *
  clear bl
  refine (first_any _).mono ?_; rintro e w1 ⟨rfl, bb⟩
  replace B := Lib.hid (below_size B.out bb)
  replace bx := Lib.hid (bx.out.below bb)
  replace R := Lib.hid (R.out.below bb)
  clear bb
  have c0 := bx.out.box.c0; have c1 := bx.out.box.c1; have c2 := bx.out.box.c2; have c3 := bx.out.box.c3; have c4 := bx.out.c4
  go_wp2_with fail
  clear c0 c1 c2 c3 c4
  refine (HF.out _).mono ?_; rintro e w2 ⟨rfl, bb⟩
  replace B := Lib.hid (below_size B.out bb)
  replace bx := Lib.hid (bx.out.below bb)
  replace R := Lib.hid (R.out.below bb)
  clear bb
  have c0 := bx.out.box.c0; have c1 := bx.out.box.c1; have c2 := bx.out.box.c2; have c3 := bx.out.box.c3; have c4 := bx.out.c4
  go_wp2_with fail
  clear c0 c1 c2 c3 c4
  refine (HM.out _).mono ?_; rintro e w3 ⟨rfl, bb⟩
  replace B := Lib.hid (below_size B.out bb)
  replace bx := Lib.hid (bx.out.below bb)
  replace R := Lib.hid (R.out.below bb)
  clear bb
  have c0 := bx.out.box.c0; have c1 := bx.out.box.c1; have c2 := bx.out.box.c2; have c3 := bx.out.box.c3; have c4 := bx.out.c4
  go_wp2_with fail
  clear c0 c1 c2 c3 c4
  refine (C1.out _ _ _ _ R.out).mono ?_; rintro e w7 ⟨g7, c7, vs, rfl, o7, t7, bb⟩
  replace B := Lib.hid (below_size B.out bb)
  replace bx := Lib.hid (bx.out.below bb)
  replace R := Lib.hid (R.out.below bb)
  have L := Lib.hid (rl_of o7 t7 TL.out TB.out TH.out)
  clear bb o7 t7
  have c0 := bx.out.box.c0; have c1 := bx.out.box.c1; have c2 := bx.out.box.c2; have c3 := bx.out.box.c3; have c4 := bx.out.c4
  go_wp2_with fail
  clear c0 c1 c2 c3 c4
  refine (join_back HMR.out HL.out _ _ _ _ HN.out L.out).mono ?_; rintro e w8 ⟨ax, kx, rfl, ox, bb⟩
  replace B := Lib.hid (below_size B.out bb)
  replace bx := Lib.hid (bx.out.below bb)
  replace R := Lib.hid (R.out.below bb)
  replace L := Lib.hid (L.out.below bb)
  rw [HL.out] at ox
  rw [HL.out]
  have X := Lib.hid (reads_of_owns ox)
  have bl : Below w8.heap.size w8 (w8.alloc (.cells #[.int .i64 W, .int .i64 H, .int .i64 C, .int .i64 D, .slice ax n kx] 26)) := (Below.refl _ _).alloc (Nat.le_refl _) _
  have bs := Lib.hid (rbox_alloc w8 W H C D ax n kx 26)
  replace B := Lib.hid (below_size B.out bl)
  replace bx := Lib.hid (bx.out.below bl)
  replace R := Lib.hid (R.out.below bl)
  replace L := Lib.hid (L.out.below bl)
  replace X := Lib.hid (X.out.below bl)
  clear bb bl ox
  have c0 := bx.out.box.c0; have c1 := bx.out.box.c1; have c2 := bx.out.box.c2; have c3 := bx.out.box.c3; have c4 := bx.out.c4
  go_wp2_with fail
  clear c0 c1 c2 c3 c4
  generalize w8.alloc (.cells #[.int .i64 W, .int .i64 H, .int .i64 C, .int .i64 D, .slice ax n kx] 26) = v8 at *
  refine (HG.out _).mono ?_; rintro e w6 ⟨rfl, bb⟩
  replace B := Lib.hid (below_size B.out bb)
  replace bx := Lib.hid (bx.out.below bb)
  replace R := Lib.hid (R.out.below bb)
  replace L := Lib.hid (L.out.below bb)
  replace X := Lib.hid (X.out.below bb)
  replace bs := Lib.hid (bs.out.below bb)
  clear bb
  have c0 := bs.out.box.c0; have c1 := bs.out.box.c1; have c2 := bs.out.box.c2; have c3 := bs.out.box.c3; have c4 := bs.out.c4
  have d0 := bx.out.box.c0; have d1 := bx.out.box.c1; have d2 := bx.out.box.c2; have d3 := bx.out.box.c3; have d4 := bx.out.c4
  go_wp2_with fail
  clear c0 c1 c2 c3 c4
  clear d0 d1 d2 d3 d4
  have q2 := eqRaster_any W H C D W H C D _ _ _ _ _ _ _ _ _ X.out R.out hXB.out hXB.out
  rw [eqR_self] at q2
  have Q2 := Lib.hid q2
  clear q2
  refine (Q2.out).mono ?_; rintro e w7 ⟨rfl, bb⟩
  replace B := Lib.hid (below_size B.out bb)
  replace bx := Lib.hid (bx.out.below bb)
  replace R := Lib.hid (R.out.below bb)
  replace L := Lib.hid (L.out.below bb)
  replace X := Lib.hid (X.out.below bb)
  replace bs := Lib.hid (bs.out.below bb)
  clear bb
  clear X bs
  go_wp2_with fail
  have HTG := Lib.hid (fun (i : Nat) (hi : i < N) => tils_getD (W := W) (H := H) (C := C) (D := D) (xs := xs) hi)
  obtain ⟨ts, hts⟩ : ∃ ts, tils W H C D xs N = ts := ⟨_, rfl⟩
  rw [hts] at L HTG
  clear hts TB TH TL
  have L0 := L; have B0 := B; have R0 := R; have bx0 := bx
  go_loopw [15] (fun vi wr => ∃ i : Nat, i ≤ N ∧ vi = .int .i64 i ∧ Hid (Below w7.heap.size w7 wr)) (fun vi _ => N - (intOf vi).toNat)
  case atStart => exact ⟨0, Nat.zero_le _, rfl, Lib.hid (Below.refl _ _)⟩
  case round =>
    obtain ⟨i, hi, rfl, F0⟩ := hrel
    replace B := Lib.hid (below_size B0.out F0.out)
    replace R := Lib.hid (R0.out.below F0.out)
    replace bx := Lib.hid (bx0.out.below F0.out)
    replace L := Lib.hid (L0.out.below F0.out)
    by_cases hlt : i < N
    · have T := HTF.out i hlt
      obtain ⟨p, k, ev, hp, hpB, hh1, hh2⟩ := L.out.el i hlt (HTG.out i hlt)
      have hpl : (tilP W H C D xs i).length = tH W H i * tRt W H C D i := tilP_len' T HL.out
      have csh := fun w' => shape_ok W H C D (i : Int) w' (mayR_iff' HMR.out) ⟨by omega, T.hi⟩
      have CSH := Lib.hid csh
      have hmy := T.may
      rw [← hpl] at hmy
      have cmay := fun w' => may_any (tileW W i) (tileH W H i) C D p (tilP W H C D xs i).length k w' ⟨hh1, hh2⟩
      rw [hmy] at cmay
      have ceq := fun w' => eqShape_any (tileW W i) (tileH W H i) C D (tileW W i) (tileH W H i) C D w'
      have he : decide (eqS (tileW W i) (tileH W H i) C D (tileW W i) (tileH W H i) C D) = true := by simp [eqS]
      rw [he] at ceq
      have hw8 : tileW W i ≤ 8 := by unfold tileW; omega
      have hh8 : tileH W H i ≤ 8 := by unfold tileH; omega
      have EV := Lib.hid ev
      have hgt : g7 < wr.heap.size := ev.lt
      generalize tileW W i = tw at *
      generalize tileH W H i = th at *
      generalize (tilP W H C D xs i).length = pl at *
      have CMAY := Lib.hid cmay; have CEQ := Lib.hid ceq
      have i9 : (i : Int) < N := by omega
      have i8 : (0 : Int) ≤ i := by omega
      clear csh cmay ceq ev T hp he hmy hpl
      have c0 := bx.out.box.c0; have c1 := bx.out.box.c1; have c2 := bx.out.box.c2; have c3 := bx.out.box.c3; have c4 := bx.out.c4
      go_wp2_with fail
      clear c0 c1 c2 c3 c4
      refine (CSH.out _).mono ?_; rintro e u1 ⟨rfl, bb⟩
      have bl : Below u1.heap.size u1 (u1.alloc (.cells #[.int .i64 tw, .int .i64 th, .int .i64 C, .int .i64 D] 23)) := (Below.refl _ _).alloc (Nat.le_refl _) _
      have bt := Lib.hid (box_alloc u1 tw th C D 23)
      replace EV := Lib.hid ((EV.out.below bb).below bl)
      replace F0 := Lib.hid (below_size (below_size F0.out bb) bl)
      clear bb bl
      go_wp2_with fail
      generalize u1.alloc (.cells #[.int .i64 tw, .int .i64 th, .int .i64 C, .int .i64 D] 23) = u2 at *
      generalize u1.heap.size = gt at *
      have v0 := fun z : GrownW u2 => z.cell EV.out.lt EV.out.c0
      have v1 := fun z : GrownW u2 => z.cell EV.out.lt EV.out.c1
      have v2 := fun z : GrownW u2 => z.cell EV.out.lt EV.out.c2
      have v3 := fun z : GrownW u2 => z.cell EV.out.lt EV.out.c3
      have v4 := fun z : GrownW u2 => z.cell EV.out.lt EV.out.c4
      simp only [Nat.zero_add] at v0 v1 v2 v3 v4
      have d0 := fun x : GrownW u2 => x.cell bt.out.lt bt.out.c0; have d1 := fun x : GrownW u2 => x.cell bt.out.lt bt.out.c1; have d2 := fun x : GrownW u2 => x.cell bt.out.lt bt.out.c2; have d3 := fun x : GrownW u2 => x.cell bt.out.lt bt.out.c3
      have n1 : decide ((8 : Int) < tw) = false := by simp; omega
      have n2 : decide ((8 : Int) < th) = false := by simp; omega
      refine wp_region_grow_lit (by kernel_rfl) (by kernel_rfl) ?_
      repeat (go_big_quiet_step (first
        | (go_at_call 18; exact grow_call (CEQ.out _))
        | (go_at_call 22; exact grow_call (CMAY.out _))))
      refine wpQuiet_nil ?_
      intro wg hw'
      obtain ⟨⟨wz, hbg⟩, hw''⟩ := hw'
      subst hw''
      clear v0 v1 v2 v3 v4 d0 d1 d2 d3
      go_wp2_with fail
      go_roundw
      case rel => exact ⟨i + 1, by omega, by go_num, Lib.hid (below_size F0.out hbg)⟩
      case measure => simp [intOf]; omega
    · obtain rfl : i = N := by omega
      clear L0 B0 R0 bx0 F0
      by_cases hin : InR W H C x y c
      · obtain ⟨k, hk1, hk2, hk3, hk4⟩ := pixel (xs := xs) HMR.out HL.out hin
        rw [HN.out] at hk2
        have AT := Lib.hid (fun (w' : World) r' => at_yes W H C D (some ⟨b, off, Option.none⟩) n cap xs x y c w' r' hXB.out HMR.out hin)
        obtain ⟨i1, i2, i3, i4, i5, i6⟩ := hin
        have hW2 := HBN.out.2.1; have hH2 := HBN.out.2.2.2.1
        have T := HTF.out k hk2
        obtain ⟨p, kk, ev, hp, hpB, hh1, hh2⟩ := L.out.el k hk2 (HTG.out k hk2)
        have hpl : (tilP W H C D xs k).length = tH W H k * tRt W H C D k := tilP_len' T HL.out
        have AT2 := Lib.hid (fun (w' : World) r' => at_yes (tileW W k) (tileH W H k) C D p (tilP W H C D xs k).length kk (tilP W H C D xs k) (x % 8) (y % 8) c w' r' hpB (by rw [hpl]; exact T.may) hk3)
        rw [hk4] at AT2
        generalize atNum W H C D xs x y c = av at *
        have EV := Lib.hid ev; have HP := Lib.hid hp
        have hgt : g7 < wr.heap.size := ev.lt
        clear ev hp hpl T hk3 hk4
        have d1 : Int.tdiv x 8 = x / 8 := Int.tdiv_eq_ediv_of_nonneg i1
        have d2 : Int.tdiv y 8 = y / 8 := Int.tdiv_eq_ediv_of_nonneg i3
        have d3 : Int.tmod x 8 = x % 8 := Int.tmod_eq_emod_of_nonneg i1
        have d4 : Int.tmod y 8 = y % 8 := Int.tmod_eq_emod_of_nonneg i3
        rw [← HA.out] at hk1
        have k1 : IntKind.i64.wrap (y / 8 * (tA W : Int) + x / 8) = (k : Int) := by rw [← hk1]; exact Go.IntWalk.i64_in _ (by omega)
        have k0 : IntKind.i64.wrap (y / 8 * (tA W : Int)) = y / 8 * (tA W : Int) := Go.IntWalk.i64_in _ (by omega)
        have k2 : decide ((k : Int) < 0) = false := by simp
        have k3 : (k : Int) < i := by omega
        have k4 : (0 : Int) ≤ k := by omega
        clear HTF HTG hk1
        generalize (tilP W H C D xs k).length = pl at *
        generalize tilP W H C D xs k = px at *
        generalize tileW W k = tw at *
        generalize tileH W H k = th at *
        have c0 := bx.out.box.c0; have c1 := bx.out.box.c1; have c2 := bx.out.box.c2; have c3 := bx.out.box.c3; have c4 := bx.out.c4
        go_wp2_with fail
        clear c0 c1 c2 c3 c4
        refine (AT.out _ R.out).mono ?_; rintro e u1 ⟨rfl, bb⟩
        replace B := Lib.hid (below_size B.out bb)
        replace EV := Lib.hid (EV.out.below bb)
        replace HP := Lib.hid (HP.out.below bb)
        clear bb
        have v0 := EV.out.c0; have v1 := EV.out.c1; have v2 := EV.out.c2; have v3 := EV.out.c3; have v4 := EV.out.c4
        simp only [Nat.zero_add] at v0 v1 v2 v3 v4
        go_wp2_with fail
        clear v0 v1 v2 v3 v4
        refine (AT2.out _ HP.out).mono ?_; rintro e u2 ⟨rfl, bb⟩
        replace B := Lib.hid (below_size B.out bb)
        clear bb
        go_wp2_with fail
        refine (first_any _).mono ?_; rintro e u3 ⟨rfl, bb⟩
        replace B := Lib.hid (below_size B.out bb)
        go_wp2_with fail
        go_ret
        exact ⟨rfl, B.out⟩
      · have hE : atErr W H C D n x y c = 1 := by unfold atErr; rw [if_pos HMR.out, if_neg hin]
        have hat := fun w' => at_not W H C D (some ⟨b, off, Option.none⟩) n cap x y c w' hH (by rw [hE]; decide)
        rw [hE] at hat
        have AT := Lib.hid hat
        clear hin hE hat
        have c0 := bx.out.box.c0; have c1 := bx.out.box.c1; have c2 := bx.out.box.c2; have c3 := bx.out.box.c3; have c4 := bx.out.c4
        go_wp2_with fail
        clear c0 c1 c2 c3 c4
        refine (AT.out _).mono ?_; rintro e u1 ⟨rfl, bb⟩
        replace B := Lib.hid (below_size B.out bb)
        clear bb
        go_wp2_with fail
        refine (first_any _).mono ?_; rintro e u2 ⟨rfl, bb⟩
        replace B := Lib.hid (below_size B.out bb)
        go_wp2_with fail
        go_ret
        exact ⟨rfl, B.out⟩

theorem walk_TileBack (W H C D : Int) (a : Option Addr) (n cap : Nat) (xs : List Int) (x y c : Int) (w : World) (_ : -9223372036854775808 ≤ W ∧ W ≤ 9223372036854775807) (hH : -9223372036854775808 ≤ H ∧ H ≤ 9223372036854775807) (_ : -9223372036854775808 ≤ C ∧ C ≤ 9223372036854775807) (_ : -9223372036854775808 ≤ D ∧ D ≤ 9223372036854775807) (hr : Reads .u8 w a n cap xs) (hx : isB xs) (_ : -9223372036854775808 ≤ x ∧ x ≤ 9223372036854775807) (_ : -9223372036854775808 ≤ y ∧ y ≤ 9223372036854775807) (_ : -9223372036854775808 ≤ c ∧ c ≤ 9223372036854775807) :
    Calls Try.prog 5 #[ras W H C D a n cap, .int .i64 x, .int .i64 y, .int .i64 c] w fun e w' => e = .returned (.bool true) ∧ Below w.heap.size w w' := by
  by_cases h1 : n ≤ 20000
  · cases h2 : mayR W H C D n with
    | false => exact back_no W H C D a n cap xs x y c w hr hx hH h1 h2
    | true =>
      obtain ⟨hbn, _, hns⟩ := mayR_spec h2
      have hn1 : 0 < n := by
        have h1 := row_pos hbn
        have h2 : 0 < rowN W H C D * H := Int.mul_pos (by omega) (by have := hbn.2.2.1; omega)
        unfold sizeN at hns
        omega
      obtain ⟨b, off, rfl, _, _⟩ := hr.cells hn1
      exact back_yes W H C D b off n cap xs x y c w hr hx hH h1 h2
  · exact back_few W H C D a n cap xs x y c w hr hx hH h1
end Go.Proofs.Ytdmaoaclhaofbaa
