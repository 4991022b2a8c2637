/-
  aquref9.Apply, where it answers a picture.
-/
import Derived.Test.YtljkkhjgcgiccaaDiffApply
import Derived.Deep.DeepCutAuto
import Derived.Deep.RegionWith
import Derived.BigRegion
import Derived.StillTailTactics
namespace Go.Proofs.Ytljkkhjgcgiccaa
open Go.RowKit

theorem made_run (n : Nat) (hn : n ≤ 16384) (w : World) : (Instr.makeSlice 24 (.int .i64 (n : Int)) (.int .i64 (n : Int))).run Try.prog w = .ok (.slice (some ⟨w.heap.size, 0, Option.none⟩) n n) (w.alloc (.cells (madeCells #[Value.int .u8 0] n) 5)) := by
  obtain ⟨i0, hi, hz0, hz1, hz2⟩ := info_parts infoC
  have := run_make (P := Try.prog) w 24 5 i0 (.int .u8 0) Try.underlying24 hi hz0 .i64 .i64 n n (by omega) (Int.le_refl _) (by rw [hz2]; omega) (by omega)
  rw [this, hz1]
  simp [Value.cells]
theorem made_owns (n B : Nat) (hn : n ≤ 16384) (w : World) (hB : B ≤ w.heap.size) : (w.alloc (.cells (madeCells #[Value.int .u8 0] n) 5)).ownsRow B 5 1 (.slice (some ⟨w.heap.size, 0, Option.none⟩) n n) n ((List.replicate n (0 : Int)).map (Value.int .u8)) := by
  have := World.ownsRow_lit (base := B) (e := 5) (size := 1) w (madeCells #[Value.int .u8 0] n) n hB (by unfold maxLen; omega) (by rw [size_madeCells]; omega)
  rwa [toList_made] at this

def Out (w2 : World) (W H C D : Int) (n : Nat) (gb g : Nat) (zs : List Int) (wx : World) : Prop :=
  RBox wx gb W H C D (some ⟨g, 0, Option.none⟩) n n ∧ wx.ownsRow w2.heap.size 5 1 (.slice (some ⟨g, 0, Option.none⟩) n n) n (zs.map (Value.int .u8)) ∧ g ≠ gb ∧ w2.heap.size ≤ gb ∧ Below w2.heap.size w2 wx

theorem out_a (w1 : World) (W H C D : Int) (n : Nat) (hn : n ≤ 16384) : Out w1 W H C D n (w1.heap.size + 1) w1.heap.size (List.replicate n (0 : Int)) ((w1.alloc (.cells (madeCells #[Value.int .u8 0] n) 5)).alloc (.cells #[.int .i64 W, .int .i64 H, .int .i64 C, .int .i64 D, .slice (some ⟨w1.heap.size, 0, Option.none⟩) n n] 26)).drew := by
  refine ⟨?_, World.ownsRow.drew (World.ownsRow.alloc (made_owns n _ hn w1 (Nat.le_refl _)) _), by omega, by omega, (((Below.refl _ _).alloc (Nat.le_refl _) _).alloc (by simp) _).drew⟩
  have := (rbox_alloc (w1.alloc (.cells (madeCells #[Value.int .u8 0] n) 5)) W H C D (some ⟨w1.heap.size, 0, Option.none⟩) n n 26).below (Below.refl _ _).drew
  rwa [World.size_alloc] at this
theorem out_b (w1 : World) (W H C D : Int) (n : Nat) (hn : n ≤ 16384) : Out w1 W H C D n w1.heap.size (w1.heap.size + 1) (List.replicate n (0 : Int)) ((w1.alloc (.cells #[.int .i64 W, .int .i64 H, .int .i64 C, .int .i64 D, .slice (some ⟨w1.heap.size + 1, 0, Option.none⟩) n n] 26)).alloc (.cells (madeCells #[Value.int .u8 0] n) 5)).drew := by
  refine ⟨((rbox_alloc w1 W H C D _ n n _).below ((Below.refl _ _).alloc (Nat.le_refl _) _)).below (Below.refl _ _).drew, ?_, by omega, by omega, (((Below.refl _ _).alloc (Nat.le_refl _) _).alloc (by simp) _).drew⟩
  have := World.ownsRow.drew (made_owns n w1.heap.size hn (w1.alloc (.cells #[.int .i64 W, .int .i64 H, .int .i64 C, .int .i64 D, .slice (some ⟨w1.heap.size + 1, 0, Option.none⟩) n n] 26)) (by simp))
  rwa [World.size_alloc] at this
theorem out_set {w1 wr : World} {W H C D : Int} {n gb g : Nat} {zs : List Int} (h : Out w1 W H C D n gb g zs wr) (j : Nat) (x : Int) : Out w1 W H C D n gb g (zs.set j x) (wr.setCell ⟨g, j, Option.none⟩ (.int .u8 x)).drew :=
  ⟨(h.1.setFar g j _ h.2.2.1).below (Below.refl _ _).drew, World.ownsRow.drew (owns_set h.2.1 j x), h.2.2.1, h.2.2.2.1, (below_set h.2.2.2.2 g j _ (h.2.1.lt g rfl).1).drew⟩

set_option maxRecDepth 100000 in
set_option maxHeartbeats 2000000 in
theorem rapply_ok (kind W H C D : Int) (a : Option Addr) (n cap : Nat) (b : Option Addr) (k : Nat) (bs ds : List Int) (w : World) (hk : kind = 1 ∨ kind = 2) (hb : Reads .u8 w a n cap bs) (hbB : isB bs) (hr : Reads .u8 w b n k ds) (hrB : isB ds) (hm : mayR W H C D n = true) :
    Calls Try.prog 11 #[.int .i64 kind, ras W H C D a n cap, .slice b n k] w (RetRas w W H C D (apL kind bs ds) 0) := by
  have hbn := (mayR_spec hm).1
  have hsz := (mayR_spec hm).2
  have hsz1 := size_bd W H C D hbn
  have hn : n ≤ 16384 := by omega
  have hn1 : 1 ≤ n := by omega
  have hH : -9223372036854775808 ≤ H ∧ H ≤ 9223372036854775807 := by have h1 := hbn.2.2.1; have h2 := hbn.2.2.2.1; omega
  have hA := fun w' => rmay_any W H C D a n cap w' hH
  rw [hm] at hA
  have HA := Lib.hid hA
  have hmk := made_run n hn
  have hb1 : Below w.heap.size w ((w.alloc (.cells #[.int .i64 W, .int .i64 H, .int .i64 C, .int .i64 D, .slice a n cap] 26)).alloc (.cells #[.int .i64 0, .int .i64 0, .int .i64 0, .int .i64 0, .slice Option.none 0 0] 26)) := ((Below.refl _ _).alloc (Nat.le_refl _) _).alloc (by simp) _
  have bx0 := (rbox_alloc w W H C D a n cap 26).below ((Below.refl _ _).alloc (Nat.le_refl _) (.cells #[.int .i64 0, .int .i64 0, .int .i64 0, .int .i64 0, .slice Option.none 0 0] 26))
  have by0 := rbox_alloc (w.alloc (.cells #[.int .i64 W, .int .i64 H, .int .i64 C, .int .i64 D, .slice a n cap] 26)) 0 0 0 0 Option.none 0 0 26
  rw [World.size_alloc] at by0
  have B := Lib.hid hb1; have BX := Lib.hid bx0; have BY := Lib.hid by0
  have Hv := Lib.hid (show w.heap.size + 2 ≤ ((w.alloc (.cells #[.int .i64 W, .int .i64 H, .int .i64 C, .int .i64 D, .slice a n cap] 26)).alloc (.cells #[.int .i64 0, .int .i64 0, .int .i64 0, .int .i64 0, .slice Option.none 0 0] 26)).heap.size by simp)
  have R := Lib.hid (hr.below hb1); have S := Lib.hid (hb.below hb1)
  have Hrl := Lib.hid hr.len; have Hbl := Lib.hid hb.len
  have HrB := Lib.hid hrB; have HbB := Lib.hid hbB
  clear hb1 bx0 by0 hA hr hb hrB hbB hm hbn hsz hsz1
  obtain ⟨L, hL⟩ : ∃ L, L = apL kind bs ds := ⟨_, rfl⟩
  have hL1 : L.length = n := by rw [hL, apL_len, Hrl.out]
  have hL2 : ∀ q, q < n → L.getD q 0 = ap kind (bs.getD q 0) (ds.getD q 0) := fun q hq => by rw [hL, apL_getD _ _ _ _ (by rw [Hrl.out]; exact hq)]
  have HL := Lib.hid (And.intro hL1 hL2)
  rw [← hL]
  clear hL hL1 hL2
  rcases hk with rfl | rfl
  · go_enter Try.func11, Try.ntmps11
    go_wp2_with fail
    generalize ((w.alloc (.cells #[.int .i64 W, .int .i64 H, .int .i64 C, .int .i64 D, .slice a n cap] 26)).alloc (.cells #[.int .i64 0, .int .i64 0, .int .i64 0, .int .i64 0, .slice Option.none 0 0] 26)) = v0 at *
    refine (HA.out _).mono ?_; rintro e w1 ⟨rfl, bb⟩
    replace B := Lib.hid (below_size B.out bb)
    replace BX := Lib.hid (BX.out.below bb)
    replace BY := Lib.hid (BY.out.below bb)
    replace R := Lib.hid (R.out.below bb)
    replace S := Lib.hid (S.out.below bb)
    have hsz2 : w.heap.size + 2 ≤ w1.heap.size := by have := BY.out.lt; omega
    have Hsz2 := Lib.hid hsz2
    clear bb
    have c0 := BX.out.box.c0; have c1 := BX.out.box.c1; have c2 := BX.out.box.c2; have c3 := BX.out.box.c3; have c4 := BX.out.c4
    go_upto_region 9 with (fail)
    have hx0 : w.heap.size < w1.heap.size := by omega
    go_cut [8] (fun s wx => ∃ gb g, s = .pointer (some ⟨gb, 0, Option.none⟩) ∧ Out w1 W H C D n gb g (List.replicate n (0 : Int)) wx)
    case first =>
      go_region_with (fail)
      all_goals (go_wp2_with fail; go_meet)
      all_goals first
        | exact ⟨_, _, rfl, out_a w1 W H C D n hn⟩
        | exact ⟨_, _, rfl, out_b w1 W H C D n hn⟩
    case rest =>
      obtain ⟨gb, g, rfl, hO⟩ := hcut
      clear c0 c1 c2 c3 c4
      generalize hxs : List.replicate n (0 : Int) = xs at hO
      have Hxs := Lib.hid hxs
      clear hxs hx0 hsz2
      have HO := Lib.hid hO
      clear hO
      go_wp2_with fail
      go_loopw [9] (fun i wr => ∃ (j : Nat) (zs : List Int), j ≤ n ∧ i = .int .i64 j ∧ Hid (Out w1 W H C D n gb g zs wr) ∧ Hid (zs.length = n ∧ ∀ q, q < n → zs.getD q 0 = if q < j then L.getD q 0 else 0)) (fun i _ => n - (intOf i).toNat)
      case atStart =>
        refine ⟨0, xs, Nat.zero_le _, rfl, HO, ?_⟩
        rw [← Hxs.out]
        exact ⟨by simp, fun q hq => by simp [List.getD, hq]⟩
      case round =>
        obtain ⟨j, zs, hj, rfl, KO, Hy⟩ := hrel
        clear Hxs HO
        by_cases hlt : j < n
        · have hc := owns_cell KO.out.2.1 j hlt
          have hfz := KO.out.2.1.frozenAt j
          obtain ⟨p1, o1, rfl, t1⟩ := (R.out.below KO.out.2.2.2.2).cellAt j hlt
          obtain ⟨p2, o2, rfl, t2⟩ := (S.out.below KO.out.2.2.2.2).cellAt j hlt
          have e1 := HrB.out.get j (by rw [Hrl.out]; exact hlt)
          have e2 := HbB.out.get j (by rw [Hbl.out]; exact hlt)
          have hLj := HL.out.2 j hlt
          have hxor := xor_u8i (ds.getD j 0) (bs.getD j 0) e1 e2
          generalize hzr : ds.getD j 0 = zr at *
          generalize hzb : bs.getD j 0 = zb at *
          have HLj := Lib.hid hLj
          have Hzr := Lib.hid hzr; have Hzb := Lib.hid hzb
          generalize hxv : ((zr.toNat ^^^ zb.toNat : Nat) : Int) = xv at hxor
          have Hxv := Lib.hid hxv
          have x3 := BX.out.below KO.out.2.2.2.2
          have y3 := KO.out.1
          clear hLj hzr hzb hxv
          have c0 := x3.box.c0; have c1 := x3.box.c1; have c2 := x3.box.c2; have c3 := x3.box.c3; have c4 := x3.c4
          have d0 := y3.box.c0; have d1 := y3.box.c1; have d2 := y3.box.c2; have d3 := y3.box.c3; have d4 := y3.c4
          clear x3 y3
          go_wp2_with fail
          have q1 : (j : Int) < n := by omega
          refine wp_region_still_tail 14 (by kernel_rfl) (by kernel_rfl) ?_
          simp only [List.take_succ_cons, List.take_zero, List.drop_succ_cons, List.drop_zero]
          repeat still_step
          refine wpStill_nil ?_
          change wpList _ _ _ _ _ wr.drew
          go_wp2_with fail
          go_roundw
          case rel =>
            obtain ⟨hyl, hyj⟩ := Hy.out
            have hv1 : L.getD j 0 = xv := by rw [HLj.out, ← Hxv.out]; simp [ap, Nat.xor_comm]
            refine ⟨j + 1, zs.set j (L.getD j 0), by omega, by go_num, Lib.hid ?_, by simpa using hyl, fun q hq => ?_⟩
            · rw [hv1]; exact out_set KO.out j xv
            · rw [getD_set, hyj q hq]
              by_cases e : q = j
              · rw [if_pos ⟨e.symm, by omega⟩, if_pos (by omega), e]
              · rw [if_neg (fun h => e h.1.symm)]
                by_cases h2 : q < j
                · rw [if_pos h2, if_pos (by omega)]
                · rw [if_neg h2, if_neg (by omega)]
          case measure => simp [intOf]; omega
        · obtain rfl : j = n := by omega
          have y3 := KO.out.1
          have Z3 := Lib.hid (BY.out.below KO.out.2.2.2.2)
          have c0 := y3.box.c0; have c1 := y3.box.c1; have c2 := y3.box.c2; have c3 := y3.box.c3; have c4 := y3.c4
          have d0 := Z3.out.box.c0; have d1 := Z3.out.box.c1; have d2 := Z3.out.box.c2; have d3 := Z3.out.box.c3; have d4 := Z3.out.c4; have f0 := Z3.out.box.f0; have f1 := Z3.out.box.f1; have f2 := Z3.out.box.f2; have f3 := Z3.out.box.f3; have f4 := Z3.out.f4
          clear y3
          go_wp2_with fail
          obtain ⟨hyl, hyj⟩ := Hy.out
          have e : zs = L := ext_getD (by rw [hyl, HL.out.1]) fun q hq => by rw [hyj q (by omega), if_pos (by omega)]
          subst e
          have hs2 := Hsz2.out
          have o4 := owns_under (owns_under (owns_under (owns_under (owns_under KO.out.2.1 (w.heap.size + 1) 0 (.int .i64 W) (by omega)) (w.heap.size + 1) 1 (.int .i64 H) (by omega)) (w.heap.size + 1) 2 (.int .i64 C) (by omega)) (w.heap.size + 1) 3 (.int .i64 D) (by omega)) (w.heap.size + 1) 4 (.slice (some ⟨g, 0, Option.none⟩) j j) (by omega)
          refine bodyPost_ret (results_ras rfl _ _ _ rfl (Z3.out.set W H C D (some ⟨g, 0, Option.none⟩) j j)) rfl ?_
          unfold RetRas
          rw [HL.out.1]
          exact ⟨some ⟨g, 0, Option.none⟩, j, rfl, owns_base o4 (by omega), (((((below_size B.out KO.out.2.2.2.2).setCell (by simp) _).setCell (by simp) _).setCell (by simp) _).setCell (by simp) _).setCell (by simp) _⟩
  · go_enter Try.func11, Try.ntmps11
    go_wp2_with fail
    generalize ((w.alloc (.cells #[.int .i64 W, .int .i64 H, .int .i64 C, .int .i64 D, .slice a n cap] 26)).alloc (.cells #[.int .i64 0, .int .i64 0, .int .i64 0, .int .i64 0, .slice Option.none 0 0] 26)) = v0 at *
    refine (HA.out _).mono ?_; rintro e w1 ⟨rfl, bb⟩
    replace B := Lib.hid (below_size B.out bb)
    replace BX := Lib.hid (BX.out.below bb)
    replace BY := Lib.hid (BY.out.below bb)
    replace R := Lib.hid (R.out.below bb)
    replace S := Lib.hid (S.out.below bb)
    have hsz2 : w.heap.size + 2 ≤ w1.heap.size := by have := BY.out.lt; omega
    have Hsz2 := Lib.hid hsz2
    clear bb
    have c0 := BX.out.box.c0; have c1 := BX.out.box.c1; have c2 := BX.out.box.c2; have c3 := BX.out.box.c3; have c4 := BX.out.c4
    go_upto_region 9 with (fail)
    have hx0 : w.heap.size < w1.heap.size := by omega
    go_cut [8] (fun s wx => ∃ gb g, s = .pointer (some ⟨gb, 0, Option.none⟩) ∧ Out w1 W H C D n gb g (List.replicate n (0 : Int)) wx)
    case first =>
      go_region_with (fail)
      all_goals (go_wp2_with fail; go_meet)
      all_goals first
        | exact ⟨_, _, rfl, out_a w1 W H C D n hn⟩
        | exact ⟨_, _, rfl, out_b w1 W H C D n hn⟩
    case rest =>
      obtain ⟨gb, g, rfl, hO⟩ := hcut
      clear c0 c1 c2 c3 c4
      generalize hxs : List.replicate n (0 : Int) = xs at hO
      have Hxs := Lib.hid hxs
      clear hxs hx0 hsz2
      have HO := Lib.hid hO
      clear hO
      go_wp2_with fail
      go_loopw [9] (fun i wr => ∃ (j : Nat) (zs : List Int), j ≤ n ∧ i = .int .i64 j ∧ Hid (Out w1 W H C D n gb g zs wr) ∧ Hid (zs.length = n ∧ ∀ q, q < n → zs.getD q 0 = if q < j then L.getD q 0 else 0)) (fun i _ => n - (intOf i).toNat)
      case atStart =>
        refine ⟨0, xs, Nat.zero_le _, rfl, HO, ?_⟩
        rw [← Hxs.out]
        exact ⟨by simp, fun q hq => by simp [List.getD, hq]⟩
      case round =>
        obtain ⟨j, zs, hj, rfl, KO, Hy⟩ := hrel
        clear Hxs HO
        by_cases hlt : j < n
        · have hc := owns_cell KO.out.2.1 j hlt
          have hfz := KO.out.2.1.frozenAt j
          obtain ⟨p1, o1, rfl, t1⟩ := (R.out.below KO.out.2.2.2.2).cellAt j hlt
          obtain ⟨p2, o2, rfl, t2⟩ := (S.out.below KO.out.2.2.2.2).cellAt j hlt
          have e1 := HrB.out.get j (by rw [Hrl.out]; exact hlt)
          have e2 := HbB.out.get j (by rw [Hbl.out]; exact hlt)
          have hLj := HL.out.2 j hlt
          have hxor := xor_u8i (ds.getD j 0) (bs.getD j 0) e1 e2
          generalize hzr : ds.getD j 0 = zr at *
          generalize hzb : bs.getD j 0 = zb at *
          have HLj := Lib.hid hLj
          have Hzr := Lib.hid hzr; have Hzb := Lib.hid hzb
          generalize hxv : ((zr.toNat ^^^ zb.toNat : Nat) : Int) = xv at hxor
          have Hxv := Lib.hid hxv
          have x3 := BX.out.below KO.out.2.2.2.2
          have y3 := KO.out.1
          clear hLj hzr hzb hxv
          have c0 := x3.box.c0; have c1 := x3.box.c1; have c2 := x3.box.c2; have c3 := x3.box.c3; have c4 := x3.c4
          have d0 := y3.box.c0; have d1 := y3.box.c1; have d2 := y3.box.c2; have d3 := y3.box.c3; have d4 := y3.c4
          clear x3 y3
          go_wp2_with fail
          have q1 : (j : Int) < n := by omega
          refine wp_region_still_tail 14 (by kernel_rfl) (by kernel_rfl) ?_
          simp only [List.take_succ_cons, List.take_zero, List.drop_succ_cons, List.drop_zero]
          repeat still_step
          refine wpStill_nil ?_
          change wpList _ _ _ _ _ wr.drew
          go_upto_region 15 with fail
          clear c0 c1 c2 c3 c4 d0 d1 d2 d3 d4
          have KQ := Lib.hid (out_set KO.out j xv)
          generalize (wr.setCell ⟨g, j, Option.none⟩ (.int .u8 xv)).drew = wq at *
          clear t1 t2 hc hfz hxor
          obtain ⟨p1', o1', ee, t1⟩ := (R.out.below KQ.out.2.2.2.2).cellAt j hlt
          obtain ⟨rfl, rfl⟩ : p1 = p1' ∧ o1 = o1' := by simpa using ee
          clear ee
          obtain ⟨p2', o2', ee, t2⟩ := (S.out.below KQ.out.2.2.2.2).cellAt j hlt
          obtain ⟨rfl, rfl⟩ : p2 = p2' ∧ o2 = o2' := by simpa using ee
          rw [Hzr.out] at t1
          rw [Hzb.out] at t2
          have hc := owns_cell KQ.out.2.1 j hlt
          have hfz := KQ.out.2.1.frozenAt j
          have x3 := BX.out.below KQ.out.2.2.2.2
          have y3 := KQ.out.1
          clear ee
          have c0 := x3.box.c0; have c1 := x3.box.c1; have c2 := x3.box.c2; have c3 := x3.box.c3; have c4 := x3.c4
          have d0 := y3.box.c0; have d1 := y3.box.c1; have d2 := y3.box.c2; have d3 := y3.box.c3; have d4 := y3.c4
          clear x3 y3
          generalize (zs.set j xv).getD j 0 = old at hc
          refine wp_region_still_tail 14 (by kernel_rfl) (by kernel_rfl) ?_
          simp only [List.take_succ_cons, List.take_zero, List.drop_succ_cons, List.drop_zero]
          repeat still_step
          refine wpStill_nil ?_
          change wpList _ _ _ _ _ wq.drew
          go_wp2_with fail
          go_roundw
          case rel =>
            obtain ⟨hyl, hyj⟩ := Hy.out
            have hv1 : L.getD j 0 = (zr + zb) % 256 := by rw [HLj.out, Int.add_comm]; simp [ap]
            refine ⟨j + 1, zs.set j (L.getD j 0), by omega, by go_num, Lib.hid ?_, by simpa using hyl, fun q hq => ?_⟩
            · rw [hv1]
              have h3 := out_set KQ.out j ((zr + zb) % 256)
              rw [List.set_set] at h3
              exact h3
            · rw [getD_set, hyj q hq]
              by_cases e : q = j
              · rw [if_pos ⟨e.symm, by omega⟩, if_pos (by omega), e]
              · rw [if_neg (fun h => e h.1.symm)]
                by_cases h2 : q < j
                · rw [if_pos h2, if_pos (by omega)]
                · rw [if_neg h2, if_neg (by omega)]
          case measure => simp [intOf]; omega
        · obtain rfl : j = n := by omega
          have y3 := KO.out.1
          have Z3 := Lib.hid (BY.out.below KO.out.2.2.2.2)
          have c0 := y3.box.c0; have c1 := y3.box.c1; have c2 := y3.box.c2; have c3 := y3.box.c3; have c4 := y3.c4
          have d0 := Z3.out.box.c0; have d1 := Z3.out.box.c1; have d2 := Z3.out.box.c2; have d3 := Z3.out.box.c3; have d4 := Z3.out.c4; have f0 := Z3.out.box.f0; have f1 := Z3.out.box.f1; have f2 := Z3.out.box.f2; have f3 := Z3.out.box.f3; have f4 := Z3.out.f4
          clear y3
          go_wp2_with fail
          obtain ⟨hyl, hyj⟩ := Hy.out
          have e : zs = L := ext_getD (by rw [hyl, HL.out.1]) fun q hq => by rw [hyj q (by omega), if_pos (by omega)]
          subst e
          have hs2 := Hsz2.out
          have o4 := owns_under (owns_under (owns_under (owns_under (owns_under KO.out.2.1 (w.heap.size + 1) 0 (.int .i64 W) (by omega)) (w.heap.size + 1) 1 (.int .i64 H) (by omega)) (w.heap.size + 1) 2 (.int .i64 C) (by omega)) (w.heap.size + 1) 3 (.int .i64 D) (by omega)) (w.heap.size + 1) 4 (.slice (some ⟨g, 0, Option.none⟩) j j) (by omega)
          refine bodyPost_ret (results_ras rfl _ _ _ rfl (Z3.out.set W H C D (some ⟨g, 0, Option.none⟩) j j)) rfl ?_
          unfold RetRas
          rw [HL.out.1]
          exact ⟨some ⟨g, 0, Option.none⟩, j, rfl, owns_base o4 (by omega), (((((below_size B.out KO.out.2.2.2.2).setCell (by simp) _).setCell (by simp) _).setCell (by simp) _).setCell (by simp) _).setCell (by simp) _⟩
end Go.Proofs.Ytljkkhjgcgiccaa
