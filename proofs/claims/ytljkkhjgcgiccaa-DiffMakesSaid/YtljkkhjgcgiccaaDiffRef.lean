/-
  The document's Delta of chapter 11.
-/
import Derived.Test.YtljkkhjgcgiccaaDiffMake
import Derived.Test.YtljkkhjgcgiccaaRef
import Derived.Test.YtljkkhjgcgiccaaAquref
import Derived.Test.YtljkkhjgcgiccaaRasCopy
import Derived.Test.YtljkkhjgcgiccaaRetRas
namespace Go.Proofs.Ytljkkhjgcgiccaa
open Go.RowKit

set_option maxHeartbeats 2000000 in
theorem rpair_any (W H C D : Int) (a : Option Addr) (n cap : Nat) (W' H' C' D' : Int) (b : Option Addr) (m k : Nat) (w : World) (hH : -9223372036854775808 ≤ H ∧ H ≤ 9223372036854775807) (hH' : -9223372036854775808 ≤ H' ∧ H' ≤ 9223372036854775807) :
    Calls Try.prog 20 #[ras W H C D a n cap, ras W' H' C' D' b m k] w fun e w' => e = .returned (.int .i64 (alikeE W H C D n W' H' C' D' m)) ∧ Below w.heap.size w w' := by
  obtain ⟨v, hv, hb, bx, by_⟩ := two_boxes w W H C D a n cap W' H' C' D' b m k
  have c1 := fun w' => rmay_any W H C D a n cap w' hH
  have c2 := fun w' => rmay_any W' H' C' D' b m k w' hH'
  have c3 := fun w' => eqShape_any W H C D W' H' C' D' w'
  have es : decide (eqS W H C D W' H' C' D') = decide (shEq W H C D W' H' C' D') := decide_eq_decide.2 Iff.rfl
  simp only [es] at c3
  have HB := Lib.hid hb; have BX := Lib.hid bx; have BY := Lib.hid by_
  unfold alikeE
  clear hb bx by_ es
  cases h1 : mayR W H C D n
  · rw [h1] at c1
    simp only [Bool.false_eq_true, false_and, if_false]
    go_enter Try.func20, Try.ntmps20
    go_wp2_with fail
    rw [← hv]
    clear hv
    refine (c1 _).mono ?_; rintro e w1 ⟨rfl, b1⟩
    have B1 := below_size HB.out b1
    clear b1
    go_wp2_with fail
    go_ret
    exact ⟨rfl, B1⟩
  · rw [h1] at c1
    cases h2 : mayR W' H' C' D' m
    · rw [h2] at c2
      simp only [Bool.false_eq_true, and_false, if_false]
      clear h1 h2
      go_enter Try.func20, Try.ntmps20
      go_wp2_with fail
      rw [← hv]
      clear hv
      refine (c1 _).mono ?_; rintro e w1 ⟨rfl, b1⟩
      have B1 := below_size HB.out b1
      have y1 := BY.out.below b1
      have d0 := y1.box.c0; have d1 := y1.box.c1; have d2 := y1.box.c2; have d3 := y1.box.c3; have d4 := y1.c4
      clear b1
      go_wp2_with fail
      refine (c2 _).mono ?_; rintro e w2 ⟨rfl, b2⟩
      have B2 := below_size B1 b2
      clear d0 d1 d2 d3 d4
      clear b2
      go_wp2_with fail
      go_ret
      exact ⟨rfl, B2⟩
    · rw [h2] at c2
      simp only [and_self, if_true]
      clear h1 h2
      have C3 := Lib.hid c3
      clear c3
      by_cases hs : shEq W H C D W' H' C' D'
      all_goals
        first | rw [if_pos hs] | rw [if_neg hs]
        first | rw [decide_eq_true hs] at C3 | rw [decide_eq_false hs] at C3
        clear hs
        go_enter Try.func20, Try.ntmps20
        go_wp2_with fail
        rw [← hv]
        clear hv
        refine (c1 _).mono ?_; rintro e w1 ⟨rfl, b1⟩
        have B1 := below_size HB.out b1
        have y1 := BY.out.below b1
        have x1 := BX.out.below b1
        have d0 := y1.box.c0; have d1 := y1.box.c1; have d2 := y1.box.c2; have d3 := y1.box.c3; have d4 := y1.c4
        clear b1
        go_wp2_with fail
        refine (c2 _).mono ?_; rintro e w2 ⟨rfl, b2⟩
        have B2 := below_size B1 b2
        have y2 := y1.below b2
        have x2 := x1.below b2
        clear d0 d1 d2 d3 d4
        clear b2
        have c0 := x2.box.c0; have c1 := x2.box.c1; have c2 := x2.box.c2; have c3 := x2.box.c3; have c4 := x2.c4
        have d0 := y2.box.c0; have d1 := y2.box.c1; have d2 := y2.box.c2; have d3 := y2.box.c3; have d4 := y2.c4
        go_wp2_with fail
        clear c0 c1 c2 c3 c4 d0 d1 d2 d3 d4
        refine (C3.out _).mono ?_; rintro e w3 ⟨rfl, b3⟩
        have B3 := below_size B2 b3
        clear b3
        go_wp2_with fail
        go_ret
        exact ⟨rfl, B3⟩

set_option maxHeartbeats 1000000 in
theorem rmake_kind (kind W H C D : Int) (a : Option Addr) (n cap : Nat) (W' H' C' D' : Int) (b : Option Addr) (m k : Nat) (w : World) (hk : kind ≠ 1 ∧ kind ≠ 2) :
    Calls Try.prog 9 #[.int .i64 kind, ras W H C D a n cap, ras W' H' C' D' b m k] w (RetBy w [] 1) := by
  have h1 : (kind != 1) = true := by simpa using hk.1
  have h2 : (kind != 2) = true := by simpa using hk.2
  clear hk
  go_enter Try.func9, Try.ntmps9
  go_wp2_with fail
  go_returns
  exact ⟨Option.none, 0, rfl, World.ownsRow_nil _ _ _ _, ((Below.refl _ _).alloc (Nat.le_refl _) _).alloc (by simp) _⟩

set_option maxHeartbeats 1000000 in
theorem rmake_not (kind W H C D : Int) (a : Option Addr) (n cap : Nat) (W' H' C' D' : Int) (b : Option Addr) (m k : Nat) (w : World) (hk : kind = 1 ∨ kind = 2) (hH : -9223372036854775808 ≤ H ∧ H ≤ 9223372036854775807) (hH' : -9223372036854775808 ≤ H' ∧ H' ≤ 9223372036854775807) (he : alikeE W H C D n W' H' C' D' m ≠ 0) :
    Calls Try.prog 9 #[.int .i64 kind, ras W H C D a n cap, ras W' H' C' D' b m k] w (RetBy w [] (alikeE W H C D n W' H' C' D' m)) := by
  obtain ⟨v, hv, hb, bx, by_⟩ := two_boxes w W H C D a n cap W' H' C' D' b m k
  have HA := Lib.hid (fun w' => rpair_any W H C D a n cap W' H' C' D' b m k w' hH hH')
  have he' : (alikeE W H C D n W' H' C' D' m != 0) = true := by simpa using he
  generalize alikeE W H C D n W' H' C' D' m = E at *
  have HB := Lib.hid hb
  clear hb bx by_ he
  rcases hk with rfl | rfl
  all_goals
    go_enter Try.func9, Try.ntmps9
    go_wp2_with fail
    rw [← hv]
    clear hv
    refine (HA.out _).mono ?_; rintro e w1 ⟨rfl, b1⟩
    have B1 := below_size HB.out b1
    clear b1
    go_wp2_with fail
    go_returns
    exact ⟨Option.none, 0, rfl, World.ownsRow_nil _ _ _ _, B1⟩

set_option maxRecDepth 100000 in
set_option maxHeartbeats 2000000 in
theorem rmake_ok (kind W H C D : Int) (a : Option Addr) (n cap : Nat) (b : Option Addr) (k : Nat) (bs rs : List Int) (w : World) (hk : kind = 1 ∨ kind = 2) (hb : Reads .u8 w a n cap bs) (hbB : isB bs) (hr : Reads .u8 w b n k rs) (hrB : isB rs) (hm : mayR W H C D n = true) :
    Calls Try.prog 9 #[.int .i64 kind, ras W H C D a n cap, ras W H C D b n k] w (RetBy w (mkL kind bs rs) 0) := by
  have hbn := (mayR_spec hm).1
  have hsz := (mayR_spec hm).2
  have hsz1 := size_bd W H C D hbn
  have hn : n ≤ 16384 := by omega
  have hn1 : 1 ≤ n := by omega
  have hH : -9223372036854775808 ≤ H ∧ H ≤ 9223372036854775807 := by have h1 := hbn.2.2.1; have h2 := hbn.2.2.2.1; omega
  obtain ⟨v, hv, hbl, bx, by_⟩ := two_boxes w W H C D a n cap W H C D b n k
  have ha0 : alikeE W H C D n W H C D n = 0 := by unfold alikeE; rw [if_pos ⟨hm, hm⟩, if_pos ⟨rfl, rfl, rfl, rfl⟩]
  have hA := fun w' => rpair_any W H C D a n cap W H C D b n k w' hH hH
  rw [ha0] at hA
  have HA := Lib.hid hA
  have R := Lib.hid (hr.below hbl); have S := Lib.hid (hb.below hbl)
  have HB := Lib.hid hbl; have BX := Lib.hid bx; have BY := Lib.hid by_
  have Hrl := Lib.hid hr.len; have Hbl := Lib.hid hb.len
  have HrB := Lib.hid hrB; have HbB := Lib.hid hbB
  obtain ⟨i0, hi, hz0, hz1, hz2⟩ := info_parts infoC
  have Hi := Lib.hid hi; have Hz0 := Lib.hid hz0; have Hz1 := Lib.hid hz1; have Hz2 := Lib.hid hz2
  clear hbl bx by_ ha0 hA hr hb hrB hbB hm hbn hsz hsz1 hi hz0 hz1 hz2
  obtain ⟨L, hL⟩ : ∃ L, L = mkL kind bs rs := ⟨_, rfl⟩
  have hL1 : L.length = n := by rw [hL, mkL_len, Hrl.out]
  have hL2 : ∀ q, q < n → L.getD q 0 = dl kind (rs.getD q 0) (bs.getD q 0) := fun q hq => by rw [hL, mkL_getD _ _ _ _ (by rw [Hrl.out]; exact hq)]
  have HL := Lib.hid (And.intro hL1 hL2)
  rw [← hL]
  clear hL hL1 hL2
  rcases hk with rfl | rfl
  · go_enter Try.func9, Try.ntmps9
    go_wp2_with fail
    rw [← hv]
    clear hv
    refine (HA.out _).mono ?_; rintro e w1 ⟨rfl, b1⟩
    have B1 := Lib.hid (below_size HB.out b1)
    have y1 := BY.out.below b1
    have x1 := BX.out.below b1
    have R1 := Lib.hid (R.out.below b1); have S1 := Lib.hid (S.out.below b1)
    have BX3 := Lib.hid x1; have BY3 := Lib.hid y1
    have d0 := y1.box.c0; have d1 := y1.box.c1; have d2 := y1.box.c2; have d3 := y1.box.c3; have d4 := y1.c4
    clear b1
    go_wp2_with (at_make; refine wpList_make_full _ rfl _ _ 24 rfl w1.heap.size 5 i0 (.int .u8 0) 1 Try.underlying24 Hi.out Hz0.out Hz1.out _ _ _ _ n rfl rfl (by first | rfl | omega) (by first | rfl | omega) (by rw [Hz2.out]; omega) (by unfold maxLen; omega) (Nat.le_refl _) ?_)
    intro w2 hown hgrow
    rw [toList_made n .u8] at hown
    have hb0 : Below w1.heap.size w1 w2 := (Below.refl _ _).grown hgrow (Nat.le_refl _) (fun k h => nomatch h)
    clear hgrow
    clear d0 d1 d2 d3 d4
    have hyl1 : w.heap.size + 1 < w1.heap.size := y1.lt
    clear y1 x1
    generalize hg : w1.heap.size = g at *
    have HG := Lib.hid hg; clear hg
    generalize hxs : List.replicate n (0 : Int) = xs at hown
    have Hxs := Lib.hid hxs; clear hxs
    go_wp2_with fail
    go_loopw [10] (fun i wr => ∃ (j : Nat) (zs : List Int), j ≤ n ∧ i = .int .i64 j ∧ wr.ownsRow g 5 1 (.slice (some ⟨g, 0, Option.none⟩) n n) n (zs.map (Value.int .u8)) ∧ Below g w1 wr ∧
        Hid (zs.length = n ∧ ∀ q, q < n → zs.getD q 0 = if q < j then L.getD q 0 else 0)) (fun i _ => n - (intOf i).toNat)
    case atStart =>
      refine ⟨0, xs, Nat.zero_le _, rfl, hown, hb0, ?_⟩
      rw [← Hxs.out]
      exact ⟨by simp, fun q hq => by simp [List.getD, hq]⟩
    case round =>
      obtain ⟨j, zs, hj, rfl, ho, hbl, Hy⟩ := hrel
      clear hown Hxs hb0
      have hbl1 : Below w1.heap.size w1 wr := by rw [HG.out]; exact hbl
      have x3 := BX3.out.below hbl1; have y3 := BY3.out.below hbl1
      by_cases hlt : j < n
      · have hc := owns_cell ho j hlt
        have hfz := ho.frozenAt j
        obtain ⟨p1, o1, rfl, t1⟩ := (R1.out.below hbl1).cellAt j hlt
        obtain ⟨p2, o2, rfl, t2⟩ := (S1.out.below hbl1).cellAt j hlt
        have e1 := HrB.out.get j (by rw [Hrl.out]; exact hlt)
        have e2 := HbB.out.get j (by rw [Hbl.out]; exact hlt)
        have hLj := HL.out.2 j hlt
        have hxor := xor_u8i (rs.getD j 0) (bs.getD j 0) e1 e2
        generalize hzr : rs.getD j 0 = zr at *
        generalize hzb : bs.getD j 0 = zb at *
        have HLj := Lib.hid hLj; have HBL := Lib.hid hbl
        have T1 := Lib.hid t1; have T2 := Lib.hid t2
        have Hzr := Lib.hid hzr; have Hzb := Lib.hid hzb
        have X3 := Lib.hid x3; have Y3 := Lib.hid y3
        generalize hxv : ((zr.toNat ^^^ zb.toNat : Nat) : Int) = xv at hxor
        have Hxv := Lib.hid hxv
        clear hxv
        clear hLj hbl hbl1 hzr hzb
        have c0 := x3.box.c0; have c1 := x3.box.c1; have c2 := x3.box.c2; have c3 := x3.box.c3; have c4 := x3.c4
        have d0 := y3.box.c0; have d1 := y3.box.c1; have d2 := y3.box.c2; have d3 := y3.box.c3; have d4 := y3.c4
        clear x3 y3
        go_wp2_with fail
        have q1 : (j : Int) < n := by omega
        refine wp_region_still_tail 14 (by kernel_rfl) (by kernel_rfl) ?_
        simp only [List.take_succ_cons, List.take_zero, List.drop_succ_cons, List.drop_zero]
        repeat still_step
        refine wpStill_nil ?_
        change wpList _ _ _ _ _ wr.drew
        go_wp2_with fail
        go_roundw
        case rel =>
          obtain ⟨hyl, hyj⟩ := Hy.out
          have hv1 : L.getD j 0 = xv := by rw [HLj.out, ← Hxv.out]; simp [dl]
          refine ⟨j + 1, zs.set j (L.getD j 0), by omega, by go_num, ?_, (HBL.out.setCell (p := ⟨g, j, Option.none⟩) (Nat.le_refl _) _).drew, by simpa using hyl, fun q hq => ?_⟩
          · rw [hv1]; exact World.ownsRow.drew (owns_set ho _ _)
          · rw [getD_set, hyj q hq]
            by_cases e : q = j
            · rw [if_pos ⟨e.symm, by omega⟩, if_pos (by omega), e]
            · rw [if_neg (fun h => e h.1.symm)]
              by_cases h2 : q < j
              · rw [if_pos h2, if_pos (by omega)]
              · rw [if_neg h2, if_neg (by omega)]
        case measure => simp [intOf]; omega
      · obtain rfl : j = n := by omega
        go_wp2_with fail
        go_returns
        obtain ⟨hyl, hyj⟩ := Hy.out
        have e : zs = L := ext_getD (by rw [hyl, HL.out.1]) fun q hq => by rw [hyj q (by omega), if_pos (by omega)]
        subst e
        unfold RetBy
        rw [HL.out.1]
        exact ⟨some ⟨g, 0, Option.none⟩, j, rfl, owns_base ho (by have := B1.out.size; rw [HG.out] at this; exact this), below_size B1.out hbl1⟩
  · go_enter Try.func9, Try.ntmps9
    go_wp2_with fail
    rw [← hv]
    clear hv
    refine (HA.out _).mono ?_; rintro e w1 ⟨rfl, b1⟩
    have B1 := Lib.hid (below_size HB.out b1)
    have y1 := BY.out.below b1
    have x1 := BX.out.below b1
    have R1 := Lib.hid (R.out.below b1); have S1 := Lib.hid (S.out.below b1)
    have BX3 := Lib.hid x1; have BY3 := Lib.hid y1
    have d0 := y1.box.c0; have d1 := y1.box.c1; have d2 := y1.box.c2; have d3 := y1.box.c3; have d4 := y1.c4
    clear b1
    go_wp2_with (at_make; refine wpList_make_full _ rfl _ _ 24 rfl w1.heap.size 5 i0 (.int .u8 0) 1 Try.underlying24 Hi.out Hz0.out Hz1.out _ _ _ _ n rfl rfl (by first | rfl | omega) (by first | rfl | omega) (by rw [Hz2.out]; omega) (by unfold maxLen; omega) (Nat.le_refl _) ?_)
    intro w2 hown hgrow
    rw [toList_made n .u8] at hown
    have hb0 : Below w1.heap.size w1 w2 := (Below.refl _ _).grown hgrow (Nat.le_refl _) (fun k h => nomatch h)
    clear hgrow
    clear d0 d1 d2 d3 d4
    have hyl1 : w.heap.size + 1 < w1.heap.size := y1.lt
    clear y1 x1
    generalize hg : w1.heap.size = g at *
    have HG := Lib.hid hg; clear hg
    generalize hxs : List.replicate n (0 : Int) = xs at hown
    have Hxs := Lib.hid hxs; clear hxs
    go_wp2_with fail
    go_loopw [10] (fun i wr => ∃ (j : Nat) (zs : List Int), j ≤ n ∧ i = .int .i64 j ∧ wr.ownsRow g 5 1 (.slice (some ⟨g, 0, Option.none⟩) n n) n (zs.map (Value.int .u8)) ∧ Below g w1 wr ∧
        Hid (zs.length = n ∧ ∀ q, q < n → zs.getD q 0 = if q < j then L.getD q 0 else 0)) (fun i _ => n - (intOf i).toNat)
    case atStart =>
      refine ⟨0, xs, Nat.zero_le _, rfl, hown, hb0, ?_⟩
      rw [← Hxs.out]
      exact ⟨by simp, fun q hq => by simp [List.getD, hq]⟩
    case round =>
      obtain ⟨j, zs, hj, rfl, ho, hbl, Hy⟩ := hrel
      clear hown Hxs hb0
      have hbl1 : Below w1.heap.size w1 wr := by rw [HG.out]; exact hbl
      have x3 := BX3.out.below hbl1; have y3 := BY3.out.below hbl1
      by_cases hlt : j < n
      · have hc := owns_cell ho j hlt
        have hfz := ho.frozenAt j
        obtain ⟨p1, o1, rfl, t1⟩ := (R1.out.below hbl1).cellAt j hlt
        obtain ⟨p2, o2, rfl, t2⟩ := (S1.out.below hbl1).cellAt j hlt
        have e1 := HrB.out.get j (by rw [Hrl.out]; exact hlt)
        have e2 := HbB.out.get j (by rw [Hbl.out]; exact hlt)
        have hLj := HL.out.2 j hlt
        have hxor := xor_u8i (rs.getD j 0) (bs.getD j 0) e1 e2
        generalize hzr : rs.getD j 0 = zr at *
        generalize hzb : bs.getD j 0 = zb at *
        have HLj := Lib.hid hLj; have HBL := Lib.hid hbl
        have T1 := Lib.hid t1; have T2 := Lib.hid t2
        have Hzr := Lib.hid hzr; have Hzb := Lib.hid hzb
        have X3 := Lib.hid x3; have Y3 := Lib.hid y3
        generalize hxv : ((zr.toNat ^^^ zb.toNat : Nat) : Int) = xv at hxor
        have Hxv := Lib.hid hxv
        clear hxv
        clear hLj hbl hbl1 hzr hzb
        have c0 := x3.box.c0; have c1 := x3.box.c1; have c2 := x3.box.c2; have c3 := x3.box.c3; have c4 := x3.c4
        have d0 := y3.box.c0; have d1 := y3.box.c1; have d2 := y3.box.c2; have d3 := y3.box.c3; have d4 := y3.c4
        clear x3 y3
        go_wp2_with fail
        have q1 : (j : Int) < n := by omega
        refine wp_region_still_tail 14 (by kernel_rfl) (by kernel_rfl) ?_
        simp only [List.take_succ_cons, List.take_zero, List.drop_succ_cons, List.drop_zero]
        repeat still_step
        refine wpStill_nil ?_
        change wpList _ _ _ _ _ wr.drew
        go_upto_region 12 with fail
        clear c0 c1 c2 c3 c4 d0 d1 d2 d3 d4
        have ho2 := World.ownsRow.drew (owns_set ho j xv)
        have hB2 : Below g w1 (wr.setCell ⟨g, j, Option.none⟩ (.int .u8 xv)).drew := (HBL.out.setCell (p := ⟨g, j, Option.none⟩) (Nat.le_refl _) _).drew
        generalize (wr.setCell ⟨g, j, Option.none⟩ (.int .u8 xv)).drew = wq at *
        clear t1 t2 hc hfz ho hxor
        have hB3 : Below w1.heap.size w1 wq := by rw [HG.out]; exact hB2
        obtain ⟨p1', o1', ee, t1⟩ := (R1.out.below hB3).cellAt j hlt
        obtain ⟨rfl, rfl⟩ : p1 = p1' ∧ o1 = o1' := by simpa using ee
        clear ee
        obtain ⟨p2', o2', ee, t2⟩ := (S1.out.below hB3).cellAt j hlt
        obtain ⟨rfl, rfl⟩ : p2 = p2' ∧ o2 = o2' := by simpa using ee
        rw [Hzr.out] at t1
        rw [Hzb.out] at t2
        have hc := owns_cell ho2 j hlt
        have hfz := ho2.frozenAt j
        have x3 := BX3.out.below hB3; have y3 := BY3.out.below hB3
        have HB2 := Lib.hid hB2
        clear hB2 hB3 ee
        have c0 := x3.box.c0; have c1 := x3.box.c1; have c2 := x3.box.c2; have c3 := x3.box.c3; have c4 := x3.c4
        have d0 := y3.box.c0; have d1 := y3.box.c1; have d2 := y3.box.c2; have d3 := y3.box.c3; have d4 := y3.c4
        clear x3 y3
        generalize (zs.set j xv).getD j 0 = old at hc
        refine wp_region_still_tail 14 (by kernel_rfl) (by kernel_rfl) ?_
        simp only [List.take_succ_cons, List.take_zero, List.drop_succ_cons, List.drop_zero]
        repeat still_step
        refine wpStill_nil ?_
        change wpList _ _ _ _ _ wq.drew
        go_wp2_with fail
        go_roundw
        case rel =>
          obtain ⟨hyl, hyj⟩ := Hy.out
          have hv1 : L.getD j 0 = (zr - zb) % 256 := by rw [HLj.out]; simp [dl]
          refine ⟨j + 1, zs.set j (L.getD j 0), by omega, by go_num, ?_, (HB2.out.setCell (p := ⟨g, j, Option.none⟩) (Nat.le_refl _) _).drew, by simpa using hyl, fun q hq => ?_⟩
          · rw [hv1]
            have h3 := World.ownsRow.drew (owns_set ho2 j ((zr - zb) % 256))
            rw [List.set_set] at h3
            exact h3
          · rw [getD_set, hyj q hq]
            by_cases e : q = j
            · rw [if_pos ⟨e.symm, by omega⟩, if_pos (by omega), e]
            · rw [if_neg (fun h => e h.1.symm)]
              by_cases h2 : q < j
              · rw [if_pos h2, if_pos (by omega)]
              · rw [if_neg h2, if_neg (by omega)]
        case measure => simp [intOf]; omega
      · obtain rfl : j = n := by omega
        go_wp2_with fail
        go_returns
        obtain ⟨hyl, hyj⟩ := Hy.out
        have e : zs = L := ext_getD (by rw [hyl, HL.out.1]) fun q hq => by rw [hyj q (by omega), if_pos (by omega)]
        subst e
        unfold RetBy
        rw [HL.out.1]
        exact ⟨some ⟨g, 0, Option.none⟩, j, rfl, owns_base ho (by have := B1.out.size; rw [HG.out] at this; exact this), below_size B1.out hbl1⟩
end Go.Proofs.Ytljkkhjgcgiccaa
