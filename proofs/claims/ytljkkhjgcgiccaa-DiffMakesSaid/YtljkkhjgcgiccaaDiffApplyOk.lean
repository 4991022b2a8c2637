/-
  diff.Apply, where it answers a picture.
-/
import Derived.Test.YtljkkhjgcgiccaaDiffApply
namespace Go.Proofs.Ytljkkhjgcgiccaa
open Go.RowKit

set_option maxRecDepth 100000 in
set_option maxHeartbeats 2000000 in
theorem apply_ok (kind W H C D : Int) (a : Option Addr) (n cap : Nat) (b : Option Addr) (k : Nat) (bs ds : List Int) (w : World) (hk : kind = 1 ∨ kind = 2) (hb : Reads .u8 w a n cap bs) (hbB : isB bs) (hr : Reads .u8 w b n k ds) (hrB : isB ds) (hm : mayR W H C D n = true) :
    Calls Try.prog 10 #[.int .i64 kind, ras W H C D a n cap, .slice b n k] w (RetRas w W H C D (apL kind bs ds) 0) := by
  have hbn := (mayR_spec hm).1
  have hsz := (mayR_spec hm).2
  have hsz1 := size_bd W H C D hbn
  have hn : n ≤ 16384 := by omega
  have hn1 : 1 ≤ n := by omega
  have hH : -9223372036854775808 ≤ H ∧ H ≤ 9223372036854775807 := by have h1 := hbn.2.2.1; have h2 := hbn.2.2.2.1; omega
  have hP := fun w' => size_any W H C D w' hH
  rw [← hsz.2] at hP
  have hA := fun w' => may_any W H C D a n cap w' hH
  rw [hm] at hA
  have HP := Lib.hid hP
  have HA := Lib.hid hA
  have hb1 : Below w.heap.size w ((w.alloc (.cells #[.int .i64 W, .int .i64 H, .int .i64 C, .int .i64 D, .slice a n cap] 26)).alloc (.cells #[.int .i64 0, .int .i64 0, .int .i64 0, .int .i64 0, .slice Option.none 0 0] 26)) := ((Below.refl _ _).alloc (Nat.le_refl _) _).alloc (by simp) _
  have bx0 := (rbox_alloc w W H C D a n cap 26).below ((Below.refl _ _).alloc (Nat.le_refl _) (.cells #[.int .i64 0, .int .i64 0, .int .i64 0, .int .i64 0, .slice Option.none 0 0] 26))
  have by0 := rbox_alloc (w.alloc (.cells #[.int .i64 W, .int .i64 H, .int .i64 C, .int .i64 D, .slice a n cap] 26)) 0 0 0 0 Option.none 0 0 26
  rw [World.size_alloc] at by0
  have B := Lib.hid hb1; have BX := Lib.hid bx0; have BY := Lib.hid by0
  have Hv := Lib.hid (show w.heap.size + 2 ≤ ((w.alloc (.cells #[.int .i64 W, .int .i64 H, .int .i64 C, .int .i64 D, .slice a n cap] 26)).alloc (.cells #[.int .i64 0, .int .i64 0, .int .i64 0, .int .i64 0, .slice Option.none 0 0] 26)).heap.size by simp)
  have R := Lib.hid (hr.below hb1); have S := Lib.hid (hb.below hb1)
  have Hrl := Lib.hid hr.len; have Hbl := Lib.hid hb.len
  have HrB := Lib.hid hrB; have HbB := Lib.hid hbB
  obtain ⟨i0, hi, hz0, hz1, hz2⟩ := info_parts infoC
  have Hi := Lib.hid hi; have Hz0 := Lib.hid hz0; have Hz1 := Lib.hid hz1; have Hz2 := Lib.hid hz2
  clear hb1 bx0 by0 hA hP hr hb hrB hbB hm hbn hsz hsz1 hi hz0 hz1 hz2
  obtain ⟨L, hL⟩ : ∃ L, L = apL kind bs ds := ⟨_, rfl⟩
  have hL1 : L.length = n := by rw [hL, apL_len, Hrl.out]
  have hL2 : ∀ q, q < n → L.getD q 0 = ap kind (bs.getD q 0) (ds.getD q 0) := fun q hq => by rw [hL, apL_getD _ _ _ _ (by rw [Hrl.out]; exact hq)]
  have HL := Lib.hid (And.intro hL1 hL2)
  rw [← hL]
  clear hL hL1 hL2
  rcases hk with rfl | rfl
  all_goals
    go_enter Try.func10, Try.ntmps10
    go_wp2_with fail
    generalize ((w.alloc (.cells #[.int .i64 W, .int .i64 H, .int .i64 C, .int .i64 D, .slice a n cap] 26)).alloc (.cells #[.int .i64 0, .int .i64 0, .int .i64 0, .int .i64 0, .slice Option.none 0 0] 26)) = v0 at *
    refine (HP.out _).mono ?_; rintro e w1 ⟨rfl, bb⟩
    replace B := Lib.hid (below_size B.out bb)
    replace BX := Lib.hid (BX.out.below bb)
    replace BY := Lib.hid (BY.out.below bb)
    replace R := Lib.hid (R.out.below bb)
    replace S := Lib.hid (S.out.below bb)
    clear bb
    have c0 := BX.out.box.c0; have c1 := BX.out.box.c1; have c2 := BX.out.box.c2; have c3 := BX.out.box.c3; have c4 := BX.out.c4
    go_wp2_with fail
    clear c0 c1 c2 c3 c4
    refine (HA.out _).mono ?_; rintro e w2 ⟨rfl, bb⟩
    replace B := Lib.hid (below_size B.out bb)
    replace BX := Lib.hid (BX.out.below bb)
    replace BY := Lib.hid (BY.out.below bb)
    replace R := Lib.hid (R.out.below bb)
    replace S := Lib.hid (S.out.below bb)
    have hsz2 : w.heap.size + 2 ≤ w2.heap.size := by have := BY.out.lt; omega
    have Hsz2 := Lib.hid hsz2
    clear bb hsz2
    go_wp2_with (at_make; refine wpList_make_full _ rfl _ _ 24 rfl w2.heap.size 5 i0 (.int .u8 0) 1 Try.underlying24 Hi.out Hz0.out Hz1.out _ _ _ _ n rfl rfl (by first | rfl | omega) (by first | rfl | omega) (by rw [Hz2.out]; omega) (by unfold maxLen; omega) (Nat.le_refl _) ?_)
    intro w3 hown hgrow
    rw [toList_made n .u8] at hown
    have hb0 : Below w2.heap.size w2 w3 := (Below.refl _ _).grown hgrow (Nat.le_refl _) (fun k h => nomatch h)
    clear hgrow
    generalize hg : w2.heap.size = g at *
    have HG := Lib.hid hg; clear hg
    generalize hxs : List.replicate n (0 : Int) = xs at hown
    have Hxs := Lib.hid hxs; clear hxs
    go_wp2_with fail
    go_loopw [44] (fun i wr => ∃ (j : Nat) (zs : List Int), j ≤ n ∧ i = .int .i64 j ∧ wr.ownsRow g 5 1 (.slice (some ⟨g, 0, Option.none⟩) n n) n (zs.map (Value.int .u8)) ∧ Below g w2 wr ∧
        Hid (zs.length = n ∧ ∀ q, q < n → zs.getD q 0 = if q < j then L.getD q 0 else 0)) (fun i _ => n - (intOf i).toNat)
    case atStart =>
      refine ⟨0, xs, Nat.zero_le _, rfl, hown, hb0, ?_⟩
      rw [← Hxs.out]
      exact ⟨by simp, fun q hq => by simp [List.getD, hq]⟩
    case round =>
      obtain ⟨j, zs, hj, rfl, ho, hbl, Hy⟩ := hrel
      clear hown Hxs hb0
      have hbl1 : Below w2.heap.size w2 wr := by rw [HG.out]; exact hbl
      have x3 := BX.out.below hbl1; have y3 := BY.out.below hbl1
      by_cases hlt : j < n
      · have hc := owns_cell ho j hlt
        have hfz := ho.frozenAt j
        obtain ⟨p1, o1, rfl, t1⟩ := (R.out.below hbl1).cellAt j hlt
        obtain ⟨p2, o2, rfl, t2⟩ := (S.out.below hbl1).cellAt j hlt
        have e1 := HrB.out.get j (by rw [Hrl.out]; exact hlt)
        have e2 := HbB.out.get j (by rw [Hbl.out]; exact hlt)
        have hLj := HL.out.2 j hlt
        have hxor := xor_u8i (bs.getD j 0) (ds.getD j 0) e2 e1
        generalize ds.getD j 0 = zr at *
        generalize bs.getD j 0 = zb at *
        have HLj := Lib.hid hLj; have HBL := Lib.hid hbl
        clear hLj hbl hbl1 y3
        have c0 := x3.box.c0; have c1 := x3.box.c1; have c2 := x3.box.c2; have c3 := x3.box.c3; have c4 := x3.c4
        clear x3
        go_wp2_with fail
        go_roundw
        case rel =>
          obtain ⟨hyl, hyj⟩ := Hy.out
          refine ⟨j + 1, zs.set j (L.getD j 0), by omega, by go_num, ?_, HBL.out.setCell (p := ⟨g, j, Option.none⟩) (Nat.le_refl _) _, by simpa using hyl, fun q hq => ?_⟩
          · rw [HLj.out]
            first
              | (rw [show ap 1 zb zr = ((zb.toNat ^^^ zr.toNat : Nat) : Int) by simp [ap]]; exact owns_set ho _ _)
              | (rw [show ap 2 zb zr = (zb + zr) % 256 by simp [ap]]; exact owns_set ho _ _)
          · rw [getD_set, hyj q hq]
            by_cases e : q = j
            · rw [if_pos ⟨e.symm, by omega⟩, if_pos (by omega), e]
            · rw [if_neg (fun h => e h.1.symm)]
              by_cases h2 : q < j
              · rw [if_pos h2, if_pos (by omega)]
              · rw [if_neg h2, if_neg (by omega)]
        case measure => simp [intOf]; omega
      · obtain rfl : j = n := by omega
        have c0 := x3.box.c0; have c1 := x3.box.c1; have c2 := x3.box.c2; have c3 := x3.box.c3; have c4 := x3.c4
        have d0 := y3.box.c0; have d1 := y3.box.c1; have d2 := y3.box.c2; have d3 := y3.box.c3; have d4 := y3.c4; have f0 := y3.box.f0; have f1 := y3.box.f1; have f2 := y3.box.f2; have f3 := y3.box.f3; have f4 := y3.f4
        have Y3 := Lib.hid y3
        clear x3 y3
        have HO := Lib.hid ho
        have HB1 := Lib.hid hbl1
        clear ho hbl hbl1
        go_wp2_with fail
        obtain ⟨hyl, hyj⟩ := Hy.out
        have e : zs = L := ext_getD (by rw [hyl, HL.out.1]) fun q hq => by rw [hyj q (by omega), if_pos (by omega)]
        subst e
        have hgs := HG.out
        have hsz2 := Hsz2.out
        have o4 := owns_under (owns_under (owns_under (owns_under (owns_under HO.out (w.heap.size + 1) 0 (.int .i64 W) (by omega)) (w.heap.size + 1) 1 (.int .i64 H) (by omega)) (w.heap.size + 1) 2 (.int .i64 C) (by omega)) (w.heap.size + 1) 3 (.int .i64 D) (by omega)) (w.heap.size + 1) 4 (.slice (some ⟨g, 0, Option.none⟩) j j) (by omega)
        refine bodyPost_ret (results_ras rfl _ _ _ rfl (Y3.out.set W H C D (some ⟨g, 0, Option.none⟩) j j)) rfl ?_
        unfold RetRas
        rw [HL.out.1]
        exact ⟨some ⟨g, 0, Option.none⟩, j, rfl, owns_base o4 (by omega), (((((below_size B.out HB1.out).setCell (by simp) _).setCell (by simp) _).setCell (by simp) _).setCell (by simp) _).setCell (by simp) _⟩
end Go.Proofs.Ytljkkhjgcgiccaa
