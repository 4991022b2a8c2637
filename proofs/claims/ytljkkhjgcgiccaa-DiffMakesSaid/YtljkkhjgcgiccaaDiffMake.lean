/-
  diff.Make.
-/
import Derived.Test.YtljkkhjgcgiccaaDiff
namespace Go.Proofs.Ytljkkhjgcgiccaa
open Go.RowKit

/-- New bytes and an error's number. -/
def RetBy (w : World) (ys : List Int) (E : Int) (e : Ending) (w' : World) : Prop :=
  ∃ (a : Option Addr) (k : Nat), e = .returned (.tuple #[.slice a ys.length k, .int .i64 E]) ∧ w'.ownsRow w.heap.size 5 1 (.slice a ys.length k) ys.length (ys.map (Value.int .u8)) ∧ Below w.heap.size w w'

/-- One byte of a delta: r's by base's. -/
def dl (kind x y : Int) : Int := if kind = 1 then ((x.toNat ^^^ y.toNat : Nat) : Int) else (x - y) % 256
def mkL (kind : Int) (bs rs : List Int) : List Int := (List.range rs.length).map fun i => dl kind (rs.getD i 0) (bs.getD i 0)
theorem mkL_len (kind : Int) (bs rs : List Int) : (mkL kind bs rs).length = rs.length := by simp [mkL]
theorem mkL_getD (kind : Int) (bs rs : List Int) (i : Nat) (h : i < rs.length) : (mkL kind bs rs).getD i 0 = dl kind (rs.getD i 0) (bs.getD i 0) := by rw [mkL, getD_map_range, if_pos h]
theorem dl_bd (kind x y : Int) (hx : 0 ≤ x ∧ x < 256) (hy : 0 ≤ y ∧ y < 256) : 0 ≤ dl kind x y ∧ dl kind x y < 256 := by
  unfold dl
  split
  · have : x.toNat ^^^ y.toNat < 2 ^ 8 := Nat.xor_lt_two_pow (by omega) (by omega)
    omega
  · omega
theorem mkL_isB (kind : Int) (bs rs : List Int) (hb : isB bs) (hr : isB rs) (hl : bs.length = rs.length) : isB (mkL kind bs rs) := by
  intro x hx
  simp only [mkL, List.mem_map, List.mem_range] at hx
  obtain ⟨i, hi, rfl⟩ := hx
  exact dl_bd _ _ _ (hr.get i hi) (hb.get i (by omega))

set_option maxHeartbeats 1000000 in
theorem make_kind (kind W H C D : Int) (a : Option Addr) (n cap : Nat) (W' H' C' D' : Int) (b : Option Addr) (m k : Nat) (w : World) (hk : kind ≠ 1 ∧ kind ≠ 2) :
    Calls Try.prog 8 #[.int .i64 kind, ras W H C D a n cap, ras W' H' C' D' b m k] w (RetBy w [] 1) := by
  have h1 : (kind != 1) = true := by simpa using hk.1
  have h2 : (kind != 2) = true := by simpa using hk.2
  clear hk
  go_enter Try.func8, Try.ntmps8
  go_wp2_with fail
  go_returns
  exact ⟨Option.none, 0, rfl, World.ownsRow_nil _ _ _ _, ((Below.refl _ _).alloc (Nat.le_refl _) _).alloc (by simp) _⟩

set_option maxHeartbeats 1000000 in
theorem make_not (kind W H C D : Int) (a : Option Addr) (n cap : Nat) (W' H' C' D' : Int) (b : Option Addr) (m k : Nat) (w : World) (hk : kind = 1 ∨ kind = 2) (hH : -9223372036854775808 ≤ H ∧ H ≤ 9223372036854775807) (hH' : -9223372036854775808 ≤ H' ∧ H' ≤ 9223372036854775807) (he : alikeE W H C D n W' H' C' D' m ≠ 0) :
    Calls Try.prog 8 #[.int .i64 kind, ras W H C D a n cap, ras W' H' C' D' b m k] w (RetBy w [] (alikeE W H C D n W' H' C' D' m)) := by
  obtain ⟨v, hv, hb, bx, by_⟩ := two_boxes w W H C D a n cap W' H' C' D' b m k
  have HA := Lib.hid (fun w' => alike_any W H C D a n cap W' H' C' D' b m k w' hH hH')
  have he' : (alikeE W H C D n W' H' C' D' m != 0) = true := by simpa using he
  generalize alikeE W H C D n W' H' C' D' m = E at *
  have HB := Lib.hid hb
  clear hb bx by_ he
  rcases hk with rfl | rfl
  all_goals
    go_enter Try.func8, Try.ntmps8
    go_wp2_with fail
    rw [← hv]
    clear hv
    refine (HA.out _).mono ?_; rintro e w1 ⟨rfl, b1⟩
    have B1 := below_size HB.out b1
    clear b1
    go_wp2_with fail
    go_returns
    exact ⟨Option.none, 0, rfl, World.ownsRow_nil _ _ _ _, B1⟩

set_option maxRecDepth 100000 in
set_option maxHeartbeats 2000000 in
theorem make_ok (kind W H C D : Int) (a : Option Addr) (n cap : Nat) (b : Option Addr) (k : Nat) (bs rs : List Int) (w : World) (hk : kind = 1 ∨ kind = 2) (hb : Reads .u8 w a n cap bs) (hbB : isB bs) (hr : Reads .u8 w b n k rs) (hrB : isB rs) (hm : mayR W H C D n = true) :
    Calls Try.prog 8 #[.int .i64 kind, ras W H C D a n cap, ras W H C D b n k] w (RetBy w (mkL kind bs rs) 0) := by
  have hbn := (mayR_spec hm).1
  have hsz := (mayR_spec hm).2
  have hsz1 := size_bd W H C D hbn
  have hn : n ≤ 16384 := by omega
  have hn1 : 1 ≤ n := by omega
  have hH : -9223372036854775808 ≤ H ∧ H ≤ 9223372036854775807 := by have h1 := hbn.2.2.1; have h2 := hbn.2.2.2.1; omega
  obtain ⟨v, hv, hbl, bx, by_⟩ := two_boxes w W H C D a n cap W H C D b n k
  have ha0 : alikeE W H C D n W H C D n = 0 := by unfold alikeE; rw [if_pos ⟨hm, hm⟩, if_pos ⟨rfl, rfl, rfl, rfl⟩]
  have hA := fun w' => alike_any W H C D a n cap W H C D b n k w' hH hH
  rw [ha0] at hA
  have HA := Lib.hid hA
  have R := Lib.hid (hr.below hbl); have S := Lib.hid (hb.below hbl)
  have HB := Lib.hid hbl; have BX := Lib.hid bx; have BY := Lib.hid by_
  have Hrl := Lib.hid hr.len; have Hbl := Lib.hid hb.len
  have HrB := Lib.hid hrB; have HbB := Lib.hid hbB
  obtain ⟨i0, hi, hz0, hz1, hz2⟩ := info_parts infoC
  have Hi := Lib.hid hi; have Hz0 := Lib.hid hz0; have Hz1 := Lib.hid hz1; have Hz2 := Lib.hid hz2
  clear hbl bx by_ ha0 hA hr hb hrB hbB hm hbn hsz hsz1 hi hz0 hz1 hz2
  obtain ⟨L, hL⟩ : ∃ L, L = mkL kind bs rs := ⟨_, rfl⟩
  have hL1 : L.length = n := by rw [hL, mkL_len, Hrl.out]
  have hL2 : ∀ q, q < n → L.getD q 0 = dl kind (rs.getD q 0) (bs.getD q 0) := fun q hq => by rw [hL, mkL_getD _ _ _ _ (by rw [Hrl.out]; exact hq)]
  have HL := Lib.hid (And.intro hL1 hL2)
  rw [← hL]
  clear hL hL1 hL2
  rcases hk with rfl | rfl
  all_goals
    go_enter Try.func8, Try.ntmps8
    go_wp2_with fail
    rw [← hv]
    clear hv
    refine (HA.out _).mono ?_; rintro e w1 ⟨rfl, b1⟩
    have B1 := Lib.hid (below_size HB.out b1)
    have y1 := BY.out.below b1
    have x1 := BX.out.below b1
    have R1 := Lib.hid (R.out.below b1); have S1 := Lib.hid (S.out.below b1)
    have BX3 := Lib.hid x1
    have d0 := y1.box.c0; have d1 := y1.box.c1; have d2 := y1.box.c2; have d3 := y1.box.c3; have d4 := y1.c4
    clear b1
    go_wp2_with (at_make; refine wpList_make_full _ rfl _ _ 24 rfl w1.heap.size 5 i0 (.int .u8 0) 1 Try.underlying24 Hi.out Hz0.out Hz1.out _ _ _ _ n rfl rfl (by first | rfl | omega) (by first | rfl | omega) (by rw [Hz2.out]; omega) (by unfold maxLen; omega) (Nat.le_refl _) ?_)
    intro w2 hown hgrow
    rw [toList_made n .u8] at hown
    have hb0 : Below w1.heap.size w1 w2 := (Below.refl _ _).grown hgrow (Nat.le_refl _) (fun k h => nomatch h)
    clear hgrow
    clear d0 d1 d2 d3 d4
    have y2 := y1.below hb0; have x2 := x1.below hb0
    have d0 := y2.box.c0; have d1 := y2.box.c1; have d2 := y2.box.c2; have d3 := y2.box.c3; have d4 := y2.c4
    clear y1 x1 y2
    generalize hg : w1.heap.size = g at *
    have HG := Lib.hid hg; clear hg
    generalize hxs : List.replicate n (0 : Int) = xs at hown
    have Hxs := Lib.hid hxs; clear hxs
    go_wp2_with fail
    clear d0 d1 d2 d3 d4
    go_loopw [31] (fun i wr => ∃ (j : Nat) (zs : List Int), j ≤ n ∧ i = .int .i64 j ∧ wr.ownsRow g 5 1 (.slice (some ⟨g, 0, Option.none⟩) n n) n (zs.map (Value.int .u8)) ∧ Below g w1 wr ∧
        Hid (zs.length = n ∧ ∀ q, q < n → zs.getD q 0 = if q < j then L.getD q 0 else 0)) (fun i _ => n - (intOf i).toNat)
    case atStart =>
      refine ⟨0, xs, Nat.zero_le _, rfl, hown, hb0, ?_⟩
      rw [← Hxs.out]
      exact ⟨by simp, fun q hq => by simp [List.getD, hq]⟩
    case round =>
      obtain ⟨j, zs, hj, rfl, ho, hbl, Hy⟩ := hrel
      have Hb0 := Lib.hid hb0; have Hx2 := Lib.hid x2
      clear hown Hxs hb0 x2
      have hbl1 : Below w1.heap.size w1 wr := by rw [HG.out]; exact hbl
      have x3 := BX3.out.below hbl1
      by_cases hlt : j < n
      · have hc := owns_cell ho j hlt
        have hfz := ho.frozenAt j
        obtain ⟨p1, o1, rfl, t1⟩ := (R1.out.below hbl1).cellAt j hlt
        obtain ⟨p2, o2, rfl, t2⟩ := (S1.out.below hbl1).cellAt j hlt
        have e1 := HrB.out.get j (by rw [Hrl.out]; exact hlt)
        have e2 := HbB.out.get j (by rw [Hbl.out]; exact hlt)
        have hLj := HL.out.2 j hlt
        have hxor := xor_u8i (rs.getD j 0) (bs.getD j 0) e1 e2
        generalize rs.getD j 0 = zr at *
        generalize bs.getD j 0 = zb at *
        have HLj := Lib.hid hLj; have HBL := Lib.hid hbl
        clear hLj hbl hbl1
        have c0 := x3.box.c0; have c1 := x3.box.c1; have c2 := x3.box.c2; have c3 := x3.box.c3; have c4 := x3.c4
        go_wp2_with fail
        go_roundw
        case rel =>
          obtain ⟨hyl, hyj⟩ := Hy.out
          refine ⟨j + 1, zs.set j (L.getD j 0), by omega, by go_num, ?_, HBL.out.setCell (p := ⟨g, j, Option.none⟩) (Nat.le_refl _) _, by simpa using hyl, fun q hq => ?_⟩
          · rw [HLj.out]
            first
              | (rw [show dl 1 zr zb = ((zr.toNat ^^^ zb.toNat : Nat) : Int) by simp [dl]]; exact owns_set ho _ _)
              | (rw [show dl 2 zr zb = (zr - zb) % 256 by simp [dl]]; exact owns_set ho _ _)
          · rw [getD_set, hyj q hq]
            by_cases e : q = j
            · rw [if_pos ⟨e.symm, by omega⟩, if_pos (by omega), e]
            · rw [if_neg (fun h => e h.1.symm)]
              by_cases h2 : q < j
              · rw [if_pos h2, if_pos (by omega)]
              · rw [if_neg h2, if_neg (by omega)]
        case measure => simp [intOf]; omega
      · obtain rfl : j = n := by omega
        go_wp2_with fail
        go_returns
        obtain ⟨hyl, hyj⟩ := Hy.out
        have e : zs = L := ext_getD (by rw [hyl, HL.out.1]) fun q hq => by rw [hyj q (by omega), if_pos (by omega)]
        subst e
        unfold RetBy
        rw [HL.out.1]
        exact ⟨some ⟨g, 0, Option.none⟩, j, rfl, owns_base ho (by have := B1.out.size; rw [HG.out] at this; exact this), below_size B1.out hbl1⟩
end Go.Proofs.Ytljkkhjgcgiccaa
