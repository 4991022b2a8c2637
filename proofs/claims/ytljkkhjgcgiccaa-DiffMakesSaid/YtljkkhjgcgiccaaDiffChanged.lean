/-
  Changed of chapter 11, both ways.
-/
import Derived.Test.YtljkkhjgcgiccaaDiffAny
namespace Go.Proofs.Ytljkkhjgcgiccaa
open Go.RowKit

theorem reads_upto {w : World} {a : Option Addr} {n cap : Nat} {xs : List Int} (h : Reads .u8 w a n cap xs) (k : Nat) (hk : k ≤ n) : Reads .u8 w a k cap (xs.take k) := by
  have hl := h.len; have hle := h.le
  refine ⟨by simp; omega, by omega, h.max, fun e => by have := h.nil e; omega, fun hk0 => ?_⟩
  obtain ⟨b, off, e, hlt, hc⟩ := h.cells (by omega)
  refine ⟨b, off, e, hlt, fun i hi => ?_⟩
  rw [hc i (by omega)]
  simp [List.getD, hi]
/-- How many of the first pixels differ. -/
def cnt (p : Nat) (bs rs : List Int) : Nat → Nat
  | 0 => 0
  | i + 1 => cnt p bs rs i + (if (bs.drop (i * p)).take p = (rs.drop (i * p)).take p then 0 else 1)
theorem cnt_le (p : Nat) (bs rs : List Int) (i : Nat) : cnt p bs rs i ≤ i := by
  induction i with
  | zero => exact Nat.le_refl _
  | succ i ih => unfold cnt; split <;> omega
def chN (W H C D : Int) (n : Nat) (W' H' C' D' : Int) (m : Nat) (bs rs : List Int) : Int := if alikeE W H C D n W' H' C' D' m = 0 then (cnt (C * D / 8).toNat bs rs (W * H).toNat : Nat) else 0
theorem size_pix {W H C D : Int} (hb : Bnds W H C D) : sizeN W H C D = (W * H) * (C * D / 8) ∧ 1 ≤ C * D / 8 ∧ C * D / 8 ≤ 8 ∧ 8 ≤ C * D ∧ C * D ≤ 64 := by
  have hb' := hb
  obtain ⟨h1, h2, h3, h4, h5, h6, h7⟩ := hb
  unfold sizeN rowN
  rw [if_pos hb']
  rcases h7 with rfl | rfl
  · have e1 : W * C * 8 / 8 = W * C := by omega
    have e2 : C * 8 / 8 = C := by omega
    refine ⟨?_, by omega, by omega, by omega, by omega⟩
    rw [e1, e2, Int.mul_right_comm]
  · have e1 : W * C * 16 / 8 = W * C * 2 := by omega
    have e2 : C * 16 / 8 = C * 2 := by omega
    refine ⟨?_, by omega, by omega, by omega, by omega⟩
    rw [e1, e2, Int.mul_right_comm (W * C) 2 H, Int.mul_right_comm W C H, Int.mul_assoc (W * H) C 2]

set_option maxRecDepth 100000 in
set_option maxHeartbeats 1000000 in
theorem changed_not (W H C D : Int) (a : Option Addr) (n cap : Nat) (W' H' C' D' : Int) (b : Option Addr) (m k : Nat) (w : World) (hH : -9223372036854775808 ≤ H ∧ H ≤ 9223372036854775807) (hH' : -9223372036854775808 ≤ H' ∧ H' ≤ 9223372036854775807) (he : alikeE W H C D n W' H' C' D' m ≠ 0) :
    Calls Try.prog 12 #[ras W H C D a n cap, ras W' H' C' D' b m k] w fun e w' => e = .returned (.tuple #[.int .i64 0, .int .i64 (alikeE W H C D n W' H' C' D' m)]) ∧ Below w.heap.size w w' := by
  obtain ⟨v, hv, hb, bx, by_⟩ := two_boxes w W H C D a n cap W' H' C' D' b m k
  have HA := Lib.hid (fun w' => alike_any W H C D a n cap W' H' C' D' b m k w' hH hH')
  have he' : (alikeE W H C D n W' H' C' D' m != 0) = true := by simpa using he
  generalize alikeE W H C D n W' H' C' D' m = E at *
  have HB := Lib.hid hb
  clear hb bx by_ he
  go_enter Try.func12, Try.ntmps12
  go_wp2_with fail
  rw [← hv]
  clear hv
  refine (HA.out _).mono ?_; rintro e w1 ⟨rfl, b1⟩
  have B1 := below_size HB.out b1
  clear b1
  go_wp2_with fail
  go_returns
  exact ⟨rfl, B1⟩

set_option maxRecDepth 100000 in
set_option maxHeartbeats 1000000 in
theorem rchanged_not (W H C D : Int) (a : Option Addr) (n cap : Nat) (W' H' C' D' : Int) (b : Option Addr) (m k : Nat) (w : World) (hH : -9223372036854775808 ≤ H ∧ H ≤ 9223372036854775807) (hH' : -9223372036854775808 ≤ H' ∧ H' ≤ 9223372036854775807) (he : alikeE W H C D n W' H' C' D' m ≠ 0) :
    Calls Try.prog 13 #[ras W H C D a n cap, ras W' H' C' D' b m k] w fun e w' => e = .returned (.tuple #[.int .i64 0, .int .i64 (alikeE W H C D n W' H' C' D' m)]) ∧ Below w.heap.size w w' := by
  obtain ⟨v, hv, hb, bx, by_⟩ := two_boxes w W H C D a n cap W' H' C' D' b m k
  have HA := Lib.hid (fun w' => rpair_any W H C D a n cap W' H' C' D' b m k w' hH hH')
  have he' : (alikeE W H C D n W' H' C' D' m != 0) = true := by simpa using he
  generalize alikeE W H C D n W' H' C' D' m = E at *
  have HB := Lib.hid hb
  clear hb bx by_ he
  go_enter Try.func13, Try.ntmps13
  go_wp2_with fail
  rw [← hv]
  clear hv
  refine (HA.out _).mono ?_; rintro e w1 ⟨rfl, b1⟩
  have B1 := below_size HB.out b1
  clear b1
  go_wp2_with fail
  go_returns
  exact ⟨rfl, B1⟩

set_option maxRecDepth 100000 in
set_option maxHeartbeats 1000000 in
theorem changed_ok (W H C D : Int) (a : Option Addr) (n cap : Nat) (b : Option Addr) (k : Nat) (bs rs : List Int) (w : World) (hb : Reads .u8 w a n cap bs) (hbB : isB bs) (hr : Reads .u8 w b n k rs) (hrB : isB rs) (hm : mayR W H C D n = true) :
    Calls Try.prog 12 #[ras W H C D a n cap, ras W H C D b n k] w fun e w' => e = .returned (.tuple #[.int .i64 (cnt (C * D / 8).toNat bs rs (W * H).toNat : Nat), .int .i64 0]) ∧ Below w.heap.size w w' := by
  have hbn := (mayR_spec hm).1
  have hsz := (mayR_spec hm).2
  have hsp := size_pix hbn
  have hn : n ≤ 16384 := by omega
  have hH : -9223372036854775808 ≤ H ∧ H ≤ 9223372036854775807 := by have h1 := hbn.2.2.1; have h2 := hbn.2.2.2.1; omega
  have hn1 : 1 ≤ n := by have := size_bd W H C D hbn; omega
  obtain ⟨p1, o1, rfl, _⟩ := hr.cellAt 0 hn1
  obtain ⟨p2, o2, rfl, _⟩ := hb.cellAt 0 hn1
  have hkn := hr.le
  have hcn := hb.le
  obtain ⟨N, hN⟩ : ∃ N : Nat, W * H = N := ⟨(W * H).toNat, by have := Int.mul_nonneg (show (0:Int) ≤ W by have := hbn.1; omega) (show (0:Int) ≤ H by have := hbn.2.2.1; omega); omega⟩
  obtain ⟨p, hp⟩ : ∃ p : Nat, C * D / 8 = p := ⟨(C * D / 8).toNat, by omega⟩
  obtain ⟨v, hv, hbl, bx, by_⟩ := two_boxes w W H C D (some ⟨p2, o2, Option.none⟩) n cap W H C D (some ⟨p1, o1, Option.none⟩) n k
  have ha0 : alikeE W H C D n W H C D n = 0 := by unfold alikeE; rw [if_pos ⟨hm, hm⟩, if_pos ⟨rfl, rfl, rfl, rfl⟩]
  have hA := fun w' => alike_any W H C D (some ⟨p2, o2, Option.none⟩) n cap W H C D (some ⟨p1, o1, Option.none⟩) n k w' hH hH
  rw [ha0] at hA
  rw [hN, hp]
  rw [hN, hp] at hsp
  have hnp : n = N * p := by have := hsz.2; rw [hsp.1] at this; exact_mod_cast this
  simp only [Int.toNat_natCast]
  have HA := Lib.hid hA
  have R := Lib.hid (hr.below hbl); have S := Lib.hid (hb.below hbl)
  have HB := Lib.hid hbl; have BX := Lib.hid bx; have BY := Lib.hid by_
  have Hrl := Lib.hid hr.len; have Hbl := Lib.hid hb.len
  have HrB := Lib.hid hrB; have HbB := Lib.hid hbB
  have hcd := hsp.2.2.2
  have hp1 : 1 ≤ p ∧ p ≤ 8 := by omega
  have Hnp := Lib.hid hnp
  have hNn : N ≤ n := by rw [hnp]; exact Nat.le_mul_of_pos_right N (by omega)
  clear hbl bx by_ ha0 hA hr hb hrB hbB hm hbn hsz hsp hnp hN
  go_enter Try.func12, Try.ntmps12
  go_wp2_with fail
  rw [← hv]
  clear hv
  refine (HA.out _).mono ?_; rintro e w1 ⟨rfl, b1⟩
  replace HB := Lib.hid (below_size HB.out b1)
  replace BX := Lib.hid (BX.out.below b1)
  replace BY := Lib.hid (BY.out.below b1)
  replace R := Lib.hid (R.out.below b1)
  replace S := Lib.hid (S.out.below b1)
  clear b1
  have d0 := BY.out.box.c0; have d1 := BY.out.box.c1; have d2 := BY.out.box.c2; have d3 := BY.out.box.c3; have d4 := BY.out.c4
  go_wp2_with fail
  clear d0 d1 d2 d3 d4
  rw [hp]
  clear hp hcd
  go_loopw [8, 9] (fun c i wr => ∃ (j q : Nat), Hid (j ≤ N ∧ q = j * p) ∧ i = .int .i64 q ∧ c = .int .i64 (cnt p bs rs j : Nat) ∧ Hid (Below w1.heap.size w1 wr)) (fun _ i _ => n - (intOf i).toNat)
  case atStart => exact ⟨0, 0, Lib.hid ⟨Nat.zero_le _, by simp⟩, rfl, rfl, Lib.hid (Below.refl _ _)⟩
  case round =>
    obtain ⟨j, q, Hq, rfl, rfl, Kb⟩ := hrel
    by_cases hlt : j < N
    · have hq1 : q + p ≤ n := by
        have := Nat.mul_le_mul_right p (show j + 1 ≤ N from hlt)
        have h1 := Hq.out.2; have h2 := Hnp.out
        rw [Nat.add_mul] at this; omega
      have hcl := cnt_le p bs rs j
      have x3 := BX.out.below Kb.out
      have y3 := BY.out.below Kb.out
      have r1 := reads_upto (reads_from (R.out.below Kb.out) q (by omega) (by omega)) p (by omega)
      have s1 := reads_upto (reads_from (S.out.below Kb.out) q (by omega) (by omega)) p (by omega)
      have g1 := fun i => run_bytes_string (r1.below (below_drewN (Below.refl _ _) i)) 24 5 Try.underlying24 Try.underlying5 9 Try.underlying9
      have g2 := fun i => run_bytes_string (s1.below (below_drewN (Below.refl _ _) i)) 24 5 Try.underlying24 Try.underlying5 9 Try.underlying9
      have HE := strOfNums_beq ((HbB.out.drop q).take p) ((HrB.out.drop q).take p)
      have hcut : cnt p bs rs (j + 1) = cnt p bs rs j + (if (bs.drop q).take p = (rs.drop q).take p then 0 else 1) := by rw [cnt, Hq.out.2]
      have Hcut := Lib.hid hcut
      have hk1 : ¬ k = q := by omega
      have hk2 : ¬ cap = q := by omega
      have q1 : (q : Int) < n := by omega
      clear r1 s1 hcut
      have c0 := x3.box.c0; have c1 := x3.box.c1; have c2 := x3.box.c2; have c3 := x3.box.c3; have c4 := x3.c4
      have d0 := y3.box.c0; have d1 := y3.box.c1; have d2 := y3.box.c2; have d3 := y3.box.c3; have d4 := y3.c4
      clear x3 y3
      generalize cnt p bs rs j = cj at *
      have hRs := HrB.out; have hBs := HbB.out
      generalize (rs.drop q).take p = u at *
      generalize (bs.drop q).take p = v at *
      go_wp2_with fail
      go_quiet (fail)
      by_cases hvu : v = u
      all_goals
        first | rw [decide_eq_true hvu] | rw [decide_eq_false hvu]
        have Hvu := Lib.hid hvu
        clear HE hvu g1 g2
        clear c0 c1 c2 c3 c4 d0 d1 d2 d3 d4
        go_wp2_with fail
        go_roundw
        case rel =>
          refine ⟨j + 1, q + p, Lib.hid ⟨hlt, by rw [Nat.add_mul, ← Hq.out.2]; omega⟩, by go_num, ?_, Lib.hid (below_drewN Kb.out _)⟩
          rw [Hcut.out]
          first | rw [if_pos Hvu.out] | rw [if_neg Hvu.out]
          first | rfl | go_num
        case measure => simp [intOf]; omega
    · have hjn := Hq.out.1
      obtain rfl : j = N := by omega
      obtain rfl : q = n := by rw [Hq.out.2, Hnp.out]
      have y3 := BY.out.below Kb.out
      have d0 := y3.box.c0; have d1 := y3.box.c1; have d2 := y3.box.c2; have d3 := y3.box.c3; have d4 := y3.c4
      clear y3
      go_wp2_with fail
      go_returns
      exact ⟨rfl, below_size HB.out Kb.out⟩

set_option maxRecDepth 100000 in
set_option maxHeartbeats 1000000 in
theorem rchanged_ok (W H C D : Int) (a : Option Addr) (n cap : Nat) (b : Option Addr) (k : Nat) (bs rs : List Int) (w : World) (hb : Reads .u8 w a n cap bs) (hbB : isB bs) (hr : Reads .u8 w b n k rs) (hrB : isB rs) (hm : mayR W H C D n = true) :
    Calls Try.prog 13 #[ras W H C D a n cap, ras W H C D b n k] w fun e w' => e = .returned (.tuple #[.int .i64 (cnt (C * D / 8).toNat bs rs (W * H).toNat : Nat), .int .i64 0]) ∧ Below w.heap.size w w' := by
  have hbn := (mayR_spec hm).1
  have hsz := (mayR_spec hm).2
  have hsp := size_pix hbn
  have hn : n ≤ 16384 := by omega
  have hH : -9223372036854775808 ≤ H ∧ H ≤ 9223372036854775807 := by have h1 := hbn.2.2.1; have h2 := hbn.2.2.2.1; omega
  have hn1 : 1 ≤ n := by have := size_bd W H C D hbn; omega
  obtain ⟨p1, o1, rfl, _⟩ := hr.cellAt 0 hn1
  obtain ⟨p2, o2, rfl, _⟩ := hb.cellAt 0 hn1
  have hkn := hr.le
  have hcn := hb.le
  obtain ⟨N, hN⟩ : ∃ N : Nat, W * H = N := ⟨(W * H).toNat, by have := Int.mul_nonneg (show (0:Int) ≤ W by have := hbn.1; omega) (show (0:Int) ≤ H by have := hbn.2.2.1; omega); omega⟩
  obtain ⟨p, hp⟩ : ∃ p : Nat, C * D / 8 = p := ⟨(C * D / 8).toNat, by omega⟩
  obtain ⟨v, hv, hbl, bx, by_⟩ := two_boxes w W H C D (some ⟨p2, o2, Option.none⟩) n cap W H C D (some ⟨p1, o1, Option.none⟩) n k
  have ha0 : alikeE W H C D n W H C D n = 0 := by unfold alikeE; rw [if_pos ⟨hm, hm⟩, if_pos ⟨rfl, rfl, rfl, rfl⟩]
  have hA := fun w' => rpair_any W H C D (some ⟨p2, o2, Option.none⟩) n cap W H C D (some ⟨p1, o1, Option.none⟩) n k w' hH hH
  rw [ha0] at hA
  rw [hN, hp]
  rw [hN, hp] at hsp
  have hnp : n = N * p := by have := hsz.2; rw [hsp.1] at this; exact_mod_cast this
  simp only [Int.toNat_natCast]
  have HA := Lib.hid hA
  have R := Lib.hid (hr.below hbl); have S := Lib.hid (hb.below hbl)
  have HB := Lib.hid hbl; have BX := Lib.hid bx; have BY := Lib.hid by_
  have Hrl := Lib.hid hr.len; have Hbl := Lib.hid hb.len
  have HrB := Lib.hid hrB; have HbB := Lib.hid hbB
  have hcd := hsp.2.2.2
  have hp1 : 1 ≤ p ∧ p ≤ 8 := by omega
  have Hnp := Lib.hid hnp
  have hNn : N ≤ n := by rw [hnp]; exact Nat.le_mul_of_pos_right N (by omega)
  clear hbl bx by_ ha0 hA hr hb hrB hbB hm hbn hsz hsp hnp hN
  go_enter Try.func13, Try.ntmps13
  go_wp2_with fail
  rw [← hv]
  clear hv
  refine (HA.out _).mono ?_; rintro e w1 ⟨rfl, b1⟩
  replace HB := Lib.hid (below_size HB.out b1)
  replace BX := Lib.hid (BX.out.below b1)
  replace BY := Lib.hid (BY.out.below b1)
  replace R := Lib.hid (R.out.below b1)
  replace S := Lib.hid (S.out.below b1)
  clear b1
  have d0 := BY.out.box.c0; have d1 := BY.out.box.c1; have d2 := BY.out.box.c2; have d3 := BY.out.box.c3; have d4 := BY.out.c4
  go_wp2_with fail
  clear d0 d1 d2 d3 d4
  rw [hp]
  clear hp hcd
  go_loopw [8, 9] (fun c i wr => ∃ (j q : Nat), Hid (j ≤ N ∧ q = j * p) ∧ i = .int .i64 q ∧ c = .int .i64 (cnt p bs rs j : Nat) ∧ Hid (Below w1.heap.size w1 wr)) (fun _ i _ => n - (intOf i).toNat)
  case atStart => exact ⟨0, 0, Lib.hid ⟨Nat.zero_le _, by simp⟩, rfl, rfl, Lib.hid (Below.refl _ _)⟩
  case round =>
    obtain ⟨j, q, Hq, rfl, rfl, Kb⟩ := hrel
    by_cases hlt : j < N
    · have hq1 : q + p ≤ n := by
        have := Nat.mul_le_mul_right p (show j + 1 ≤ N from hlt)
        have h1 := Hq.out.2; have h2 := Hnp.out
        rw [Nat.add_mul] at this; omega
      have hcl := cnt_le p bs rs j
      have x3 := BX.out.below Kb.out
      have y3 := BY.out.below Kb.out
      have r1 := reads_upto (reads_from (R.out.below Kb.out) q (by omega) (by omega)) p (by omega)
      have s1 := reads_upto (reads_from (S.out.below Kb.out) q (by omega) (by omega)) p (by omega)
      have hBy := fun x : GrownW wr => bytes_any _ _ _ _ _ _ _ _ x.val (r1.below x.below) (s1.below x.below) ((HrB.out.drop q).take p) ((HbB.out.drop q).take p)
      have e8 : decide ((rs.drop q).take p = (bs.drop q).take p) = decide ((bs.drop q).take p = (rs.drop q).take p) := decide_eq_decide.2 eq_comm
      simp only [e8] at hBy
      clear e8
      have hcut : cnt p bs rs (j + 1) = cnt p bs rs j + (if (bs.drop q).take p = (rs.drop q).take p then 0 else 1) := by rw [cnt, Hq.out.2]
      have Hcut := Lib.hid hcut
      have hk1 : ¬ k = q := by omega
      have hk2 : ¬ cap = q := by omega
      have q1 : (q : Int) < n := by omega
      clear r1 s1 hcut
      have X3 := Lib.hid x3; have Y3 := Lib.hid y3
      have d0 := y3.box.c0; have d1 := y3.box.c1; have d2 := y3.box.c2; have d3 := y3.box.c3; have d4 := y3.c4
      clear x3 y3
      generalize cnt p bs rs j = cj at *
      have hRs := HrB.out; have hBs := HbB.out
      generalize (rs.drop q).take p = u at *
      generalize (bs.drop q).take p = v at *
      go_wp2_with fail
      clear d0 d1 d2 d3 d4
      have c0 := fun x : GrownW wr => x.cell X3.out.lt X3.out.box.c0; have c1 := fun x : GrownW wr => x.cell X3.out.lt X3.out.box.c1; have c2 := fun x : GrownW wr => x.cell X3.out.lt X3.out.box.c2; have c3 := fun x : GrownW wr => x.cell X3.out.lt X3.out.box.c3; have c4 := fun x : GrownW wr => x.cell X3.out.lt X3.out.c4
      have d0 := fun x : GrownW wr => x.cell Y3.out.lt Y3.out.box.c0; have d1 := fun x : GrownW wr => x.cell Y3.out.lt Y3.out.box.c1; have d2 := fun x : GrownW wr => x.cell Y3.out.lt Y3.out.box.c2; have d3 := fun x : GrownW wr => x.cell Y3.out.lt Y3.out.box.c3; have d4 := fun x : GrownW wr => x.cell Y3.out.lt Y3.out.c4
      refine wp_region_grow_lit (by kernel_rfl) (by kernel_rfl) ?_
      repeat (go_big_quiet_step ((go_at_call 14; exact grow_call_same (hBy _))))
      refine wpQuiet_nil ?_
      intro wg hw'
      obtain ⟨⟨wz, hbg⟩, hw''⟩ := hw'
      subst hw''
      by_cases hvu : v = u
      all_goals
        first | rw [decide_eq_true hvu] | rw [decide_eq_false hvu]
        have Hvu := Lib.hid hvu
        clear hvu hBy
        clear c0 c1 c2 c3 c4 d0 d1 d2 d3 d4
        go_wp2_with fail
        go_roundw
        case rel =>
          refine ⟨j + 1, q + p, Lib.hid ⟨hlt, by rw [Nat.add_mul, ← Hq.out.2]; omega⟩, by go_num, ?_, Lib.hid (below_size Kb.out hbg)⟩
          rw [Hcut.out]
          first | rw [if_pos Hvu.out] | rw [if_neg Hvu.out]
          first | rfl | go_num
        case measure => simp [intOf]; omega
    · have hjn := Hq.out.1
      obtain rfl : j = N := by omega
      obtain rfl : q = n := by rw [Hq.out.2, Hnp.out]
      have y3 := BY.out.below Kb.out
      have d0 := y3.box.c0; have d1 := y3.box.c1; have d2 := y3.box.c2; have d3 := y3.box.c3; have d4 := y3.c4
      clear y3
      go_wp2_with fail
      go_returns
      exact ⟨rfl, below_size HB.out Kb.out⟩

end Go.Proofs.Ytljkkhjgcgiccaa
