/-
  The walk of DiffChains.
-/
import Derived.Test.YtljkkhjgcgiccaaDiffChainsNot
import Derived.Deep.QuietTactic
import Derived.BigQuiet
namespace Go.Proofs.Ytljkkhjgcgiccaa
open Go.RowKit

theorem xor_chain (x y z : Int) (hx : 0 ≤ x ∧ x < 256) (hy : 0 ≤ y ∧ y < 256) (hz : 0 ≤ z ∧ z < 256) : bits .xor .u8 (dl 1 y x) (dl 1 z y) = dl 1 z x := by
  have h1 := dl_bd 1 y x hy hx
  have h2 := dl_bd 1 z y hz hy
  rw [xor_u8i _ _ h1 h2]
  unfold dl
  simp only [if_true, Int.toNat_natCast]
  congr 1
  rw [Nat.xor_comm y.toNat, Nat.xor_comm z.toNat y.toNat, Nat.xor_assoc, ← Nat.xor_assoc y.toNat, Nat.xor_self, Nat.zero_xor, Nat.xor_comm]
theorem sub_chain (x y z : Int) : (dl 2 y x + dl 2 z y) % 256 = dl 2 z x := by
  unfold dl
  simp only [show ¬ (2 : Int) = 1 by decide, if_false]
  omega

set_option maxRecDepth 100000 in
set_option maxHeartbeats 4000000 in
theorem chains_yes (W H C D : Int) (a : Option Addr) (n ca : Nat) (xs : List Int) (b : Option Addr) (cb : Nat) (ys : List Int) (c : Option Addr) (cc : Nat) (zs : List Int) (w : World) (hx : Reads .u8 w a n ca xs) (hxB : isB xs) (hy : Reads .u8 w b n cb ys) (hyB : isB ys) (hz : Reads .u8 w c n cc zs) (hzB : isB zs) (k0 : n ≤ 5000) (k1 : mayR W H C D n = true) :
    Calls Try.prog 4 #[ras W H C D a n ca, ras W H C D b n cb, ras W H C D c n cc] w fun e w' => e = .returned (.bool true) ∧ Below w.heap.size w w' := by
  have hbn := (mayR_spec k1).1
  have h0 : -9223372036854775808 ≤ H ∧ H ≤ 9223372036854775807 := by have h1 := hbn.2.2.1; have h2 := hbn.2.2.2.1; omega
  have hse : shEq W H C D W H C D := ⟨rfl, rfl, rfl, rfl⟩
  have g0 := fun w' => may_any W H C D a n ca w' h0
  have g1 := fun w' => may_any W H C D b n cb w' h0
  have g2 := fun w' => may_any W H C D c n cc w' h0
  have g3 := fun w' => ashape_any W H C D W H C D w'
  have g4 := fun w' => ashape_any W H C D W H C D w'
  have hlen : decide ((5000 : Int) < n) = false := by simp; omega
  rw [k1] at g0
  rw [k1] at g1
  rw [k1] at g2
  rw [decide_eq_true hse] at g3
  rw [decide_eq_true hse] at g4
  have G0 := Lib.hid g0; have G1 := Lib.hid g1; have G2 := Lib.hid g2; have G3 := Lib.hid g3; have G4 := Lib.hid g4
  clear g0 g1 g2 g3 g4
  have M1 := Lib.hid (fun (k : Int) (w' : World) hk hr hr' => make_ok k W H C D a n ca b cb xs ys w' hk hr hxB hr' hyB k1)
  have M2 := Lib.hid (fun (k : Int) (w' : World) hk hr hr' => make_ok k W H C D b n cb c cc ys zs w' hk hr hyB hr' hzB k1)
  have M3 := Lib.hid (fun (k : Int) (w' : World) hk hr hr' => make_ok k W H C D a n ca c cc xs zs w' hk hr hxB hr' hzB k1)
  have LX := Lib.hid hx.len; have LY := Lib.hid hy.len; have LZ := Lib.hid hz.len
  have hXB := Lib.hid hxB; have hYB := Lib.hid hyB; have hZB := Lib.hid hzB
  clear k1 hbn h0 hse
  obtain ⟨v, hv, hb, bx, by_, bz⟩ := three_boxes w W H C D a n ca W H C D b n cb W H C D c n cc
  have RX := Lib.hid (hx.below hb); have RY := Lib.hid (hy.below hb); have RZ := Lib.hid (hz.below hb)
  have B := Lib.hid hb; have BX := Lib.hid bx; have BY := Lib.hid by_; have BZ := Lib.hid bz
  clear hb bx by_ bz hx hy hz hxB hyB hzB
  go_enter Try.func4, Try.ntmps4
  go_wp2_with fail
  rw [← hv]
  clear hv
  refine (first_any _).mono ?_; rintro e w1 ⟨rfl, bb⟩
  replace B := Lib.hid (below_size B.out bb)
  replace BX := Lib.hid (BX.out.below bb)
  replace BY := Lib.hid (BY.out.below bb)
  replace BZ := Lib.hid (BZ.out.below bb)
  replace RX := Lib.hid (RX.out.below bb); replace RY := Lib.hid (RY.out.below bb); replace RZ := Lib.hid (RZ.out.below bb)
  clear bb
  have x0 := BX.out.box.c0; have x1 := BX.out.box.c1; have x2 := BX.out.box.c2; have x3 := BX.out.box.c3; have x4 := BX.out.c4
  go_wp2_with fail
  clear x0 x1 x2 x3 x4
  refine (G0.out _).mono ?_; rintro e w2 ⟨rfl, bb⟩
  replace B := Lib.hid (below_size B.out bb)
  replace BX := Lib.hid (BX.out.below bb)
  replace BY := Lib.hid (BY.out.below bb)
  replace BZ := Lib.hid (BZ.out.below bb)
  replace RX := Lib.hid (RX.out.below bb); replace RY := Lib.hid (RY.out.below bb); replace RZ := Lib.hid (RZ.out.below bb)
  clear bb
  have x0 := BY.out.box.c0; have x1 := BY.out.box.c1; have x2 := BY.out.box.c2; have x3 := BY.out.box.c3; have x4 := BY.out.c4
  go_wp2_with fail
  clear x0 x1 x2 x3 x4
  refine (G1.out _).mono ?_; rintro e w3 ⟨rfl, bb⟩
  replace B := Lib.hid (below_size B.out bb)
  replace BX := Lib.hid (BX.out.below bb)
  replace BY := Lib.hid (BY.out.below bb)
  replace BZ := Lib.hid (BZ.out.below bb)
  replace RX := Lib.hid (RX.out.below bb); replace RY := Lib.hid (RY.out.below bb); replace RZ := Lib.hid (RZ.out.below bb)
  clear bb
  have x0 := BZ.out.box.c0; have x1 := BZ.out.box.c1; have x2 := BZ.out.box.c2; have x3 := BZ.out.box.c3; have x4 := BZ.out.c4
  go_wp2_with fail
  clear x0 x1 x2 x3 x4
  refine (G2.out _).mono ?_; rintro e w4 ⟨rfl, bb⟩
  replace B := Lib.hid (below_size B.out bb)
  replace BX := Lib.hid (BX.out.below bb)
  replace BY := Lib.hid (BY.out.below bb)
  replace BZ := Lib.hid (BZ.out.below bb)
  replace RX := Lib.hid (RX.out.below bb); replace RY := Lib.hid (RY.out.below bb); replace RZ := Lib.hid (RZ.out.below bb)
  clear bb
  have x0 := BX.out.box.c0; have x1 := BX.out.box.c1; have x2 := BX.out.box.c2; have x3 := BX.out.box.c3; have x4 := BX.out.c4
  have y0 := BY.out.box.c0; have y1 := BY.out.box.c1; have y2 := BY.out.box.c2; have y3 := BY.out.box.c3; have y4 := BY.out.c4
  go_wp2_with fail
  clear x0 x1 x2 x3 x4 y0 y1 y2 y3 y4
  refine (G3.out _).mono ?_; rintro e w5 ⟨rfl, bb⟩
  replace B := Lib.hid (below_size B.out bb)
  replace BX := Lib.hid (BX.out.below bb)
  replace BY := Lib.hid (BY.out.below bb)
  replace BZ := Lib.hid (BZ.out.below bb)
  replace RX := Lib.hid (RX.out.below bb); replace RY := Lib.hid (RY.out.below bb); replace RZ := Lib.hid (RZ.out.below bb)
  clear bb
  have x0 := BX.out.box.c0; have x1 := BX.out.box.c1; have x2 := BX.out.box.c2; have x3 := BX.out.box.c3; have x4 := BX.out.c4
  have y0 := BZ.out.box.c0; have y1 := BZ.out.box.c1; have y2 := BZ.out.box.c2; have y3 := BZ.out.box.c3; have y4 := BZ.out.c4
  go_wp2_with fail
  clear x0 x1 x2 x3 x4 y0 y1 y2 y3 y4
  refine (G4.out _).mono ?_; rintro e w6 ⟨rfl, bb⟩
  replace B := Lib.hid (below_size B.out bb)
  replace BX := Lib.hid (BX.out.below bb)
  replace BY := Lib.hid (BY.out.below bb)
  replace BZ := Lib.hid (BZ.out.below bb)
  replace RX := Lib.hid (RX.out.below bb); replace RY := Lib.hid (RY.out.below bb); replace RZ := Lib.hid (RZ.out.below bb)
  clear bb
  go_wp2_with fail
  generalize hws : w6 = ws at *
  clear hws hlen
  go_loopw [7] (fun vk wr => ∃ kd : Nat, 1 ≤ kd ∧ kd ≤ 3 ∧ vk = .int .i64 kd ∧ Below ws.heap.size ws wr) (fun vk _ => 3 - (intOf vk).toNat)
  case atStart => exact ⟨1, by omega, by omega, rfl, Below.refl _ _⟩
  case round =>
    obtain ⟨kd, hk1, hk3, rfl, hbl⟩ := hrel
    replace B := Lib.hid (below_size B.out hbl)
    replace BX := Lib.hid (BX.out.below hbl); replace BY := Lib.hid (BY.out.below hbl); replace BZ := Lib.hid (BZ.out.below hbl)
    replace RX := Lib.hid (RX.out.below hbl); replace RY := Lib.hid (RY.out.below hbl); replace RZ := Lib.hid (RZ.out.below hbl)
    have WB := Lib.hid hbl
    clear hbl
    by_cases hlt : kd ≤ 2
    · have hkd : (kd : Int) = 1 ∨ (kd : Int) = 2 := by omega
      have HK := Lib.hid hkd
      clear hkd
      have x0 := BX.out.box.c0; have x1 := BX.out.box.c1; have x2 := BX.out.box.c2; have x3 := BX.out.box.c3; have x4 := BX.out.c4
      have y0 := BY.out.box.c0; have y1 := BY.out.box.c1; have y2 := BY.out.box.c2; have y3 := BY.out.box.c3; have y4 := BY.out.c4
      go_wp2_with fail
      clear x0 x1 x2 x3 x4 y0 y1 y2 y3 y4
      refine (M1.out _ _ HK.out RX.out RY.out).mono ?_; rintro e v1 ⟨p1, q1, rfl, o1, bb⟩
      rw [mkL_len, LY.out] at o1
      rw [mkL_len, LY.out]
      have X := Lib.hid (reads_of_owns o1)
      replace B := Lib.hid (below_size B.out bb); replace WB := Lib.hid (below_size WB.out bb)
      replace BX := Lib.hid (BX.out.below bb); replace BY := Lib.hid (BY.out.below bb); replace BZ := Lib.hid (BZ.out.below bb)
      replace RX := Lib.hid (RX.out.below bb); replace RY := Lib.hid (RY.out.below bb); replace RZ := Lib.hid (RZ.out.below bb)
      clear o1 bb
      have x0 := BY.out.box.c0; have x1 := BY.out.box.c1; have x2 := BY.out.box.c2; have x3 := BY.out.box.c3; have x4 := BY.out.c4
      have y0 := BZ.out.box.c0; have y1 := BZ.out.box.c1; have y2 := BZ.out.box.c2; have y3 := BZ.out.box.c3; have y4 := BZ.out.c4
      go_wp2_with fail
      clear x0 x1 x2 x3 x4 y0 y1 y2 y3 y4
      refine (M2.out _ _ HK.out RY.out RZ.out).mono ?_; rintro e v2 ⟨p2, q2, rfl, o2, bb⟩
      rw [mkL_len, LZ.out] at o2
      rw [mkL_len, LZ.out]
      have Y := Lib.hid (reads_of_owns o2)
      replace X := Lib.hid (X.out.below bb)
      replace B := Lib.hid (below_size B.out bb); replace WB := Lib.hid (below_size WB.out bb)
      replace BX := Lib.hid (BX.out.below bb); replace BZ := Lib.hid (BZ.out.below bb)
      replace RX := Lib.hid (RX.out.below bb); replace RZ := Lib.hid (RZ.out.below bb)
      clear o2 bb BY RY
      have x0 := BX.out.box.c0; have x1 := BX.out.box.c1; have x2 := BX.out.box.c2; have x3 := BX.out.box.c3; have x4 := BX.out.c4
      have y0 := BZ.out.box.c0; have y1 := BZ.out.box.c1; have y2 := BZ.out.box.c2; have y3 := BZ.out.box.c3; have y4 := BZ.out.c4
      go_wp2_with fail
      clear x0 x1 x2 x3 x4 y0 y1 y2 y3 y4
      refine (M3.out _ _ HK.out RX.out RZ.out).mono ?_; rintro e v3 ⟨p3, q3, rfl, o3, bb⟩
      rw [mkL_len, LZ.out] at o3
      rw [mkL_len, LZ.out]
      have Z := Lib.hid (reads_of_owns o3)
      replace X := Lib.hid (X.out.below bb); replace Y := Lib.hid (Y.out.below bb)
      replace B := Lib.hid (below_size B.out bb); replace WB := Lib.hid (below_size WB.out bb)
      clear o3 bb BX BZ RX RZ
      go_wp2_with fail
      obtain ⟨wo, rfl⟩ : ∃ wo : World, wo = wr := ⟨_, rfl⟩
      go_loopw [14] (fun vi wi => ∃ j : Nat, j ≤ n ∧ vi = .int .i64 j ∧ Below v3.heap.size v3 wi) (fun vi _ => n - (intOf vi).toNat)
      case atStart => exact ⟨0, by omega, rfl, Below.refl _ _⟩
      case round =>
        obtain ⟨j, hj, rfl, hbi⟩ := hrel
        by_cases hjn : j < n
        · obtain ⟨a1, f1, rfl, t1⟩ := (X.out.below hbi).cellAt j hjn
          obtain ⟨a2, f2, rfl, t2⟩ := (Y.out.below hbi).cellAt j hjn
          obtain ⟨a3, f3, rfl, t3⟩ := (Z.out.below hbi).cellAt j hjn
          rw [mkL_getD _ _ _ _ (by rw [LY.out]; exact hjn)] at t1
          rw [mkL_getD _ _ _ _ (by rw [LZ.out]; exact hjn)] at t2 t3
          have e1 := hXB.out.get j (by rw [LX.out]; exact hjn)
          have e2 := hYB.out.get j (by rw [LY.out]; exact hjn)
          have e3 := hZB.out.get j (by rw [LZ.out]; exact hjn)
          have HBI := Lib.hid hbi
          clear hbi
          generalize xs.getD j 0 = x0 at *
          generalize ys.getD j 0 = y0 at *
          generalize zs.getD j 0 = z0 at *
          have q1' : (j : Int) < n := by omega
          have q2' : (0 : Int) ≤ j := by omega
          have hj63 : IntKind.i64.wrap ((j : Int)) = j := Go.IntWalk.i64_in _ (by omega)
          have e4 := dl_bd kd y0 x0 e2 e1
          have e5 := dl_bd kd z0 y0 e3 e2
          have e6 := dl_bd kd z0 x0 e3 e1
          rcases (show kd = 1 ∨ kd = 2 by omega) with hkd | hkd
          · have hx1 : bits .xor .u8 (dl kd y0 x0) (dl kd z0 y0) = dl kd z0 x0 := by rw [hkd]; exact xor_chain x0 y0 z0 e1 e2 e3
            have g1 : ((kd : Int) == 1) = true := by simp; omega
            have g2 : ((kd : Int) == 2) = false := by simp; omega
            have HKD := Lib.hid hkd
            clear hkd e1 e2 e3
            generalize dl kd y0 x0 = s1 at *
            generalize dl kd z0 y0 = s2 at *
            generalize dl kd z0 x0 = s3 at *
            go_wp2_with fail
            go_quiet (fail)
            clear hj63
            go_wp2_with fail
            go_roundw
            case rel => exact ⟨j + 1, by omega, by go_num, below_drewN HBI.out _⟩
            case measure => simp [intOf]; omega
          · have hx1 : (dl kd y0 x0 + dl kd z0 y0) % 256 = dl kd z0 x0 := by rw [hkd]; exact sub_chain x0 y0 z0
            have g1 : ((kd : Int) == 1) = false := by simp; omega
            have g2 : ((kd : Int) == 2) = true := by simp; omega
            have HKD := Lib.hid hkd
            clear hkd e1 e2 e3
            generalize dl kd y0 x0 = s1 at *
            generalize dl kd z0 y0 = s2 at *
            generalize dl kd z0 x0 = s3 at *
            go_wp2_with fail
            have hx2 : IntKind.u8.wrap (s1 + s2) = s3 := by rw [IntKind.wrap_u8]; exact hx1
            go_quiet (fail)
            clear hj63 hx2
            go_wp2_with fail
            go_roundw
            case rel => exact ⟨j + 1, by omega, by go_num, below_drewN HBI.out _⟩
            case measure => simp [intOf]; omega
        · have HBI := Lib.hid hbi
          clear hbi X Y Z
          go_wp2_with fail
          go_roundw
          case rel => exact ⟨kd + 1, by omega, by omega, by go_num, below_size WB.out HBI.out⟩
          case measure => simp [intOf]; omega
    · obtain rfl : kd = 3 := by omega
      go_wp2_with fail
      refine (first_any _).mono ?_; rintro e v1 ⟨rfl, bb⟩
      replace B := Lib.hid (below_size B.out bb)
      clear bb
      go_wp2_with fail
      go_ret
      exact ⟨rfl, B.out⟩

theorem walk_DiffChains (W H C D : Int) (a : Option Addr) (n ca : Nat) (xs : List Int) (W1 H1 C1 D1 : Int) (b : Option Addr) (m cb : Nat) (ys : List Int) (W2 H2 C2 D2 : Int) (c : Option Addr) (l cc : Nat) (zs : List Int) (w : World) (_ : -9223372036854775808 ≤ W ∧ W ≤ 9223372036854775807) (h0 : -9223372036854775808 ≤ H ∧ H ≤ 9223372036854775807) (_ : -9223372036854775808 ≤ C ∧ C ≤ 9223372036854775807) (_ : -9223372036854775808 ≤ D ∧ D ≤ 9223372036854775807) (hx : Reads .u8 w a n ca xs) (hxB : isB xs)
    (_ : -9223372036854775808 ≤ W1 ∧ W1 ≤ 9223372036854775807) (h1 : -9223372036854775808 ≤ H1 ∧ H1 ≤ 9223372036854775807) (_ : -9223372036854775808 ≤ C1 ∧ C1 ≤ 9223372036854775807) (_ : -9223372036854775808 ≤ D1 ∧ D1 ≤ 9223372036854775807) (hy : Reads .u8 w b m cb ys) (hyB : isB ys) (_ : -9223372036854775808 ≤ W2 ∧ W2 ≤ 9223372036854775807) (h2 : -9223372036854775808 ≤ H2 ∧ H2 ≤ 9223372036854775807) (_ : -9223372036854775808 ≤ C2 ∧ C2 ≤ 9223372036854775807) (_ : -9223372036854775808 ≤ D2 ∧ D2 ≤ 9223372036854775807) (hz : Reads .u8 w c l cc zs) (hzB : isB zs) :
    Calls Try.prog 4 #[ras W H C D a n ca, ras W1 H1 C1 D1 b m cb, ras W2 H2 C2 D2 c l cc] w fun e w' => e = .returned (.bool true) ∧ Below w.heap.size w w' := by
  have hn := hx.n63.1
  by_cases k0 : n ≤ 5000
  · by_cases k1 : mayR W H C D n = true
    · by_cases k2 : mayR W1 H1 C1 D1 m = true
      · by_cases k3 : mayR W2 H2 C2 D2 l = true
        · by_cases k4 : shEq W H C D W1 H1 C1 D1
          · by_cases k5 : shEq W H C D W2 H2 C2 D2
            · obtain ⟨rfl, rfl, rfl, rfl⟩ := k4
              obtain ⟨rfl, rfl, rfl, rfl⟩ := k5
              have e1 := (mayR_spec k1).2.2; have e2 := (mayR_spec k2).2.2; have e3 := (mayR_spec k3).2.2
              obtain rfl : n = m := by omega
              obtain rfl : n = l := by omega
              exact chains_yes W H C D a n ca xs b cb ys c cc zs w hx hxB hy hyB hz hzB k0 k1
            · exact chains_not5 W H C D a n ca W1 H1 C1 D1 b m cb W2 H2 C2 D2 c l cc w hn h0 h1 h2 k0 k1 k2 k3 k4 k5
          · exact chains_not4 W H C D a n ca W1 H1 C1 D1 b m cb W2 H2 C2 D2 c l cc w hn h0 h1 h2 k0 k1 k2 k3 k4
        · exact chains_not3 W H C D a n ca W1 H1 C1 D1 b m cb W2 H2 C2 D2 c l cc w hn h0 h1 h2 k0 k1 k2 k3
      · exact chains_not2 W H C D a n ca W1 H1 C1 D1 b m cb W2 H2 C2 D2 c l cc w hn h0 h1 h2 k0 k1 k2
    · exact chains_not1 W H C D a n ca W1 H1 C1 D1 b m cb W2 H2 C2 D2 c l cc w hn h0 h1 h2 k0 k1
  · exact chains_not0 W H C D a n ca W1 H1 C1 D1 b m cb W2 H2 C2 D2 c l cc w hn h0 h1 h2 k0
end Go.Proofs.Ytljkkhjgcgiccaa
