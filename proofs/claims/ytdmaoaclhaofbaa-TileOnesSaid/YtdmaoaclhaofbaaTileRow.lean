/-
  tile.row, tile.part: where a row lies.
-/
import Derived.Test.YtdmaoaclhaofbaaTileOk
import Derived.Test.YtdmaoaclhaofbaaRaster
namespace Go.Proofs.Ytdmaoaclhaofbaa
open Go.RowKit

theorem row_pos {W H C D : Int} (hb : Bnds W H C D) : 1 ≤ rowN W H C D := by
  unfold rowN
  rw [if_pos hb]
  have := prod_bd ⟨hb.1, hb.2.1⟩ ⟨hb.2.2.2.2.1, hb.2.2.2.2.2.1⟩ hb.2.2.2.2.2.2
  omega

theorem mayR_iff' {W H C D : Int} {n : Nat} (h : mayR W H C D n = true) : mayN W H C D = true := by
  unfold mayR at h
  simp at h
  exact h.1

set_option maxHeartbeats 1000000 in
theorem tileRow_any (W H C D : Int) (b off n cap y R P : Nat) (w : World) (hm : mayR W H C D n = true) (hy : (y : Int) < H) (hc : n ≤ cap) (hR : (R : Int) = rowN W H C D) (hP : P = y * R) :
    Calls Try.prog 28 #[ras W H C D (some ⟨b, off, Option.none⟩) n cap, .int .i64 y] w fun e w' => e = .returned (.slice (some ⟨b, off + P, Option.none⟩) R (cap - P)) ∧ Below w.heap.size w w' := by
  obtain ⟨hb, hs, hn⟩ := mayR_spec hm
  have hr := row_bd W H C D
  have e2 : ((y : Int) + 1) * rowN W H C D ≤ H * rowN W H C D := Int.mul_le_mul_of_nonneg_right (by omega) hr.1
  have e4 : sizeN W H C D = H * rowN W H C D := by unfold sizeN; rw [Int.mul_comm]
  have e5 : ((y : Int) + 1) * rowN W H C D = (P : Int) + R := by rw [← hR, hP]; simp [Int.add_mul]
  have hPR : P + R ≤ n := by omega
  have hH : H ≤ 256 := hb.2.2.2.1
  have cm := fun w' => row_any W H C D w'
  rw [← hR] at cm
  have q1 : IntKind.i64.wrap ((y : Int) * (R : Int)) = (P : Int) := by rw [hP, Go.IntWalk.i64_in _ (by rw [← Int.natCast_mul, ← hP]; omega), ← Int.natCast_mul]
  have q2 : IntKind.i64.wrap (((y : Int) + 1) * (R : Int)) = (P : Int) + R := by rw [hR, e5, ← hR, Go.IntWalk.i64_in _ (by omega)]
  have i1 : (0 : Int) ≤ P := by omega
  have i2 : (P : Int) ≤ (P : Int) + R := by omega
  have i3 : (P : Int) + R ≤ cap := by omega
  have i4 : ((P : Int) + R).toNat = P + R := by omega
  have i5 : P + R - P = R := by omega
  have i6 : ¬ cap = P := by have := row_pos hb; omega
  clear e2 e4 e5 hs hn hR hP hm hb hr
  have hb0 := rbox_alloc w W H C D (some ⟨b, off, Option.none⟩) n cap 26
  have hbl : Below w.heap.size w (w.alloc (.cells #[.int .i64 W, .int .i64 H, .int .i64 C, .int .i64 D, .slice (some ⟨b, off, Option.none⟩) n cap] 26)) := (Below.refl _ _).alloc (Nat.le_refl _) _
  have HB0 := Lib.hid hb0; have HBL := Lib.hid hbl
  have c0 := hb0.box.c0; have c1 := hb0.box.c1; have c2 := hb0.box.c2; have c3 := hb0.box.c3; have c4 := hb0.c4
  clear hb0 hbl
  go_enter Try.func28, Try.ntmps28
  go_wp2_with fail
  refine (cm _).mono ?_; rintro e w1 ⟨rfl, bb⟩
  have hb1 := HB0.out.below bb
  have HB1 := Lib.hid (below_size HBL.out bb)
  have d0 := hb1.box.c0; have d1 := hb1.box.c1; have d2 := hb1.box.c2; have d3 := hb1.box.c3; have d4 := hb1.c4
  clear bb hb1 HB0 HBL
  go_wp2_with fail
  go_ret
  exact ⟨rfl, HB1.out⟩

/-- Where the i-th tile lies. -/
theorem tile_bd {W H C D : Int} {i y R A B0 Rt : Nat} (hb : Bnds W H C D) (hA : (A : Int) = (W + 7) / 8) (hi : (i : Int) < (W + 7) / 8 * ((H + 7) / 8)) (hy : (y : Int) < tileH W H i) (hR : (R : Int) = rowN W H C D)
    (hB : (B0 : Int) = (i % A : Nat) * 8 * C * D / 8) (hRt : (Rt : Int) = rowN (tileW W i) (tileH W H i) C D) :
    1 ≤ A ∧ A ≤ 32 ∧ i % A < A ∧ (i / A : Nat) < (H + 7) / 8 ∧ ((i / A * 8 + y : Nat) : Int) < H ∧ B0 + Rt ≤ R ∧ 1 ≤ Rt ∧ Bnds (tileW W i) (tileH W H i) C D := by
  obtain ⟨h1, h2, h3, h4, h5, h6, h7⟩ := hb
  have a1 : 1 ≤ A ∧ A ≤ 32 := by omega
  have m1 : i % A < A := Nat.mod_lt _ a1.1
  have q1 : (i : Int) / ((W + 7) / 8) = (i / A : Nat) := by rw [← hA]; simp
  have q2 : (i : Int) % ((W + 7) / 8) = (i % A : Nat) := by rw [← hA]; simp
  have d1 : (i : Int) / ((W + 7) / 8) < (H + 7) / 8 := Int.ediv_lt_of_lt_mul (by omega) (by rw [Int.mul_comm]; exact hi)
  unfold tileH at hy hRt
  unfold tileW at hRt
  unfold tileH tileW
  rw [q1] at hy hRt d1
  rw [q2] at hRt
  rw [q1, q2]
  generalize i % A = qx at *
  generalize i / A = qy at *
  have bt : Bnds (min 8 (W - (qx : Int) * 8)) (min 8 (H - (qy : Int) * 8)) C D := ⟨by omega, by omega, by omega, by omega, h5, h6, h7⟩
  refine ⟨a1.1, a1.2, m1, d1, by omega, ?_, ?_, bt⟩
  · rw [rowN, if_pos ⟨h1, h2, h3, h4, h5, h6, h7⟩] at hR
    rw [rowN, if_pos bt] at hRt
    rcases (by omega : C = 1 ∨ C = 2 ∨ C = 3 ∨ C = 4) with rfl | rfl | rfl | rfl <;> rcases h7 with rfl | rfl <;> omega
  · have := row_pos bt
    omega

set_option maxHeartbeats 1000000 in
theorem part_any (W H C D : Int) (b off n cap i y R P A B0 Rt : Nat) (w : World) (hm : mayR W H C D n = true) (hA : (A : Int) = (W + 7) / 8) (hi : (i : Int) < (W + 7) / 8 * ((H + 7) / 8)) (hy : (y : Int) < tileH W H i) (hc : n ≤ cap) (hR : (R : Int) = rowN W H C D)
    (hP : P = (i / A * 8 + y) * R) (hB : (B0 : Int) = (i % A : Nat) * 8 * C * D / 8) (hRt : (Rt : Int) = rowN (tileW W i) (tileH W H i) C D) :
    Calls Try.prog 29 #[ras W H C D (some ⟨b, off, Option.none⟩) n cap, shp (tileW W i) (tileH W H i) C D, .int .i64 i, .int .i64 y] w fun e w' => e = .returned (.slice (some ⟨b, off + P + B0, Option.none⟩) Rt (cap - P - B0)) ∧ Below w.heap.size w w' := by
  obtain ⟨hb, hs, hn⟩ := mayR_spec hm
  obtain ⟨a1, a2, m1, d1, y1, b1, b2, bt⟩ := tile_bd hb hA hi hy hR hB hRt
  have hr := row_bd W H C D
  have e2 : (((i / A * 8 + y : Nat) : Int) + 1) * rowN W H C D ≤ H * rowN W H C D := Int.mul_le_mul_of_nonneg_right (by omega) hr.1
  have e4 : sizeN W H C D = H * rowN W H C D := by unfold sizeN; rw [Int.mul_comm]
  have e5 : (((i / A * 8 + y : Nat) : Int) + 1) * rowN W H C D = (P : Int) + R := by rw [← hR, hP]; simp [Int.add_mul]
  have hPR : P + R ≤ n := by omega
  have crow := fun w' => tileRow_any W H C D b off n cap (i / A * 8 + y) R P w' hm y1 hc hR hP
  have csz := fun w' => row_any (tileW W i) (tileH W H i) C D w'
  have cgr := fun w' => grid_may W H C D w' (mayR_iff' hm)
  rw [← hRt] at csz
  rw [← hA] at cgr
  have hi1 : (0 : Int) ≤ i := by omega
  have hA1 : ¬ (A : Int) = 0 := by omega
  have g1 : (i : Int) % (A : Int) = (i % A : Nat) := by simp
  have g2 : (i : Int) / (A : Int) = (i / A : Nat) := by simp
  obtain ⟨h1, h2, h3, h4, h5, h6, h7⟩ := hb
  obtain ⟨X2, hX2⟩ : ∃ X2 : Int, (i % A : Nat) * 8 * C = X2 := ⟨_, rfl⟩
  obtain ⟨X3, hX3⟩ : ∃ X3 : Int, X2 * D = X3 := ⟨_, rfl⟩
  have x2 : 0 ≤ X2 ∧ X2 ≤ 1024 := by rcases (by omega : C = 1 ∨ C = 2 ∨ C = 3 ∨ C = 4) with rfl | rfl | rfl | rfl <;> omega
  have x3 : 0 ≤ X3 ∧ X3 ≤ 16384 := by rcases h7 with rfl | rfl <;> omega
  have k1 : IntKind.i64.wrap (((i % A : Nat) : Int) * 8 * C) = X2 := by rw [hX2, Go.IntWalk.i64_in _ (by omega)]
  have k2 : IntKind.i64.wrap (X2 * D) = X3 := by rw [hX3, Go.IntWalk.i64_in _ (by omega)]
  have k3 : X3 / 8 = B0 := by rw [hB, ← hX3, ← hX2]
  have hqy : ((i / A * 8 + y : Nat) : Int) = ((i / A : Nat) : Int) * 8 + y := by omega
  have hqb : (i / A : Nat) < 33 := by omega
  have hyb : y < 257 := by omega
  rw [hqy] at crow
  have i1 : (0 : Int) ≤ B0 := by omega
  have i2 : (B0 : Int) ≤ (B0 : Int) + Rt := by omega
  have i3 : (B0 : Int) + Rt ≤ ((cap - P : Nat) : Int) := by omega
  have i4 : ((B0 : Int) + Rt).toNat = B0 + Rt := by omega
  have i5 : B0 + Rt - B0 = Rt := by omega
  have i6 : ¬ cap - P = B0 := by omega
  have i7 : B0 + Rt ≤ cap - P := by omega
  have hBR : B0 + Rt < 10000 := by omega
  clear e2 e4 e5 hs hn hR hP hm hr hRt hB hi hy hA hX2 hX3 bt hqy y1 h7
  generalize tileW W i = tw at *
  generalize tileH W H i = th at *
  generalize i % A = qx at *
  generalize i / A = qy at *
  have hb0 := (rbox_alloc w W H C D (some ⟨b, off, Option.none⟩) n cap 26).below ((Below.refl _ _).alloc (Nat.le_refl _) (.cells #[.int .i64 tw, .int .i64 th, .int .i64 C, .int .i64 D] 23))
  have hs0 := box_alloc (w.alloc (.cells #[.int .i64 W, .int .i64 H, .int .i64 C, .int .i64 D, .slice (some ⟨b, off, Option.none⟩) n cap] 26)) tw th C D 23
  rw [World.size_alloc] at hs0
  have hbl : Below w.heap.size w ((w.alloc (.cells #[.int .i64 W, .int .i64 H, .int .i64 C, .int .i64 D, .slice (some ⟨b, off, Option.none⟩) n cap] 26)).alloc (.cells #[.int .i64 tw, .int .i64 th, .int .i64 C, .int .i64 D] 23)) := ((Below.refl _ _).alloc (Nat.le_refl _) _).alloc (by simp) _
  have HB0 := Lib.hid hb0; have HBL := Lib.hid hbl; have HS0 := Lib.hid hs0
  have c0 := hb0.box.c0; have c1 := hb0.box.c1; have c2 := hb0.box.c2; have c3 := hb0.box.c3; have c4 := hb0.c4
  clear hb0 hbl hs0
  go_enter Try.func29, Try.ntmps29
  go_wp2_with fail
  refine (cgr _).mono ?_; rintro e w1 ⟨rfl, bb⟩
  have hb1 := HB0.out.below bb
  have hs1 := HS0.out.below bb
  have HB1 := Lib.hid hb1; have HS1 := Lib.hid hs1
  have HBL1 := Lib.hid (below_size HBL.out bb)
  have d2 := hs1.c2; have d3 := hs1.c3
  clear bb hb1 hs1 HB0 HBL HS0 c0 c1 c2 c3 c4
  go_wp2_with fail
  go_quiet (fail)
  clear d2 d3
  have hb2 : RBox (w1.drewN nq) w.heap.size W H C D (some ⟨b, off, Option.none⟩) n cap := HB1.out.below (below_drewN (Below.refl _ _) nq)
  have hs2 : Box (w1.drewN nq) (w.heap.size + 1) tw th C D := HS1.out.below (below_drewN (Below.refl _ _) nq)
  have HBL2 := Lib.hid (below_drewN HBL1.out nq)
  generalize w1.drewN nq = w2 at *
  clear HB1 HS1 HBL1
  have HB2 := Lib.hid hb2; have HS2 := Lib.hid hs2
  have c0 := fun x : GrownW w2 => x.cell HB2.out.lt HB2.out.box.c0
  have c1 := fun x : GrownW w2 => x.cell HB2.out.lt HB2.out.box.c1
  have c2 := fun x : GrownW w2 => x.cell HB2.out.lt HB2.out.box.c2
  have c3 := fun x : GrownW w2 => x.cell HB2.out.lt HB2.out.box.c3
  have c4 := fun x : GrownW w2 => x.cell HB2.out.lt HB2.out.c4
  have d0 := fun x : GrownW w2 => x.cell HS2.out.lt HS2.out.c0
  have d1 := fun x : GrownW w2 => x.cell HS2.out.lt HS2.out.c1
  have d2 := fun x : GrownW w2 => x.cell HS2.out.lt HS2.out.c2
  have d3 := fun x : GrownW w2 => x.cell HS2.out.lt HS2.out.c3
  clear hb2 hs2
  go_wp2_with fail
  refine wp_region_grow_lit (by kernel_rfl) (by kernel_rfl) ?_
  repeat (go_big_quiet_step (first
      | (go_at_call 28; exact grow_call (crow _))
      | (go_at_call 38; exact grow_call (csz _))))
  refine wpQuiet_nil ?_
  intro wg hw'
  obtain ⟨⟨wz, hbg⟩, hw''⟩ := hw'
  subst hw''
  go_wp2_with fail
  go_ret
  exact ⟨rfl, below_size HBL2.out hbg⟩
end Go.Proofs.Ytdmaoaclhaofbaa
