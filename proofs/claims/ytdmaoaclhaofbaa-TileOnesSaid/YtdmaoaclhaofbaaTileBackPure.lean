/-
  A picture cut and joined is itself; where a pixel lies.
-/
import Derived.Test.YtdmaoaclhaofbaaTileJoinPure
import Derived.Test.YtdmaoaclhaofbaaTileHasL
import Derived.Test.YtdmaoaclhaofbaaAt
namespace Go.Proofs.Ytdmaoaclhaofbaa
open Go.RowKit

theorem rowsB_at {xs : List Int} {R B0 Rt qy : Nat} : ∀ (k : Nat), (∀ y, y < k → (qy * 8 + y) * R + B0 + Rt ≤ xs.length) → ∀ y, y < k → ((rowsB xs R B0 Rt qy k).drop (y * Rt)).take Rt = segB xs R B0 Rt qy y := by
  intro k
  induction k with
  | zero => intro _ y hy; omega
  | succ k ih =>
    intro h y hy
    have hl := rowsB_len (xs := xs) (R := R) (B0 := B0) (Rt := Rt) (qy := qy) k (fun z hz => h z (by omega))
    rw [rowsB]
    by_cases e : y = k
    · subst e
      rw [List.drop_append_of_le_length (by omega), List.drop_of_length_le (by omega), List.nil_append, List.take_of_length_le (by rw [segB_len (h y (by omega))]; exact Nat.le_refl _)]
    · have hyk : y < k := by omega
      have hm : (y + 1) * Rt ≤ k * Rt := Nat.mul_le_mul_right _ hyk
      rw [Nat.add_mul, Nat.one_mul] at hm
      rw [List.drop_append_of_le_length (by omega), List.take_append_of_le_length (by rw [List.length_drop]; omega)]
      exact ih (fun z hz => h z (by omega)) y hyk

/-- A row of a tile that was cut: a row of the picture. -/
theorem jSeg_tilP {W H C D : Int} {n i y : Nat} {xs : List Int} (T : TF W H C D n i) (hl : xs.length = n) (hy : y < tH W H i) : jSeg W H C D (tilP W H C D xs i) i y = (xs.drop (jP W H C D i y)).take (tRt W H C D i) := by
  unfold jSeg tilP jP
  rw [rowsB_at _ (fun z hz => by rw [hl]; exact T.fit z hz) y hy]
  rfl

theorem getD_splice {out xs : List Int} {P Rt n : Nat} (ho : out.length = n) (hx : xs.length = n) (hf : P + Rt ≤ n) (p : Nat) (hp : p < n) :
    (out.take P ++ ((xs.drop P).take Rt ++ out.drop (P + Rt))).getD p 0 = if P ≤ p ∧ p < P + Rt then xs.getD p 0 else out.getD p 0 := by
  have h1 : (out.take P).length = P := by rw [List.length_take]; omega
  have h2 : ((xs.drop P).take Rt).length = Rt := by rw [List.length_take, List.length_drop]; omega
  simp only [List.getD]
  by_cases a : p < P
  · rw [List.getElem?_append_left (by omega), if_neg (by omega), List.getElem?_take_of_lt a]
  · rw [List.getElem?_append_right (by omega), h1]
    by_cases b : p < P + Rt
    · rw [List.getElem?_append_left (by omega), if_pos ⟨by omega, b⟩, List.getElem?_take_of_lt (by omega), List.getElem?_drop, show P + (p - P) = p by omega]
    · rw [List.getElem?_append_right (by omega), h2, if_neg (by omega), List.getElem?_drop, show P + Rt + (p - P - Rt) = p by omega]

theorem jRow_getD {W H C D : Int} {n i y : Nat} {xs out : List Int} (T : TF W H C D n i) (hl : xs.length = n) (ho : out.length = n) (hy : y < tH W H i) (p : Nat) (hp : p < n) :
    (jRow W H C D (tilP W H C D xs i) out i y).getD p 0 = if jP W H C D i y ≤ p ∧ p < jP W H C D i y + tRt W H C D i then xs.getD p 0 else out.getD p 0 := by
  unfold jRow
  rw [jSeg_tilP T hl hy]
  exact getD_splice ho hl (by have := T.fit y hy; unfold jP; omega) p hp

theorem tilP_len' {W H C D : Int} {n i : Nat} {xs : List Int} (T : TF W H C D n i) (hl : xs.length = n) : (tilP W H C D xs i).length = tH W H i * tRt W H C D i := by
  unfold tilP
  rw [rowsB_len _ (fun y hy => by rw [hl]; exact T.fit y hy)]

/-- What was right stays right; a row that is laid is right. -/
theorem jRows_keep {W H C D : Int} {n i : Nat} {xs out : List Int} (T : TF W H C D n i) (hl : xs.length = n) (ho : out.length = n) (p : Nat) (hp : p < n) :
    ∀ y, y ≤ tH W H i → out.getD p 0 = xs.getD p 0 → (jRows W H C D (tilP W H C D xs i) out i y).getD p 0 = xs.getD p 0
  | 0, _, h => h
  | y + 1, hy, h => by
    rw [jRows, jRow_getD T hl (jRows_len T (tilP_len' T hl) ho y (by omega)) (by omega) p hp]
    split
    · rfl
    · exact jRows_keep T hl ho p hp y (by omega) h
theorem jRows_got {W H C D : Int} {n i : Nat} {xs out : List Int} (T : TF W H C D n i) (hl : xs.length = n) (ho : out.length = n) (p : Nat) (hp : p < n) (z : Nat) (hz : jP W H C D i z ≤ p ∧ p < jP W H C D i z + tRt W H C D i) :
    ∀ y, y ≤ tH W H i → z < y → (jRows W H C D (tilP W H C D xs i) out i y).getD p 0 = xs.getD p 0
  | 0, _, h => by omega
  | y + 1, hy, h => by
    rw [jRows, jRow_getD T hl (jRows_len T (tilP_len' T hl) ho y (by omega)) (by omega) p hp]
    split
    · rfl
    · next hne =>
      by_cases e : z = y
      · subst e; exact absurd hz hne
      · exact jRows_got T hl ho p hp z hz y (by omega) (by omega)

theorem tils_getD {W H C D : Int} {xs : List Int} {N i : Nat} (hi : i < N) : (tils W H C D xs N).getD i ((0, 0, 0, 0), []) = ((tileW W i, tileH W H i, C, D), tilP W H C D xs i) := by
  simp [tils, List.getD, hi]

theorem jAll_len {W H C D : Int} {n : Nat} {xs : List Int} (hm : mayR W H C D n = true) (hl : xs.length = n) : ∀ k, k ≤ tN W H → (jAll W H C D (tils W H C D xs (tN W H)) k).length = n
  | 0, _ => by rw [jAll]; simp [mayR_len hm]
  | k + 1, hk => by
    have T := tf_of hm k (by omega)
    rw [jAll, tils_getD (by omega)]
    exact jRows_len T (tilP_len' T hl) (jAll_len hm hl k (by omega)) _ (Nat.le_refl _)
theorem jAll_got {W H C D : Int} {n : Nat} {xs : List Int} (hm : mayR W H C D n = true) (hl : xs.length = n) (p : Nat) (hp : p < n) (i z : Nat) (hz : z < tH W H i) (hc : jP W H C D i z ≤ p ∧ p < jP W H C D i z + tRt W H C D i) :
    ∀ k, k ≤ tN W H → i < k → (jAll W H C D (tils W H C D xs (tN W H)) k).getD p 0 = xs.getD p 0
  | 0, _, h => by omega
  | k + 1, hk, h => by
    have T := tf_of hm k (by omega)
    have hlen := jAll_len hm hl k (by omega)
    rw [jAll, tils_getD (by omega)]
    by_cases e : i = k
    · subst e; exact jRows_got T hl hlen p hp z hc _ (Nat.le_refl _) hz
    · exact jRows_keep T hl hlen p hp _ (Nat.le_refl _) (jAll_got hm hl p hp i z hz hc k (by omega) (by omega))

/-- The numbers of a tile, told by its column and row. -/
theorem tile_nums {W H C D : Int} {n r tc : Nat} (hm : mayR W H C D n = true) (hr : (r : Int) < H) (htc : (tc : Int) < (W + 7) / 8) :
    r / 8 * tA W + tc < tN W H ∧ r % 8 < tH W H (r / 8 * tA W + tc) ∧ (r / 8 * tA W + tc) / tA W = r / 8 ∧ (r / 8 * tA W + tc) % tA W = tc ∧
    ((tB0 W C D (r / 8 * tA W + tc) : Nat) : Int) = (tc : Int) * 8 * C * D / 8 ∧ ((tRt W H C D (r / 8 * tA W + tc) : Nat) : Int) = (min 8 (W - (tc : Int) * 8)) * C * D / 8 ∧ ((tR W H C D : Nat) : Int) = W * C * D / 8 ∧
    tileW W (r / 8 * tA W + tc : Nat) = min 8 (W - (tc : Int) * 8) ∧ tileH W H (r / 8 * tA W + tc : Nat) = min 8 (H - (r / 8 : Nat) * 8) := by
  have hb := (mayR_spec hm).1
  obtain ⟨a1, a2, a3, a4, a5⟩ := tN_bd hb
  have hA : 0 < tA W := by have := hb.1; omega
  have htc' : tc < tA W := by omega
  have d1 : (r / 8 * tA W + tc) / tA W = r / 8 := by
    rw [Nat.add_comm, Nat.add_mul_div_right _ _ hA, Nat.div_eq_of_lt htc', Nat.zero_add]
  have d2 : (r / 8 * tA W + tc) % tA W = tc := by
    rw [Nat.add_comm, Nat.add_mul_mod_self_right, Nat.mod_eq_of_lt htc']
  have hr8 : r / 8 < tA H := by omega
  have hi : r / 8 * tA W + tc < tN W H := by
    have : (r / 8 + 1) * tA W ≤ tA H * tA W := Nat.mul_le_mul_right _ hr8
    rw [Nat.add_mul, Nat.one_mul] at this
    unfold tN
    rw [Nat.mul_comm (tA W)]
    omega
  have T := tf_of hm _ hi
  generalize r / 8 * tA W + tc = i at *
  have e1 : (i : Int) / ((W + 7) / 8) = ((r / 8 : Nat) : Int) := by rw [← a1, ← Int.natCast_ediv, d1]
  have e2 : (i : Int) % ((W + 7) / 8) = (tc : Int) := by rw [← a1, ← Int.natCast_emod, d2]
  have hw : tileW W i = min 8 (W - (tc : Int) * 8) := by unfold tileW; rw [e2]
  have hh : tileH W H i = min 8 (H - (r / 8 : Nat) * 8) := by unfold tileH; rw [e1]
  have hH := T.hH
  have hB := T.hB
  rw [d2] at hB
  refine ⟨hi, ?_, d1, d2, hB, ?_, ?_, hw, hh⟩
  · rw [hh] at hH; omega
  · have hRt := T.hRt
    have hbt : Bnds (tileW W i) (tileH W H i) C D := (mayR_spec T.may).1
    rw [rowN, if_pos hbt, hw] at hRt
    exact hRt
  · have hR := T.hR
    rw [rowN, if_pos hb] at hR
    exact hR

theorem cover {W H C D : Int} {n : Nat} (hm : mayR W H C D n = true) (p : Nat) (hp : p < n) : ∃ i z, i < tN W H ∧ z < tH W H i ∧ jP W H C D i z ≤ p ∧ p < jP W H C D i z + tRt W H C D i := by
  obtain ⟨hb, hs, hn⟩ := mayR_spec hm
  have T0 := tf_of hm 0 (by have := tN_bd hb; omega)
  have hR := T0.hR
  have hr1 := row_pos hb
  have hR1 : 1 ≤ tR W H C D := by omega
  have hnR : n = tR W H C D * H.toNat := by
    have : (n : Int) = ((tR W H C D * H.toNat : Nat) : Int) := by
      rw [hn, Int.natCast_mul, hR, Int.toNat_of_nonneg (by have := hb.2.2.1; omega)]; rfl
    exact_mod_cast this
  obtain ⟨r, hr⟩ : ∃ r, p / tR W H C D = r := ⟨_, rfl⟩
  obtain ⟨q, hq⟩ : ∃ q, p % tR W H C D = q := ⟨_, rfl⟩
  have hpe : p = r * tR W H C D + q := by rw [← hr, ← hq, Nat.mul_comm, Nat.div_add_mod]
  have hql : q < tR W H C D := by rw [← hq]; exact Nat.mod_lt _ hR1
  have hrl : r < H.toNat := by rw [← hr]; exact Nat.div_lt_of_lt_mul (by rw [← hnR]; exact hp)
  have hW := hb.1; have hC := hb.2.2.2.2.1; have hC4 := hb.2.2.2.2.2.1; have hD := hb.2.2.2.2.2.2
  have hRv : ((tR W H C D : Nat) : Int) = W * C * D / 8 := by rw [hR, rowN, if_pos hb]
  obtain ⟨tc, htc1, htc2⟩ : ∃ tc : Nat, (tc : Int) < (W + 7) / 8 ∧ ((tc : Int) * 8 * C * D / 8 ≤ q ∧ (q : Int) < (tc : Int) * 8 * C * D / 8 + (min 8 (W - (tc : Int) * 8)) * C * D / 8) := by
    rcases (by omega : C = 1 ∨ C = 2 ∨ C = 3 ∨ C = 4) with rfl | rfl | rfl | rfl <;> rcases hD with rfl | rfl
    · exact ⟨q / 8, by omega, by omega, by omega⟩
    · exact ⟨q / 16, by omega, by omega, by omega⟩
    · exact ⟨q / 16, by omega, by omega, by omega⟩
    · exact ⟨q / 32, by omega, by omega, by omega⟩
    · exact ⟨q / 24, by omega, by omega, by omega⟩
    · exact ⟨q / 48, by omega, by omega, by omega⟩
    · exact ⟨q / 32, by omega, by omega, by omega⟩
    · exact ⟨q / 64, by omega, by omega, by omega⟩
  obtain ⟨i1, i2, i3, i4, i5, i6, i7, _, _⟩ := tile_nums hm (r := r) (by omega) htc1
  refine ⟨_, _, i1, i2, ?_⟩
  unfold jP
  rw [i3, show r / 8 * 8 + r % 8 = r by omega]
  omega

theorem jAll_back {W H C D : Int} {n : Nat} {xs : List Int} (hm : mayR W H C D n = true) (hl : xs.length = n) : jAll W H C D (tils W H C D xs (tN W H)) (tN W H) = xs := by
  refine ext_getD (by rw [jAll_len hm hl _ (Nat.le_refl _), hl]) fun p hp => ?_
  rw [jAll_len hm hl _ (Nat.le_refl _)] at hp
  obtain ⟨i, z, hi, hz, hc⟩ := cover hm p hp
  exact jAll_got hm hl p hp i z hz hc _ (Nat.le_refl _) hi

theorem jRes_back {W H C D : Int} {n : Nat} {xs : List Int} (hm : mayR W H C D n = true) (hl : xs.length = n) : jRes W H C D (tils W H C D xs (tN W H)) = (((W, H, C, D), xs), 0) := by
  unfold jRes
  rw [if_pos (mayR_iff' hm), if_pos (tils_len _ _ _ _ _ _), if_pos, tils_len, jAll_back hm hl]
  intro i hi
  rw [tils_len] at hi
  have T := tf_of hm i hi
  rw [tils_getD hi]
  exact ⟨rfl, by dsimp only; rw [tilP_len' T hl]; exact T.may⟩

/-- A pixel lies in its tile. -/
theorem pixel {W H C D : Int} {n : Nat} {xs : List Int} {x y c : Int} (hm : mayR W H C D n = true) (hl : xs.length = n) (hi : InR W H C x y c) :
    ∃ k : Nat, (k : Int) = y / 8 * ((W + 7) / 8) + x / 8 ∧ k < tN W H ∧ InR (tileW W k) (tileH W H k) C (x % 8) (y % 8) c ∧ atNum (tileW W k) (tileH W H k) C D (tilP W H C D xs k) (x % 8) (y % 8) c = atNum W H C D xs x y c := by
  have hb := (mayR_spec hm).1
  obtain ⟨a1, _, _, _, _⟩ := tN_bd hb
  obtain ⟨b1, b2, b3, b4, b5, b6⟩ := hi
  obtain ⟨X, rfl⟩ := Int.eq_ofNat_of_zero_le b1
  obtain ⟨Y, rfl⟩ := Int.eq_ofNat_of_zero_le b3
  obtain ⟨i1, i2, i3, i4, i5, i6, i7, i8, i9⟩ := tile_nums (C := C) (D := D) hm (r := Y) (tc := X / 8) b4 (by omega)
  have T := tf_of hm _ i1
  refine ⟨Y / 8 * tA W + X / 8, by rw [← a1]; simp, i1, ?_, ?_⟩
  · unfold InR
    rw [i8, i9]
    omega
  · generalize Y / 8 * tA W + X / 8 = k at *
    have hbt : Bnds (tileW W k) (tileH W H k) C D := (mayR_spec T.may).1
    have hin : InR (tileW W k) (tileH W H k) C ((X : Int) % 8) ((Y : Int) % 8) c := by unfold InR; rw [i8, i9]; omega
    have q1 := plAt_bd hbt hin
    have q2 := plAt_bd hb (x := X) (y := Y) (c := c) ⟨b1, b2, b3, b4, b5, b6⟩
    have hRt := T.hRt
    have hR := T.hR
    have hD := hb.2.2.2.2.2.2
    obtain ⟨m, hm1, hm2⟩ : ∃ m : Nat, (D / 8).toNat = m ∧ (m : Int) = D / 8 := ⟨_, rfl, by omega⟩
    obtain ⟨s, hs⟩ : ∃ s : Nat, ((X : Int) % 8 * C + c) * D / 8 = s := ⟨(((X : Int) % 8 * C + c) * D / 8).toNat, by omega⟩
    obtain ⟨s2, hs2⟩ : ∃ s : Nat, ((X : Int) * C + c) * D / 8 = s := ⟨(((X : Int) * C + c) * D / 8).toNat, by omega⟩
    have hss : s2 = tB0 W C D k + s := by
      have hC := hb.2.2.2.2.1; have hC4 := hb.2.2.2.2.2.1
      rcases (by omega : C = 1 ∨ C = 2 ∨ C = 3 ∨ C = 4) with rfl | rfl | rfl | rfl <;> rcases hD with rfl | rfl <;> omega
    have p1 : (plAt (tileW W k) (tileH W H k) C D ((X : Int) % 8) ((Y : Int) % 8) c).toNat = Y % 8 * tRt W H C D k + s := by
      unfold plAt
      rw [← hRt, hs]
      have : ((Y : Int) % 8) * (tRt W H C D k : Int) = ((Y % 8 * tRt W H C D k : Nat) : Int) := by simp
      omega
    have p2 : (plAt W H C D X Y c).toNat = Y * tR W H C D + s2 := by
      unfold plAt
      rw [← hR, hs2]
      have : (Y : Int) * (tR W H C D : Int) = ((Y * tR W H C D : Nat) : Int) := by simp
      omega
    unfold atNum
    rw [p1, p2, hm1]
    congr 1
    have hseg := jSeg_tilP T hl i2
    have hfit : s + m ≤ tRt W H C D k := by omega
    have l1 : ((tilP W H C D xs k).drop (Y % 8 * tRt W H C D k + s)).take m = ((jSeg W H C D (tilP W H C D xs k) k (Y % 8)).drop s).take m := by
      unfold jSeg
      rw [List.drop_take, List.take_take, Nat.min_eq_left (by omega), List.drop_drop]
    rw [l1, hseg, List.drop_take, List.take_take, Nat.min_eq_left (by omega), List.drop_drop]
    congr 2
    unfold jP
    rw [i3, show Y / 8 * 8 + Y % 8 = Y by omega]
    omega
end Go.Proofs.Ytdmaoaclhaofbaa
