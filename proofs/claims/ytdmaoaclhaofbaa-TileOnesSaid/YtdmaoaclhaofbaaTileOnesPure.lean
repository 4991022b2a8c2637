/-
  Two pictures of one shape: where they differ; one tile taken from the other.
-/
import Derived.Test.YtdmaoaclhaofbaaTileWalkBack
namespace Go.Proofs.Ytdmaoaclhaofbaa
open Go.RowKit

/-- In which tile does a byte lie? -/
def ownT (W H C D : Int) (p : Nat) : Nat := p / tR W H C D / 8 * tA W + p % tR W H C D / (C * D).toNat

theorem ownT_seg {W H C D : Int} {n i y s : Nat} (hm : mayR W H C D n = true) (hi : i < tN W H) (hy : y < tH W H i) (hs : s < tRt W H C D i) : ownT W H C D (jP W H C D i y + s) = i := by
  have T := tf_of hm i hi
  have hb := (mayR_spec hm).1
  obtain ⟨a1, _, _, _, _⟩ := tN_bd hb
  obtain ⟨t1, t2, t3, t4, t5, t6, t7, t8⟩ := tile_bd hb a1 T.hi (y := y) (by rw [← T.hH]; omega) T.hR T.hB T.hRt
  have h8 := T.h8
  have hRt := T.hRt
  have hB := T.hB
  rw [rowN, if_pos t8] at hRt
  have hw : tileW W i ≤ 8 := by unfold tileW; omega
  have e : jP W H C D i y + s = (tB0 W C D i + s) + (i / tA W * 8 + y) * tR W H C D := by unfold jP; omega
  have hR : 0 < tR W H C D := by omega
  have hlt : tB0 W C D i + s < tR W H C D := by omega
  have d1 : (jP W H C D i y + s) / tR W H C D = i / tA W * 8 + y := by rw [e, Nat.add_mul_div_right _ _ hR, Nat.div_eq_of_lt hlt, Nat.zero_add]
  have d2 : (jP W H C D i y + s) % tR W H C D = tB0 W C D i + s := by rw [e, Nat.add_mul_mod_self_right, Nat.mod_eq_of_lt hlt]
  unfold ownT
  rw [d1, d2]
  have d3 : (i / tA W * 8 + y) / 8 = i / tA W := by omega
  have d4 : (tB0 W C D i + s) / (C * D).toNat = i % tA W := by
    have hC := hb.2.2.2.2.1; have hC4 := hb.2.2.2.2.2.1; have hD := hb.2.2.2.2.2.2
    generalize i % tA W = qx at *
    have hs' : (s : Int) < tileW W i * C * D / 8 := by omega
    generalize tileW W i = tw at *
    generalize tB0 W C D i = B0 at *
    clear d1 d2 d3 e hlt hR hRt T t1 t2 t3 t4 t5 t6 t7 t8 a1 hb hs hm hy h8 hi
    obtain ⟨u, hu⟩ : ∃ u, (C * D).toNat = u := ⟨_, rfl⟩
    rw [hu]
    rcases (by omega : C = 1 ∨ C = 2 ∨ C = 3 ∨ C = 4) with rfl | rfl | rfl | rfl <;> rcases hD with rfl | rfl <;> simp at hu <;> subst hu <;> omega
  rw [d3, d4, Nat.mul_comm, Nat.div_add_mod]

theorem seg_congr {W H C D : Int} {n i : Nat} {xs ys : List Int} (hm : mayR W H C D n = true) (hx : xs.length = n) (hy : ys.length = n) (hi : i < tN W H) (h : ∀ p, p < n → ownT W H C D p = i → xs.getD p 0 = ys.getD p 0) (y : Nat) (hyl : y < tH W H i) :
    segB xs (tR W H C D) (tB0 W C D i) (tRt W H C D i) (i / tA W) y = segB ys (tR W H C D) (tB0 W C D i) (tRt W H C D i) (i / tA W) y := by
  have T := tf_of hm i hi
  have hf := T.fit y hyl
  have l1 := segB_len (xs := xs) (by rw [hx]; exact hf)
  have l2 := segB_len (xs := ys) (by rw [hy]; exact hf)
  refine ext_getD (by rw [l1, l2]) fun s hs => ?_
  rw [l1] at hs
  have key : ∀ (zs : List Int), (segB zs (tR W H C D) (tB0 W C D i) (tRt W H C D i) (i / tA W) y).getD s 0 = zs.getD (jP W H C D i y + s) 0 := by
    intro zs
    unfold segB jP
    simp only [List.getD]
    rw [List.getElem?_take_of_lt hs, List.getElem?_drop]
  rw [key, key]
  refine h _ ?_ (ownT_seg hm hi hyl hs)
  unfold jP
  omega
theorem rowsB_congr {xs ys : List Int} {R B0 Rt qy : Nat} : ∀ k, (∀ y, y < k → segB xs R B0 Rt qy y = segB ys R B0 Rt qy y) → rowsB xs R B0 Rt qy k = rowsB ys R B0 Rt qy k
  | 0, _ => rfl
  | k + 1, h => by rw [rowsB, rowsB, rowsB_congr k (fun y hy => h y (by omega)), h k (by omega)]
theorem tilP_congr {W H C D : Int} {n i : Nat} {xs ys : List Int} (hm : mayR W H C D n = true) (hx : xs.length = n) (hy : ys.length = n) (hi : i < tN W H) (h : ∀ p, p < n → ownT W H C D p = i → xs.getD p 0 = ys.getD p 0) : tilP W H C D xs i = tilP W H C D ys i :=
  rowsB_congr _ (seg_congr hm hx hy hi h)

/-- xs with one tile of ys. -/
def mixT (W H C D : Int) (xs ys : List Int) (at_ : Nat) : List Int := (List.range xs.length).map fun p => if ownT W H C D p = at_ then ys.getD p 0 else xs.getD p 0
theorem mixT_len (W H C D : Int) (xs ys : List Int) (k : Nat) : (mixT W H C D xs ys k).length = xs.length := by simp [mixT]
theorem mixT_isB {W H C D : Int} {xs ys : List Int} {k : Nat} (hx : isB xs) (hy : isB ys) (hl : ys.length = xs.length) : isB (mixT W H C D xs ys k) := by
  intro v hv
  simp only [mixT, List.mem_map, List.mem_range] at hv
  obtain ⟨p, hp, rfl⟩ := hv
  split
  · exact hy.get p (by omega)
  · exact hx.get p hp
theorem mixT_tile {W H C D : Int} {n i k : Nat} {xs ys : List Int} (hm : mayR W H C D n = true) (hx : xs.length = n) (hy : ys.length = n) (hi : i < tN W H) : tilP W H C D (mixT W H C D xs ys k) i = if i = k then tilP W H C D ys i else tilP W H C D xs i := by
  have hml : (mixT W H C D xs ys k).length = n := by rw [mixT_len, hx]
  split
  · next e =>
    refine tilP_congr hm hml hy hi fun p hp ho => ?_
    unfold mixT
    rw [getD_map_range, if_pos (by omega), if_pos (by rw [ho, e])]
  · next e =>
    refine tilP_congr hm hml hx hi fun p hp ho => ?_
    unfold mixT
    rw [getD_map_range, if_pos (by omega), if_neg (by rw [ho]; exact e)]
theorem mixT_tils {W H C D : Int} {n k : Nat} {xs ys : List Int} (hm : mayR W H C D n = true) (hx : xs.length = n) (hy : ys.length = n) (hk : k < tN W H) :
    tils W H C D (mixT W H C D xs ys k) (tN W H) = (tils W H C D xs (tN W H)).set k ((tileW W k, tileH W H k, C, D), tilP W H C D ys k) := by
  apply List.ext_getElem
  · simp [tils]
  · intro i h1 h2
    have hi : i < tN W H := by simpa [tils] using h1
    rw [List.getElem_set]
    have e1 : (tils W H C D (mixT W H C D xs ys k) (tN W H))[i] = ((tileW W i, tileH W H i, C, D), tilP W H C D (mixT W H C D xs ys k) i) := by simp [tils]
    have e2 : (tils W H C D xs (tN W H))[i]'(by simpa [tils] using hi) = ((tileW W i, tileH W H i, C, D), tilP W H C D xs i) := by simp [tils]
    rw [e1, mixT_tile hm hx hy hi]
    by_cases e : k = i
    · subst e; simp
    · rw [if_neg e, if_neg (fun h => e h.symm), e2]

def cntT (f : Nat → Bool) : Nat → Nat
  | 0 => 0
  | k + 1 => cntT f k + if f k then 1 else 0
theorem cntT_le (f : Nat → Bool) : ∀ k, cntT f k ≤ k
  | 0 => Nat.le_refl _
  | k + 1 => by have := cntT_le f k; rw [cntT]; split <;> omega
theorem cntT_zero {f : Nat → Bool} : ∀ {k}, cntT f k = 0 ↔ ∀ i, i < k → f i = false
  | 0 => ⟨fun _ i hi => by omega, fun _ => rfl⟩
  | k + 1 => by
    rw [cntT]
    constructor
    · intro h i hi
      by_cases e : i = k
      · subst e; cases hf : f i with
        | false => rfl
        | true => rw [hf] at h; simp at h
      · have hz : cntT f k = 0 := by omega
        exact cntT_zero.1 hz i (by omega)
    · intro h
      rw [cntT_zero.2 (fun i hi => h i (by omega)), h k (by omega)]
      simp
theorem cntT_one {f g : Nat → Bool} {j : Nat} : ∀ {k}, j < k → f j = true → g j = false → (∀ i, i < k → i ≠ j → g i = f i) → cntT f k = cntT g k + 1
  | 0, h, _, _, _ => by omega
  | k + 1, hj, hf, hg, h => by
    rw [cntT, cntT]
    by_cases e : j = k
    · subst e
      have : ∀ m, m ≤ j → cntT f m = cntT g m := by
        intro m
        induction m with
        | zero => intro _; rfl
        | succ m ih => intro hm; rw [cntT, cntT, ih (by omega), h m (by omega) (by omega)]
      rw [this j (Nat.le_refl _), hf, hg]
      simp
    · rw [cntT_one (k := k) (by omega) hf hg (fun i hi hne => h i (by omega) hne), h k (by omega) (by omega)]
      omega

/-- Which tiles differ? -/
def difT (W H C D : Int) (xs ys : List Int) (i : Nat) : Bool := decide (tilP W H C D xs i ≠ tilP W H C D ys i)
theorem dif_none {W H C D : Int} {n : Nat} {xs ys : List Int} (hm : mayR W H C D n = true) (hx : xs.length = n) (hy : ys.length = n) : cntT (difT W H C D xs ys) (tN W H) = 0 ↔ xs = ys := by
  rw [cntT_zero]
  constructor
  · intro h
    have e : tils W H C D xs (tN W H) = tils W H C D ys (tN W H) := by
      unfold tils
      refine List.map_congr_left fun i hi => ?_
      have := h i (List.mem_range.1 hi)
      simp only [difT, ne_eq, decide_eq_false_iff_not, Classical.not_not] at this
      rw [this]
    rw [← jAll_back hm hx, ← jAll_back hm hy, e]
  · rintro rfl i _
    simp [difT]
theorem dif_mix {W H C D : Int} {n k : Nat} {xs ys : List Int} (hm : mayR W H C D n = true) (hx : xs.length = n) (hy : ys.length = n) (hk : k < tN W H) (hd : difT W H C D xs ys k = true) :
    cntT (difT W H C D xs ys) (tN W H) = cntT (difT W H C D (mixT W H C D xs ys k) ys) (tN W H) + 1 := by
  refine cntT_one hk hd ?_ (fun i hi hne => ?_)
  · simp [difT, mixT_tile hm hx hy hk]
  · simp [difT, mixT_tile hm hx hy hi, hne]

/-! lists -/
theorem lay5_far (vs : List Value) (k : Nat) (u0 u1 u2 u3 u4 : Value) (j : Nat) (h : j < k ∨ k + 5 ≤ j) : (lay5 vs k u0 u1 u2 u3 u4)[j]? = vs[j]? := by
  unfold lay5
  simp only [List.getElem?_set]
  rw [if_neg (by omega), if_neg (by omega), if_neg (by omega), if_neg (by omega), if_neg (by omega)]
abbrev set5 (w : World) (g o : Nat) (u0 u1 u2 u3 u4 : Value) : World := ((((w.setCell ⟨g, o, Option.none⟩ u0).setCell ⟨g, o + 1, Option.none⟩ u1).setCell ⟨g, o + 2, Option.none⟩ u2).setCell ⟨g, o + 3, Option.none⟩ u3).setCell ⟨g, o + 4, Option.none⟩ u4
theorem set5_heap (w : World) (g o : Nat) (u0 u1 u2 u3 u4 : Value) (r : Nat) (hr : r ≠ g) : (set5 w g o u0 u1 u2 u3 u4).heap[r]? = w.heap[r]? := by
  unfold set5
  rw [Below.heap_setCell _ _ _ r hr, Below.heap_setCell _ _ _ r hr, Below.heap_setCell _ _ _ r hr, Below.heap_setCell _ _ _ r hr, Below.heap_setCell _ _ _ r hr]
theorem LRas.set {w : World} {base g n cap : Nat} {ts : List Til} (h : LRas w base g n cap ts) (hl : ts.length = n) (j : Nat) (hj : j < n) (t : Til) (q c : Nat) (hq : q ≠ g) (hoq : w.ownsRow base 5 1 (.slice (some ⟨q, 0, Option.none⟩) t.2.length c) t.2.length (t.2.map (Value.int .u8))) :
    LRas (set5 w g (j * 5) (.int .i64 t.1.1) (.int .i64 t.1.2.1) (.int .i64 t.1.2.2.1) (.int .i64 t.1.2.2.2) (.slice (some ⟨q, 0, Option.none⟩) t.2.length c)) base g n cap (ts.set j t) := by
  obtain ⟨vs, ho, ht⟩ := h
  have hvl : vs.length = n * 5 := ho.1
  refine ⟨lay5 vs (j * 5) (.int .i64 t.1.1) (.int .i64 t.1.2.1) (.int .i64 t.1.2.2.1) (.int .i64 t.1.2.2.2) (.slice (some ⟨q, 0, Option.none⟩) t.2.length c), ((((((ho.stored (j * 5) _).1.stored (j * 5 + 1) _).1.stored (j * 5 + 2) _).1.stored (j * 5 + 3) _).1.stored (j * 5 + 4) _).1), ?_⟩
  intro i hi
  have hi' : i < ts.length := by simpa using hi
  by_cases e : j = i
  · subst e
    obtain ⟨n0, n1, n2, n3, n4⟩ := lay5_new vs (j * 5) (.int .i64 t.1.1) (.int .i64 t.1.2.1) (.int .i64 t.1.2.2.1) (.int .i64 t.1.2.2.2) (.slice (some ⟨q, 0, Option.none⟩) t.2.length c) (by omega)
    simp only [List.getElem_set_self]
    exact ⟨q, c, n0, n1, n2, n3, n4, hq, owns_keep hoq (fun r hr => set5_heap _ _ _ _ _ _ _ _ r (by simp [Value.ownBlock] at hr; omega))⟩
  · obtain ⟨q', c', v0, v1, v2, v3, v4, hq', hp⟩ := ht i hi'
    simp only [List.getElem_set_ne e]
    have far := fun (d : Nat) (hd : d < 5) => lay5_far vs (j * 5) (.int .i64 t.1.1) (.int .i64 t.1.2.1) (.int .i64 t.1.2.2.1) (.int .i64 t.1.2.2.2) (.slice (some ⟨q, 0, Option.none⟩) t.2.length c) (i * 5 + d) (by omega)
    refine ⟨q', c', (far 0 (by omega)).trans v0, (far 1 (by omega)).trans v1, (far 2 (by omega)).trans v2, (far 3 (by omega)).trans v3, (far 4 (by omega)).trans v4, hq', owns_keep hp (fun r hr => set5_heap _ _ _ _ _ _ _ _ r (by simp [Value.ownBlock] at hr; omega))⟩
theorem LRas.far {w w' : World} {base g n cap : Nat} {ts : List Til} (h : LRas w base g n cap ts) (gx : Nat) (hx : gx < base) (hw : ∀ r, r ≠ gx → w'.heap[r]? = w.heap[r]?) : LRas w' base g n cap ts := by
  obtain ⟨vs, ho, ht⟩ := h
  refine ⟨vs, owns_keep ho (fun r hr => hw r (by have := (ho.lt r hr).1; omega)), fun j hj => ?_⟩
  obtain ⟨q, c, v0, v1, v2, v3, v4, hq, hp⟩ := ht j hj
  exact ⟨q, c, v0, v1, v2, v3, v4, hq, owns_keep hp (fun r hr => hw r (by have := (hp.lt r hr).1; omega))⟩
theorem LRas.rl {w : World} {base g n cap : Nat} {ts : List Til} (h : LRas w base g n cap ts) (hl : ts.length = n) (hB : ∀ t ∈ ts, isB t.2) (hH : ∀ t ∈ ts, -9223372036854775808 ≤ t.1.2.1 ∧ t.1.2.1 ≤ 9223372036854775807) : RL w g 0 n cap ts := by
  obtain ⟨vs, ho, ht⟩ := h
  exact rl_of ho ht hl hB hH
/-- An element of a list of the call's own: its pixels' row. -/
theorem LRas.row {w : World} {base g n cap : Nat} {ts : List Til} (h : LRas w base g n cap ts) (hl : ts.length = n) (j : Nat) (hj : j < n) {W H C D : Int} {xs : List Int} (ht : ts.getD j ((0, 0, 0, 0), []) = ((W, H, C, D), xs)) :
    ∃ q c, g < w.heap.size ∧ EL w g (j * 5) W H C D (some ⟨q, 0, Option.none⟩) xs.length c ∧ base ≤ q ∧ base ≤ g ∧ w.ownsRow base 5 1 (.slice (some ⟨q, 0, Option.none⟩) xs.length c) xs.length (xs.map (Value.int .u8)) ∧ ∀ i, w.frozen? ⟨g, i, Option.none⟩ = false := by
  obtain ⟨vs, ho, hh⟩ := h
  have hj' : j < ts.length := by omega
  obtain ⟨q, c, v0, v1, v2, v3, v4, _, hp⟩ := hh j hj'
  have e : ts[j] = ((W, H, C, D), xs) := by rw [← ht]; simp [List.getD, hj']
  rw [e] at v0 v1 v2 v3 v4 hp
  have cell := fun (i : Nat) (v : Value) (hv : vs[i]? = some v) => (ho.cellAt i (by have := (List.getElem?_eq_some_iff.1 hv).1; rw [ho.1] at this; omega)).trans hv
  exact ⟨q, c, (ho.lt g rfl).2, ⟨(ho.lt g rfl).2, cell _ _ v0, cell _ _ v1, cell _ _ v2, cell _ _ v3, cell _ _ v4⟩, (hp.lt q rfl).1, (ho.lt g rfl).1, hp, fun i => ho.frozenAt i⟩
end Go.Proofs.Ytdmaoaclhaofbaa
