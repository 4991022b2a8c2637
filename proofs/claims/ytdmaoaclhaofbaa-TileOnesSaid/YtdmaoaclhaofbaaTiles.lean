/-
  Tiles: what they hold; lists of pictures.
-/
import Derived.Test.YtdmaoaclhaofbaaTileRow
import Derived.Test.YtdmaoaclhaofbaaAppendAny
import Derived.Test.YtdmaoaclhaofbaaCopyAt
import Derived.OwnWalk
namespace Go.Proofs.Ytdmaoaclhaofbaa
open Go.RowKit

/-- A row of a tile, all rows of it. -/
def segB (xs : List Int) (R B0 Rt qy y : Nat) : List Int := (xs.drop ((qy * 8 + y) * R + B0)).take Rt
def rowsB (xs : List Int) (R B0 Rt qy : Nat) : Nat → List Int
  | 0 => []
  | y + 1 => rowsB xs R B0 Rt qy y ++ segB xs R B0 Rt qy y
theorem segB_len {xs : List Int} {R B0 Rt qy y : Nat} (h : (qy * 8 + y) * R + B0 + Rt ≤ xs.length) : (segB xs R B0 Rt qy y).length = Rt := by
  unfold segB
  rw [List.length_take, List.length_drop]
  omega
theorem rowsB_len {xs : List Int} {R B0 Rt qy : Nat} : ∀ (k : Nat), (∀ y, y < k → (qy * 8 + y) * R + B0 + Rt ≤ xs.length) → (rowsB xs R B0 Rt qy k).length = k * Rt := by
  intro k
  induction k with
  | zero => intro _; simp [rowsB]
  | succ k ih =>
    intro h
    rw [rowsB, List.length_append, ih (fun y hy => h y (by omega)), segB_len (h k (by omega)), Nat.add_mul, Nat.one_mul]
theorem segB_isB {xs : List Int} (hx : isB xs) (R B0 Rt qy y : Nat) : isB (segB xs R B0 Rt qy y) := fun v hv => hx v (List.mem_of_mem_drop (List.mem_of_mem_take hv))
theorem rowsB_isB {xs : List Int} (hx : isB xs) (R B0 Rt qy : Nat) : ∀ k, isB (rowsB xs R B0 Rt qy k)
  | 0 => isB.nil
  | k + 1 => (rowsB_isB hx R B0 Rt qy k).append (segB_isB hx R B0 Rt qy k)

def tA (W : Int) : Nat := ((W + 7) / 8).toNat
def tN (W H : Int) : Nat := tA W * tA H
def tR (W H C D : Int) : Nat := (rowN W H C D).toNat
def tB0 (W C D : Int) (i : Nat) : Nat := (((i % tA W : Nat) : Int) * 8 * C * D / 8).toNat
def tRt (W H C D : Int) (i : Nat) : Nat := tR (tileW W i) (tileH W H i) C D
def tH (W H : Int) (i : Nat) : Nat := (tileH W H i).toNat
def tilP (W H C D : Int) (xs : List Int) (i : Nat) : List Int := rowsB xs (tR W H C D) (tB0 W C D i) (tRt W H C D i) (i / tA W) (tH W H i)

/-- All that a walk asks of the i-th tile. -/
structure TF (W H C D : Int) (n i : Nat) : Prop where
  hA : ((tA W : Nat) : Int) = (W + 7) / 8
  hi : (i : Int) < (W + 7) / 8 * ((H + 7) / 8)
  hR : ((tR W H C D : Nat) : Int) = rowN W H C D
  hB : ((tB0 W C D i : Nat) : Int) = ((i % tA W : Nat) : Int) * 8 * C * D / 8
  hRt : ((tRt W H C D i : Nat) : Int) = rowN (tileW W i) (tileH W H i) C D
  hH : ((tH W H i : Nat) : Int) = tileH W H i
  may : mayR (tileW W i) (tileH W H i) C D (tH W H i * tRt W H C D i) = true
  fit : ∀ y, y < tH W H i → (i / tA W * 8 + y) * tR W H C D + tB0 W C D i + tRt W H C D i ≤ n
  r1 : 1 ≤ tRt W H C D i
  h1 : 1 ≤ tH W H i
  h8 : tH W H i ≤ 8
  le : tH W H i * tRt W H C D i ≤ 16384

theorem tN_bd {W H C D : Int} (hb : Bnds W H C D) : ((tA W : Nat) : Int) = (W + 7) / 8 ∧ ((tA H : Nat) : Int) = (H + 7) / 8 ∧ ((tN W H : Nat) : Int) = (W + 7) / 8 * ((H + 7) / 8) ∧ 1 ≤ tN W H ∧ tN W H ≤ 1024 := by
  obtain ⟨h1, h2, h3, h4, _⟩ := hb
  have a : ((tA W : Nat) : Int) = (W + 7) / 8 := Int.toNat_of_nonneg (by omega)
  have b : ((tA H : Nat) : Int) = (H + 7) / 8 := Int.toNat_of_nonneg (by omega)
  refine ⟨a, b, by unfold tN; rw [Int.natCast_mul, a, b], ?_, ?_⟩
  · exact Nat.mul_pos (by omega) (by omega)
  · exact Nat.le_trans (Nat.mul_le_mul (show tA W ≤ 32 by omega) (show tA H ≤ 32 by omega)) (by decide)

theorem tf_of {W H C D : Int} {n : Nat} (hm : mayR W H C D n = true) (i : Nat) (hi : i < tN W H) : TF W H C D n i := by
  obtain ⟨hb, hs, hn⟩ := mayR_spec hm
  obtain ⟨a1, a2, a3, _, _⟩ := tN_bd hb
  have hr := row_bd W H C D
  have hR : ((tR W H C D : Nat) : Int) = rowN W H C D := Int.toNat_of_nonneg hr.1
  have hi' : (i : Int) < (W + 7) / 8 * ((H + 7) / 8) := by omega
  have hrt := row_bd (tileW W i) (tileH W H i) C D
  have hRt : ((tRt W H C D i : Nat) : Int) = rowN (tileW W i) (tileH W H i) C D := Int.toNat_of_nonneg hrt.1
  have hC := hb.2.2.2.2.1
  have hD := hb.2.2.2.2.2.2
  have hB : ((tB0 W C D i : Nat) : Int) = ((i % tA W : Nat) : Int) * 8 * C * D / 8 := Int.toNat_of_nonneg (Int.ediv_nonneg (Int.mul_nonneg (Int.mul_nonneg (by omega) (by omega)) (by omega)) (by omega))
  have hq : ((i / tA W : Nat) : Int) < (H + 7) / 8 := by
    rw [Int.natCast_ediv, a1]
    exact Int.ediv_lt_of_lt_mul (by have := hb.1; omega) (by rw [Int.mul_comm]; exact hi')
  have hth : 1 ≤ tileH W H i := by
    unfold tileH
    rw [← a1]
    have e : (i : Int) / (tA W : Int) = ((i / tA W : Nat) : Int) := by simp
    rw [e]
    omega
  have hH : ((tH W H i : Nat) : Int) = tileH W H i := Int.toNat_of_nonneg (by omega)
  have h8 : tileH W H i ≤ 8 := by unfold tileH; omega
  have bd := fun (y : Nat) (hy : (y : Int) < tileH W H i) => tile_bd (y := y) hb a1 hi' hy hR hB hRt
  obtain ⟨_, _, _, _, _, b6, b7, bt⟩ := bd 0 (by omega)
  have e4 : sizeN W H C D = H * rowN W H C D := by unfold sizeN; rw [Int.mul_comm]
  have hfit : ∀ y, y < tH W H i → (i / tA W * 8 + y) * tR W H C D + tB0 W C D i + tRt W H C D i ≤ n := by
    intro y hy
    obtain ⟨_, _, _, _, b5, b6, _, _⟩ := bd y (by omega)
    have e2 : (((i / tA W * 8 + y : Nat) : Int) + 1) * rowN W H C D ≤ H * rowN W H C D := Int.mul_le_mul_of_nonneg_right (by omega) hr.1
    have e5 : (((i / tA W * 8 + y : Nat) : Int) + 1) * rowN W H C D = (((i / tA W * 8 + y) * tR W H C D : Nat) : Int) + tR W H C D := by rw [← hR]; simp [Int.add_mul]
    omega
  have hle : tileH W H i ≤ H := by
    unfold tileH
    have : 0 ≤ (i : Int) / ((W + 7) / 8) := Int.ediv_nonneg (by omega) (by have := hb.1; omega)
    omega
  have hprod : rowN (tileW W i) (tileH W H i) C D * tileH W H i ≤ rowN W H C D * H := Int.mul_le_mul (by omega) hle (by omega) hr.1
  have hsz : ((tH W H i * tRt W H C D i : Nat) : Int) = sizeN (tileW W i) (tileH W H i) C D := by
    unfold sizeN
    rw [Int.natCast_mul, hH, hRt, Int.mul_comm]
  have hs2 : sizeN (tileW W i) (tileH W H i) C D ≤ 16384 := by
    unfold sizeN at hs ⊢
    omega
  refine ⟨a1, hi', hR, hB, hRt, hH, ?_, hfit, by omega, by omega, by omega, by omega⟩
  unfold mayR mayN
  rw [hsz]
  simp [bt, hs2]

/-! lists of pictures -/
abbrev Til := (Int × Int × Int × Int) × List Int
/-- vs has the tiles ts at its front, each with pixels of its own. -/
def HasT (w : World) (base g : Nat) (vs : List Value) (ts : List Til) : Prop :=
  ∀ j, (h : j < ts.length) → ∃ q c, vs[j * 5]? = some (.int .i64 ts[j].1.1) ∧ vs[j * 5 + 1]? = some (.int .i64 ts[j].1.2.1) ∧ vs[j * 5 + 2]? = some (.int .i64 ts[j].1.2.2.1) ∧ vs[j * 5 + 3]? = some (.int .i64 ts[j].1.2.2.2) ∧
    vs[j * 5 + 4]? = some (.slice (some ⟨q, 0, Option.none⟩) ts[j].2.length c) ∧ q ≠ g ∧ w.ownsRow base 5 1 (.slice (some ⟨q, 0, Option.none⟩) ts[j].2.length c) ts[j].2.length (ts[j].2.map (Value.int .u8))
theorem HasT.nil (w : World) (base g : Nat) (vs : List Value) : HasT w base g vs [] := fun j h => by simp at h
theorem HasT.keep {w w' : World} {base g : Nat} {vs vs' : List Value} {ts : List Til} (h : HasT w base g vs ts) (hb : ∀ r, r < w.heap.size → r ≠ g → w'.heap[r]? = w.heap[r]?) (hv : ∀ k, k < ts.length * 5 → vs'[k]? = vs[k]?) : HasT w' base g vs' ts := by
  intro j hj
  obtain ⟨q, c, v0, v1, v2, v3, v4, hq, ho⟩ := h j hj
  refine ⟨q, c, ?_, ?_, ?_, ?_, ?_, hq, owns_keep ho (fun r hr => hb r (ho.lt r hr).2 (by simp [Value.ownBlock] at hr; omega))⟩
  · rw [hv _ (by omega)]; exact v0
  · rw [hv _ (by omega)]; exact v1
  · rw [hv _ (by omega)]; exact v2
  · rw [hv _ (by omega)]; exact v3
  · rw [hv _ (by omega)]; exact v4
theorem HasT.push {w : World} {base g : Nat} {vs : List Value} {ts : List Til} (h : HasT w base g vs ts) (t : Til) (q c : Nat) (v0 : vs[ts.length * 5]? = some (.int .i64 t.1.1)) (v1 : vs[ts.length * 5 + 1]? = some (.int .i64 t.1.2.1)) (v2 : vs[ts.length * 5 + 2]? = some (.int .i64 t.1.2.2.1)) (v3 : vs[ts.length * 5 + 3]? = some (.int .i64 t.1.2.2.2))
    (v4 : vs[ts.length * 5 + 4]? = some (.slice (some ⟨q, 0, Option.none⟩) t.2.length c)) (hq : q ≠ g) (ho : w.ownsRow base 5 1 (.slice (some ⟨q, 0, Option.none⟩) t.2.length c) t.2.length (t.2.map (Value.int .u8))) : HasT w base g vs (ts ++ [t]) := by
  intro j hj
  by_cases e : j < ts.length
  · have := h j e
    simpa [List.getElem_append_left e] using this
  · have e' : j = ts.length := by simp at hj; omega
    subst e'
    simp only [List.getElem_append_right (Nat.le_refl _), Nat.sub_self, List.getElem_cons_zero]
    exact ⟨q, c, v0, v1, v2, v3, v4, hq, ho⟩

theorem step_make_full {P : Program} {w : World} {ops : Array Oper} {o : Oper} {a : Act} {K : Act → World → Prop} {Q : Exit → Act → World → Prop} {E : Prop}
    (hg : o.guard = Option.none) (l c : Operand) (t : TypeId) (hop : o.op = Op.makeSlice t l c)
    (base : Nat) (e : TypeId) (i : TypeInfo) (z : Value) (size : Nat) (h1 : P.underlying t = some (.slice e)) (h2 : P.info? e = some i) (h3 : i.zero = some z) (h4 : i.size = size)
    (kl kc : IntKind) (L C : Int) (n : Nat) (hl : a.eval l = .int kl L) (hc : a.eval c = .int kc C) (hL : L = (n : Int)) (hC : C = (n : Int)) (b2 : i.bytes * n ≤ 281474976710656) (b3 : n ≤ maxLen) (b4 : base ≤ w.heap.size)
    (hK : ∀ w', w'.ownsRow base e size (.slice (some ⟨w.heap.size, 0, Option.none⟩) n n) n (madeCells z.cells (n * size)).toList → w.grownBy w' Option.none → K (a.put o.dst (.slice (some ⟨w.heap.size, 0, Option.none⟩) n n)) w') :
    if Region.wanted o (yielded ops a.tmps) = true then Oper.wp P o a w K Q else E := by
  have hw : Region.wanted o (yielded ops a.tmps) = true := by simp [Region.wanted, hg]
  rw [if_pos hw]
  obtain ⟨w', hrun, r1, r2⟩ := run_make_full (P := P) w base t e i z size h1 h2 h3 h4 kl kc n b2 b3 b4
  subst hL
  subst hC
  unfold Oper.wp
  simp [execOp, hop, hl, hc, hrun, Result.andThen]
  exact hK w' r1 r2

theorem step_copy_reads {P : Program} {w : World} {ops : Array Oper} {o : Oper} {act : Act} {K : Act → World → Prop} {Q : Exit → Act → World → Prop} {E : Prop} (hgd : o.guard = Option.none) (d s : Operand) (t : TypeId)
    (ho : o.op = .call { callee := .builtin .copy, args := #[d, s], argTypes := #[t, t] }) (base : Nat) (e : TypeId) (ht : P.underlying t = some (.slice e)) (hsz : (P.info? e).map (·.size) = some 1)
    (k : IntKind) (g off n cap dLen dCap : Nat) (xs : List Int) (hown : w.ownsRow base e 1 (.slice (some ⟨g, 0, Option.none⟩) n cap) n (xs.map (Value.int k))) (hd : act.eval d = .slice (some ⟨g, off, Option.none⟩) dLen dCap)
    (b : Option Addr) (m c : Nat) (ys : List Int) (hs : act.eval s = .slice b m c) (hr : Reads k w b m c ys) (hm : m ≤ dLen) (hfit : off + m ≤ n) (B : Nat) (w0 : World) (hb : Below B w0 w) (hB : B ≤ base)
    (h : ∀ w', w'.ownsRow base e 1 (.slice (some ⟨g, 0, Option.none⟩) n cap) n ((xs.take off ++ (ys ++ xs.drop (off + m))).map (Value.int k)) → Below B w0 w' → K (act.put o.dst (goInt m)) w') :
    if Region.wanted o (yielded ops act.tmps) = true then Oper.wp P o act w K Q else E := by
  obtain ⟨hl, hq | ⟨g', cap', cur, hq, hbg, hc, hcap, hmax, hcs, htk⟩⟩ := hown
  · exact absurd hq.1 (by simp)
  obtain ⟨rfl, rfl⟩ : g' = g ∧ cap' = cap := by simpa [eq_comm] using hq
  have hlen : ys.length = m := hr.len
  have hxl : xs.length = n := by simpa using hl
  have hcl : n ≤ cur.toList.length := by simp; omega
  refine step_copy_splice hgd d s t t ho e ht hsz (some ⟨g', off, Option.none⟩) b dLen dCap m c hd hs g' off cur.toList e hc (ys.map (Value.int k)) (by rw [List.length_map, hlen]; exact (Nat.min_eq_left hm).symm) (fun hp => ⟨rfl, ?_⟩) (by simp [hlen] at hcl ⊢; omega) (by simp [Value.oneCell']) B w0 hb (by omega) fun w' hH hb' => ?_
  · obtain ⟨b1, o1, rfl, hlt, hcell⟩ := hr.cells (by simpa [hlen] using hp)
    refine ⟨_, rfl, fun j v hv => ?_⟩
    have hj : j < ys.length := by
      have := (List.getElem?_eq_some_iff.1 hv).1; simpa using this
    rw [List.getElem?_map, List.getElem?_eq_getElem hj] at hv
    have := hcell j (by omega)
    simp at hv
    subst hv
    rw [Addr.add_mid]
    simpa [List.getD, List.getElem?_eq_getElem hj] using this
  · rw [List.length_map, hlen]
    refine h w' ⟨by simp [hlen, hxl]; omega, .inr ⟨g', cap', _, rfl, hbg, hH.out, hcap, hmax, ?_, ?_⟩⟩ hb'
    · have : (splice cur.toList off (ys.map (Value.int k))).length = cur.toList.length := length_splice _ _ _ (by simp [hlen] at hcl ⊢; omega)
      simpa using this.trans (by simpa using hcs)
    · have hx : xs.map (Value.int k) = cur.toList.take n := by simpa using htk.symm
      simp only [List.map_append, List.map_take, List.map_drop, hx]
      rw [Nat.mul_one]
      exact take_splice _ _ _ _ (by simp [hlen]; omega) hcl (by simp [hlen])

theorem infoR : (Try.prog.info? 26).map (fun i => (i.zero, i.size, i.bytes)) = some (some (.agg #[.int .i64 0, .int .i64 0, .int .i64 0, .int .i64 0, .slice Option.none 0 0]), 5, 56) := by kernel_rfl
theorem infoC : (Try.prog.info? 5).map (fun i => (i.zero, i.size, i.bytes)) = some (some (.int .u8 0), 1, 1) := by kernel_rfl
end Go.Proofs.Ytdmaoaclhaofbaa
