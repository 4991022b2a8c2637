/-
  What Join answers: tiles laid into a picture. A list of pictures as it reads.
-/
import Derived.Test.YtdmaoaclhaofbaaTileRasters
import Derived.Test.YtdmaoaclhaofbaaTileShapeAny
import Derived.Test.YtdmaoaclhaofbaaGrowTail
import Derived.Test.YtdmaoaclhaofbaaCopyRow
namespace Go.Proofs.Ytdmaoaclhaofbaa
open Go.RowKit

def jP (W H C D : Int) (i y : Nat) : Nat := (i / tA W * 8 + y) * tR W H C D + tB0 W C D i
def jSeg (W H C D : Int) (t : List Int) (i y : Nat) : List Int := (t.drop (y * tRt W H C D i)).take (tRt W H C D i)
def jRow (W H C D : Int) (t out : List Int) (i y : Nat) : List Int := out.take (jP W H C D i y) ++ (jSeg W H C D t i y ++ out.drop (jP W H C D i y + tRt W H C D i))
def jRows (W H C D : Int) (t out : List Int) (i : Nat) : Nat → List Int
  | 0 => out
  | y + 1 => jRow W H C D t (jRows W H C D t out i y) i y
def jAll (W H C D : Int) (ts : List Til) : Nat → List Int
  | 0 => List.replicate (sizeN W H C D).toNat 0
  | i + 1 => jRows W H C D (ts.getD i ((0, 0, 0, 0), [])).2 (jAll W H C D ts i) i (tH W H i)
/-- Is it the i-th tile of such a picture? -/
def jOk (W H C D : Int) (t : Til) (i : Nat) : Prop := t.1 = (tileW W i, tileH W H i, C, D) ∧ mayR (tileW W i) (tileH W H i) C D t.2.length = true
instance (W H C D : Int) (t : Til) (i : Nat) : Decidable (jOk W H C D t i) := by unfold jOk; infer_instance
/-- What Join answers. -/
def jRes (W H C D : Int) (ts : List Til) : ((Int × Int × Int × Int) × List Int) × Int :=
  if mayN W H C D = true then
    if ts.length = tN W H then
      if ∀ i, i < ts.length → jOk W H C D (ts.getD i ((0, 0, 0, 0), [])) i then (((W, H, C, D), jAll W H C D ts ts.length), 0) else (((0, 0, 0, 0), []), 13)
    else (((0, 0, 0, 0), []), 1)
  else (((0, 0, 0, 0), []), 4)

/-- A list of pictures that reads as ts. -/
structure RL (w : World) (b off n cap : Nat) (ts : List Til) : Prop where
  len : ts.length = n
  le : n ≤ cap
  lt : 0 < n → b < w.heap.size
  at_ : ∀ j, j < n → ∃ p c, w.cell? ⟨b, off + j * 5, Option.none⟩ = some (.int .i64 (ts.getD j ((0, 0, 0, 0), [])).1.1) ∧ w.cell? ⟨b, off + j * 5 + 1, Option.none⟩ = some (.int .i64 (ts.getD j ((0, 0, 0, 0), [])).1.2.1) ∧ w.cell? ⟨b, off + j * 5 + 2, Option.none⟩ = some (.int .i64 (ts.getD j ((0, 0, 0, 0), [])).1.2.2.1) ∧
    w.cell? ⟨b, off + j * 5 + 3, Option.none⟩ = some (.int .i64 (ts.getD j ((0, 0, 0, 0), [])).1.2.2.2) ∧ w.cell? ⟨b, off + j * 5 + 4, Option.none⟩ = some (.slice p (ts.getD j ((0, 0, 0, 0), [])).2.length c) ∧
    Reads .u8 w p (ts.getD j ((0, 0, 0, 0), [])).2.length c (ts.getD j ((0, 0, 0, 0), [])).2 ∧ isB (ts.getD j ((0, 0, 0, 0), [])).2 ∧ -9223372036854775808 ≤ (ts.getD j ((0, 0, 0, 0), [])).1.2.1 ∧ (ts.getD j ((0, 0, 0, 0), [])).1.2.1 ≤ 9223372036854775807
theorem RL.below {w w' : World} {b off n cap : Nat} {ts : List Til} (h : RL w b off n cap ts) (hb : Below w.heap.size w w') : RL w' b off n cap ts := by
  refine ⟨h.len, h.le, fun hn => Nat.lt_of_lt_of_le (h.lt hn) hb.size, fun j hj => ?_⟩
  obtain ⟨p, c, v0, v1, v2, v3, v4, hr, hx⟩ := h.at_ j hj
  have hl := h.lt (by omega)
  exact ⟨p, c, (hb.cell (p := ⟨b, _, Option.none⟩) hl).trans v0, (hb.cell (p := ⟨b, _, Option.none⟩) hl).trans v1, (hb.cell (p := ⟨b, _, Option.none⟩) hl).trans v2, (hb.cell (p := ⟨b, _, Option.none⟩) hl).trans v3, (hb.cell (p := ⟨b, _, Option.none⟩) hl).trans v4, hr.below hb, hx⟩

theorem RL.lift {w w' : World} {b off n cap : Nat} {ts : List Til} (h : RL w b off n cap ts) (hb : Below w.heap.size w w') (j : Nat) (hj : j < n) : ∃ p c, w'.cell? ⟨b, off + j * 5, Option.none⟩ = some (.int .i64 (ts.getD j ((0, 0, 0, 0), [])).1.1) ∧ w'.cell? ⟨b, off + j * 5 + 1, Option.none⟩ = some (.int .i64 (ts.getD j ((0, 0, 0, 0), [])).1.2.1) ∧ w'.cell? ⟨b, off + j * 5 + 2, Option.none⟩ = some (.int .i64 (ts.getD j ((0, 0, 0, 0), [])).1.2.2.1) ∧
    w'.cell? ⟨b, off + j * 5 + 3, Option.none⟩ = some (.int .i64 (ts.getD j ((0, 0, 0, 0), [])).1.2.2.2) ∧ w'.cell? ⟨b, off + j * 5 + 4, Option.none⟩ = some (.slice p (ts.getD j ((0, 0, 0, 0), [])).2.length c) ∧
    Reads .u8 w p (ts.getD j ((0, 0, 0, 0), [])).2.length c (ts.getD j ((0, 0, 0, 0), [])).2 ∧ isB (ts.getD j ((0, 0, 0, 0), [])).2 ∧ -9223372036854775808 ≤ (ts.getD j ((0, 0, 0, 0), [])).1.2.1 ∧ (ts.getD j ((0, 0, 0, 0), [])).1.2.1 ≤ 9223372036854775807 := by
  obtain ⟨p, c, v0, v1, v2, v3, v4, hr, hx⟩ := h.at_ j hj
  have hl := h.lt (by omega)
  exact ⟨p, c, (hb.cell (p := ⟨b, _, Option.none⟩) hl).trans v0, (hb.cell (p := ⟨b, _, Option.none⟩) hl).trans v1, (hb.cell (p := ⟨b, _, Option.none⟩) hl).trans v2, (hb.cell (p := ⟨b, _, Option.none⟩) hl).trans v3, (hb.cell (p := ⟨b, _, Option.none⟩) hl).trans v4, hr, hx⟩

/-- A picture's five cells. -/
structure EL (w : World) (b o : Nat) (W H C D : Int) (p : Option Addr) (m c : Nat) : Prop where
  lt : b < w.heap.size
  c0 : w.cell? ⟨b, o, Option.none⟩ = some (.int .i64 W)
  c1 : w.cell? ⟨b, o + 1, Option.none⟩ = some (.int .i64 H)
  c2 : w.cell? ⟨b, o + 2, Option.none⟩ = some (.int .i64 C)
  c3 : w.cell? ⟨b, o + 3, Option.none⟩ = some (.int .i64 D)
  c4 : w.cell? ⟨b, o + 4, Option.none⟩ = some (.slice p m c)
theorem EL.below {w w' : World} {b o : Nat} {W H C D : Int} {p : Option Addr} {m c : Nat} (h : EL w b o W H C D p m c) (hb : Below w.heap.size w w') : EL w' b o W H C D p m c :=
  ⟨Nat.lt_of_lt_of_le h.lt hb.size, (hb.cell (p := ⟨b, _, Option.none⟩) h.lt).trans h.c0, (hb.cell (p := ⟨b, _, Option.none⟩) h.lt).trans h.c1, (hb.cell (p := ⟨b, _, Option.none⟩) h.lt).trans h.c2, (hb.cell (p := ⟨b, _, Option.none⟩) h.lt).trans h.c3, (hb.cell (p := ⟨b, _, Option.none⟩) h.lt).trans h.c4⟩
theorem RL.el {w : World} {b off n cap : Nat} {ts : List Til} (h : RL w b off n cap ts) (j : Nat) (hj : j < n) {W H C D : Int} {xs : List Int} (ht : ts.getD j ((0, 0, 0, 0), []) = ((W, H, C, D), xs)) :
    ∃ p c, EL w b (off + j * 5) W H C D p xs.length c ∧ Reads .u8 w p xs.length c xs ∧ isB xs ∧ -9223372036854775808 ≤ H ∧ H ≤ 9223372036854775807 := by
  obtain ⟨p, c, v0, v1, v2, v3, v4, hr, hx⟩ := h.at_ j hj
  rw [ht] at v0 v1 v2 v3 v4 hr hx
  exact ⟨p, c, ⟨h.lt (by omega), v0, v1, v2, v3, v4⟩, hr, hx⟩

theorem jSeg_len {W H C D : Int} {t : List Int} {i y : Nat} (hy : y < tH W H i) (hl : t.length = tH W H i * tRt W H C D i) : (jSeg W H C D t i y).length = tRt W H C D i := by
  unfold jSeg
  rw [List.length_take, List.length_drop, hl]
  have : (y + 1) * tRt W H C D i ≤ tH W H i * tRt W H C D i := Nat.mul_le_mul_right _ hy
  rw [Nat.add_mul, Nat.one_mul] at this
  omega
theorem jRow_len {W H C D : Int} {t out : List Int} {n i y : Nat} (T : TF W H C D n i) (hy : y < tH W H i) (hl : t.length = tH W H i * tRt W H C D i) (ho : out.length = n) : (jRow W H C D t out i y).length = n := by
  have := T.fit y hy
  unfold jRow
  rw [List.length_append, List.length_append, List.length_take, List.length_drop, jSeg_len hy hl]
  unfold jP
  omega
theorem jRow_isB {W H C D : Int} {t out : List Int} {i y : Nat} (ht : isB t) (ho : isB out) : isB (jRow W H C D t out i y) :=
  (ho.take _).append (((ht.drop _).take _).append (ho.drop _))
theorem jRows_len {W H C D : Int} {t out : List Int} {n i : Nat} (T : TF W H C D n i) (hl : t.length = tH W H i * tRt W H C D i) (ho : out.length = n) : ∀ y, y ≤ tH W H i → (jRows W H C D t out i y).length = n
  | 0, _ => ho
  | y + 1, h => jRow_len T (by omega) hl (jRows_len T hl ho y (by omega))
theorem jRows_isB {W H C D : Int} {t out : List Int} {i : Nat} (ht : isB t) (ho : isB out) : ∀ y, isB (jRows W H C D t out i y)
  | 0 => ho
  | y + 1 => jRow_isB ht (jRows_isB ht ho y)
theorem mayR_len {W H C D : Int} {n : Nat} (h : mayR W H C D n = true) : n = (sizeN W H C D).toNat := by have := (mayR_spec h).2.2; omega
theorem jOk_len {W H C D : Int} {t : Til} {n i : Nat} (T : TF W H C D n i) (h : jOk W H C D t i) : t.2.length = tH W H i * tRt W H C D i := by rw [mayR_len h.2, mayR_len T.may]
end Go.Proofs.Ytdmaoaclhaofbaa
