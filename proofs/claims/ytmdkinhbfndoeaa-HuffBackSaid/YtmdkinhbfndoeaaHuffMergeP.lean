/-
  Lists of items and packages: how they are merged (pure), and how they lie.
-/
import Derived.Test.YtmdkinhbfndoeaaHuffSort
import Derived.Test.YtmdkinhbfndoeaaAppendAny
namespace Go.Proofs.Ytmdkinhbfndoeaa
open Go.RowKit

abbrev Mem := Int × Bool
def single (x : Int × Int) : Mem := (x.1, false)
/-- The items that are no heavier go ahead of a package. -/
def mergeP : List (Int × Int) → List Mem → List Mem
  | its, m1 :: m2 :: ms => (its.takeWhile fun x => decide (x.1 ≤ m1.1 + m2.1)).map single ++ (m1.1 + m2.1, true) :: mergeP (its.dropWhile fun x => decide (x.1 ≤ m1.1 + m2.1)) ms
  | its, _ => its.map single
def flatM : List Mem → List Value
  | [] => []
  | m :: ms => .int .i64 m.1 :: .bool m.2 :: flatM ms
theorem flatM_append (xs ys : List Mem) : flatM (xs ++ ys) = flatM xs ++ flatM ys := by
  induction xs with
  | nil => rfl
  | cons x xs ih => simp [flatM, ih]
theorem flatM_len (xs : List Mem) : (flatM xs).length = xs.length * 2 := by
  induction xs with
  | nil => rfl
  | cons x xs ih => simp [flatM, ih]; omega
theorem flatM_get (ms : List Mem) (i : Nat) (h : i < ms.length) : (flatM ms)[i * 2]? = some (.int .i64 (ms.getD i (0, false)).1) ∧ (flatM ms)[i * 2 + 1]? = some (.bool (ms.getD i (0, false)).2) := by
  induction ms generalizing i with
  | nil => simp at h
  | cons d ds ih =>
    cases i with
    | zero => simp [flatM]
    | succ i =>
      have := ih i (by simpa using h)
      rw [show (i + 1) * 2 = i * 2 + 2 by omega, List.getD_cons_succ]
      simpa [flatM] using this
/-- Members lie in block g. -/
structure MemsAt (w : World) (g n : Nat) (ms : List Mem) : Prop where
  len : ms.length = n
  lt : g < w.heap.size
  c0 : ∀ j, j < n → w.cell? ⟨g, j * 2, Option.none⟩ = some (.int .i64 (ms.getD j (0, false)).1)
  c1 : ∀ j, j < n → w.cell? ⟨g, j * 2 + 1, Option.none⟩ = some (.bool (ms.getD j (0, false)).2)
theorem MemsAt.below {w w' : World} {g n : Nat} {ms : List Mem} (h : MemsAt w g n ms) (hb : Below w.heap.size w w') : MemsAt w' g n ms :=
  ⟨h.len, Nat.lt_of_lt_of_le h.lt hb.size, fun j hj => (hb.cell (p := ⟨g, j * 2, Option.none⟩) h.lt).trans (h.c0 j hj), fun j hj => (hb.cell (p := ⟨g, j * 2 + 1, Option.none⟩) h.lt).trans (h.c1 j hj)⟩
theorem mems_of_owns {w : World} {base T g n cap : Nat} {ms : List Mem} (h : w.ownsRow base T 2 (.slice (some ⟨g, 0, Option.none⟩) n cap) n (flatM ms)) (hl : ms.length = n) : MemsAt w g n ms := by
  refine ⟨hl, (h.lt g rfl).2, fun j hj => ?_, fun j hj => ?_⟩
  · have := h.cells (g := g) rfl _ _ (flatM_get ms j (by omega)).1
    simpa [Addr.add_lit] using this
  · have := h.cells (g := g) rfl _ _ (flatM_get ms j (by omega)).2
    simpa [Addr.add_lit] using this

/-! One step at a time -/
theorem mergeP_item {its : List (Int × Int)} {k nx : Nat} {ms : List Mem} (hk : k + 1 < ms.length) (hn : nx < its.length) (hle : (its.getD nx (0, 0)).1 ≤ (ms.getD k (0, false)).1 + (ms.getD (k + 1) (0, false)).1) :
    mergeP (its.drop nx) (ms.drop k) = single (its.getD nx (0, 0)) :: mergeP (its.drop (nx + 1)) (ms.drop k) := by
  rw [List.drop_eq_getElem_cons (show k < ms.length by omega), List.drop_eq_getElem_cons hk, List.drop_eq_getElem_cons hn]
  simp only [List.getD, List.getElem?_eq_getElem hn, List.getElem?_eq_getElem hk, List.getElem?_eq_getElem (show k < ms.length by omega), Option.getD_some] at hle ⊢
  generalize List.drop (nx + 1) its = r
  generalize List.drop (k + 1 + 1) ms = q
  simp [mergeP, hle]
theorem mergeP_pack {its : List (Int × Int)} {k nx : Nat} {ms : List Mem} (hk : k + 1 < ms.length) (hle : ¬ (nx < its.length ∧ (its.getD nx (0, 0)).1 ≤ (ms.getD k (0, false)).1 + (ms.getD (k + 1) (0, false)).1)) :
    mergeP (its.drop nx) (ms.drop k) = ((ms.getD k (0, false)).1 + (ms.getD (k + 1) (0, false)).1, true) :: mergeP (its.drop nx) (ms.drop (k + 2)) := by
  rw [List.drop_eq_getElem_cons (show k < ms.length by omega), List.drop_eq_getElem_cons hk, show k + 2 = k + 1 + 1 from rfl]
  by_cases hn : nx < its.length
  · have h2 : ¬ (its.getD nx (0, 0)).1 ≤ (ms.getD k (0, false)).1 + (ms.getD (k + 1) (0, false)).1 := fun h => hle ⟨hn, h⟩
    rw [List.drop_eq_getElem_cons hn]
    simp only [List.getD, List.getElem?_eq_getElem hn, List.getElem?_eq_getElem hk, List.getElem?_eq_getElem (show k < ms.length by omega), Option.getD_some] at h2 ⊢
    generalize List.drop (nx + 1) its = r
    generalize List.drop (k + 1 + 1) ms = q
    simp [mergeP, h2]
  · rw [List.drop_eq_nil_of_le (show its.length ≤ nx by omega)]
    simp only [List.getD, List.getElem?_eq_getElem hk, List.getElem?_eq_getElem (show k < ms.length by omega), Option.getD_some]
    simp [mergeP]
theorem mergeP_end {its : List (Int × Int)} {k : Nat} {ms : List Mem} (hk : ¬ k + 1 < ms.length) : mergeP its (ms.drop k) = its.map single := by
  have hl : (ms.drop k).length ≤ 1 := by rw [List.length_drop]; omega
  match h : ms.drop k with
  | [] => rfl
  | [_] => rfl
  | _ :: _ :: _ => rw [h] at hl; simp at hl
theorem mergeP_len (ms : List Mem) : ∀ (n : Nat) (its : List (Int × Int)), ms.length ≤ n → (mergeP its ms).length = its.length + ms.length / 2 := by
  intro n
  induction n generalizing ms with
  | zero =>
    intro its h
    have e : ms = [] := List.eq_nil_of_length_eq_zero (by omega)
    subst e
    simp [mergeP]
  | succ n ih =>
    intro its h
    match ms with
    | [] => simp [mergeP]
    | [_] => simp [mergeP]
    | m1 :: m2 :: ms =>
      have := ih ms (its.dropWhile fun x => decide (x.1 ≤ m1.1 + m2.1)) (by simp at h; omega)
      have e := congrArg List.length (List.takeWhile_append_dropWhile (p := fun x : Int × Int => decide (x.1 ≤ m1.1 + m2.1)) (l := its))
      simp only [List.length_append] at e
      simp only [mergeP, List.length_append, List.length_map, List.length_cons, this]
      omega
theorem cells_alloc2 (w : World) (x y : Value) (t : TypeId) (fr : Nat × Nat) : ∀ j u, [x, y][j]? = some u → (w.alloc (.cells #[x, y] t fr)).cell? ((⟨w.heap.size, 0, Option.none⟩ : Addr).add j) = some u := by
  intro j u hu
  have hh : (w.alloc (.cells #[x, y] t fr)).heap[w.heap.size]? = some (.cells #[x, y] t fr) := by
    show (w.heap.push _)[w.heap.size]? = _
    simp
  rw [Addr.add_lit]
  unfold World.cell?
  rw [hh]
  simpa using hu
end Go.Proofs.Ytmdkinhbfndoeaa
