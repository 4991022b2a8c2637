/-
  A list of texts that a call owns, sorted; what the worklist of Ancestors keeps.
-/
import Derived.Test.YtdjbmjkfpmchgaaDagNew
import Derived.Lib.OwnBridge
namespace Go.Proofs.Ytdjbmjkfpmchgaa
open Go.RowKit Go.Maps
open Go.Sort (grow putRow mapBlock)

/-- Texts, sorted. -/
def sortB (xs : List ByteArray) : List ByteArray := ((xs.map (·.data.toList)).mergeSort fun x y => decide (x ≤ y)).map fun l => ⟨l.toArray⟩
theorem sortB_mem (xs : List ByteArray) (x : ByteArray) : x ∈ sortB xs ↔ x ∈ xs := by
  unfold sortB
  rw [List.mem_map]
  constructor
  · rintro ⟨l, hl, rfl⟩
    rw [(List.mergeSort_perm _ _).mem_iff, List.mem_map] at hl
    obtain ⟨y, hy, rfl⟩ := hl
    have : (⟨y.data.toList.toArray⟩ : ByteArray) = y := by simp
    rw [this]; exact hy
  · intro h
    refine ⟨x.data.toList, ?_, by simp⟩
    rw [(List.mergeSort_perm _ _).mem_iff]
    exact List.mem_map_of_mem h
theorem sortB_length (xs : List ByteArray) : (sortB xs).length = xs.length := by
  unfold sortB
  rw [List.length_map, (List.mergeSort_perm _ _).length_eq, List.length_map]
theorem sortB_rises {xs : List ByteArray} (h : xs.Nodup) : Rises (sortB xs) := by
  unfold Rises sortB
  have hs := List.pairwise_mergeSort (le := fun (x y : List UInt8) => decide (x ≤ y)) (fun a b c h1 h2 => by
    rw [decide_eq_true_eq] at *; exact List.le_trans h1 h2) (fun a b => by
    rw [Bool.or_eq_true, decide_eq_true_eq, decide_eq_true_eq]; exact List.le_total a b) (xs.map (·.data.toList))
  have hn : (xs.map (·.data.toList)).Nodup := List.Pairwise.map _ (fun a b hne e => hne (data_inj e)) h
  have hn2 := ((List.mergeSort_perm (xs.map (·.data.toList)) (fun x y => decide (x ≤ y))).nodup_iff).2 hn
  rw [List.pairwise_map]
  refine List.Pairwise.imp ?_ (hs.and hn2)
  rintro a b ⟨h1, h2⟩
  rw [decide_eq_true_eq] at h1
  rw [ltB_eq, decide_eq_true_eq]
  show a.toArray.toList < b.toArray.toList
  rw [List.toList_toArray, List.toList_toArray]
  rcases List.le_iff_lt_or_eq.1 h1 with h | h
  · exact h
  · exact absurd h h2

theorem grow_grown (w : World) (os : Array Obj) (row : Option Nat) : w.grownBy (grow w os) row :=
  ⟨rfl, rfl, rfl, by simp [grow], fun k hk _ => by simp [grow, Array.getElem?_append, hk]⟩
theorem below_grow' {B : Nat} {w0 w : World} (h : Below B w0 w) (hB : B ≤ w.heap.size) (os : Array Obj) : Below B w0 (grow w os) :=
  h.grown (grow_grown w os none) hB (fun _ e => nomatch e)

/-- slices.Sort of texts that the call owns. -/
theorem sort_own (base : Nat) (g n cap : Nat) (xs : List ByteArray) (w : World) (ho : w.ownsRow base 9 1 (.slice (some ⟨g, 0, Option.none⟩) n cap) n (xs.map Value.string)) (hb : base ≤ w.heap.size) (hn : n ≤ 1000000) :
    Calls Try.prog 30 #[.slice (some ⟨g, 0, Option.none⟩) n cap] w fun e w' => e = .returned (.tuple #[]) ∧ w'.ownsRow base 9 1 (.slice (some ⟨g, 0, Option.none⟩) n cap) n ((sortB xs).map Value.string) ∧ Below base w w' := by
  have ho' := ho
  rw [← Lib.map_encStr] at ho'
  obtain ⟨g', cap', e, hbg, hlt, hnc, hcm, hl, hH⟩ := Lib.holds_of_ownsRow ho' (by intro h; cases h)
  injection e with e1 e2 e3
  injection e1 with e1
  injection e1 with e1
  subst e1; subst e3
  have hl' : xs.length = n := by simpa using hl
  have C := Try.slices_Sort_string g 0 cap (xs.map (·.data.toList)) w hH hlt (by rw [List.length_map, hl']; omega)
  have hy : ((xs.map (·.data.toList)).mergeSort fun x y => decide (x ≤ y)).length = n := by rw [(List.mergeSort_perm _ _).length_eq, List.length_map, hl']
  have e4 : ((xs.map (·.data.toList)).mergeSort fun x y => decide (x ≤ y)).map encStr = (sortB xs).map Value.string := by
    unfold sortB
    rw [List.map_map]
    exact List.map_congr_left fun _ _ => rfl
  rw [List.length_map, hl'] at C
  generalize ((xs.map (·.data.toList)).mergeSort fun x y => decide (x ≤ y)) = ys at *
  refine C.mono ?_
  rintro e w' ⟨rfl, q, os, rfl⟩
  have h2 := Lib.ownsRow_putRow (q := q) (k := n) ho' hy (Nat.le_refl n)
  rw [← hy, List.take_length, e4, hy] at h2
  have hs : base ≤ (putRow encStr (Sort.ahead w q) g 0 ys.toArray).heap.size := by simpa [putRow, mapBlock, Sort.ahead] using hb
  have hbl := Lib.below_putRow (enc := encStr) (q := q) (d := ys.toArray) (Go.RowKit.Below.refl base w) hbg
  generalize putRow encStr (Sort.ahead w q) g 0 ys.toArray = w1 at *
  exact ⟨rfl, h2.kept (grow_grown w1 os Option.none) (.inr (by simp [Value.ownBlock])), below_grow' hbl hs os⟩
end Go.Proofs.Ytdjbmjkfpmchgaa
