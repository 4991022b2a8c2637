/-
  The walk of JoinSides.
-/
import Derived.Test.YtbmbelnjgnahhaaJoinFirst
namespace Go.Proofs.Ytbmbelnjgnahhaa
open Go.RowKit

/-- What Merge answers of three trees alike in shape. -/
def MergeIs (W H C D : Int) (n : Nat) (ks : List ByteArray) (ms : List Bool) (w : World) (e : Ending) (w' : World) : Prop :=
  ∃ ga k gm k2, e = .returned (.tuple #[ras W H C D (some ⟨ga, 0, Option.none⟩) n k, .slice (some ⟨gm, 0, Option.none⟩) n k2, .int .i64 0]) ∧ Strs w' (some ⟨ga, 0, Option.none⟩) n k ks ∧ Bls w' (some ⟨gm, 0, Option.none⟩) n k2 ms ∧ Below w.heap.size w w'
theorem all3 {s t u : TV} (h1 : s.may = true) (h2 : t.may = true) (h3 : u.may = true) : [s, t, u].all TV.may = true := by simp [h1, h2, h3]
theorem merge_is (W H C D : Int) (po xo co pa xa ca pb xb cb n : Nat) (oks aks bks : List ByteArray) (w : World) (ho : TOk w (⟨W, H, C, D, some ⟨po, xo, Option.none⟩, n, co, oks⟩ : TV)) (ha : TOk w (⟨W, H, C, D, some ⟨pa, xa, Option.none⟩, n, ca, aks⟩ : TV)) (hb : TOk w (⟨W, H, C, D, some ⟨pb, xb, Option.none⟩, n, cb, bks⟩ : TV)) (h1 : TV.may (⟨W, H, C, D, some ⟨po, xo, Option.none⟩, n, co, oks⟩ : TV) = true) (h2 : TV.may (⟨W, H, C, D, some ⟨pa, xa, Option.none⟩, n, ca, aks⟩ : TV) = true) (h3 : TV.may (⟨W, H, C, D, some ⟨pb, xb, Option.none⟩, n, cb, bks⟩ : TV) = true) (hn1 : 0 < n) :
    Calls Try.prog 11 #[ras W H C D (some ⟨po, xo, Option.none⟩) n co, ras W H C D (some ⟨pa, xa, Option.none⟩) n ca, ras W H C D (some ⟨pb, xb, Option.none⟩) n cb] w (MergeIs W H C D n (mergeKs oks aks bks n) (mergeMs oks aks bks n) w) := by
  have hl : (mergeKs oks aks bks n).length = n := by rw [mergeKs_len]; exact ha.strs.len
  refine (merge_ok W H C D po xo co pa xa ca pb xb cb n oks aks bks w ho ha hb (all3 h1 h2 h3) hn1).mono ?_
  rintro e w' ⟨a, k, m, k2, rfl, o1, o2, b⟩
  rw [hl] at o1 o2 ⊢
  obtain ⟨ga, rfl, _⟩ := owns_addr o1 hn1
  obtain ⟨gm, rfl, _⟩ := owns_addr o2 hn1
  exact ⟨ga, k, gm, k2, rfl, readsA_of_owns ByteArray.empty o1, readsA_of_owns false o2, b⟩

/-! What is merged -/
theorem mergeM_comm (o a b : ByteArray) : mergeM o b a = mergeM o a b := by
  unfold mergeM
  apply decide_eq_decide.2
  constructor <;> (rintro ⟨h1, h2⟩; refine ⟨fun h => ?_, fun h => ?_⟩)
  · rcases h with h | h
    · exact h2 h
    · exact h1 (.inr h.symm)
  · exact h1 (.inl h)
  · rcases h with h | h
    · exact h2 h
    · exact h1 (.inr h.symm)
  · exact h1 (.inl h)
theorem mergeK_comm (o a b : ByteArray) (h : mergeM o a b = false) : mergeK o b a = mergeK o a b := by
  unfold mergeM at h
  rw [decide_eq_false_iff_not] at h
  unfold mergeK
  by_cases h1 : b = o
  · subst h1
    by_cases h2 : a = b
    · subst h2; simp
    · rw [if_neg (by simp [h2]), if_pos rfl, if_pos (.inl rfl)]
  · by_cases h2 : b = a
    · subst h2; rw [if_pos (.inr rfl)]
    · by_cases h3 : a = o
      · subst h3; rw [if_pos (.inl rfl), if_neg (by simp [h2]), if_pos rfl]
      · exact absurd ⟨fun h => h.elim h1 h2, h3⟩ h
theorem mergeKs_at (os as_ bs : List ByteArray) (n i : Nat) (hn : as_.length = n) (hi : i < n) : kAt (mergeKs os as_ bs n) i = mergeK (kAt os i) (kAt as_ i) (kAt bs i) := by
  show (mergeKs os as_ bs n).getD i ByteArray.empty = _
  rw [mergeKs_getD _ _ _ _ _ (by omega), if_pos hi]
theorem mergeMs_at (os as_ bs : List ByteArray) (n i : Nat) (hn : as_.length = n) (hi : i < n) : (mergeMs os as_ bs n).getD i false = mergeM (kAt os i) (kAt as_ i) (kAt bs i) := by
  rw [mergeMs_getD _ _ _ _ _ (by omega)]; simp [hi]
theorem mergeMs_comm (os as_ bs : List ByteArray) (n : Nat) (h1 : as_.length = n) (h2 : bs.length = n) : mergeMs os bs as_ n = mergeMs os as_ bs n := by
  refine ext_getDA false (by rw [mergeMs_len, mergeMs_len]; omega) fun i hi => ?_
  rw [mergeMs_len] at hi
  rw [mergeMs_at _ _ _ _ _ h2 (by omega), mergeMs_at _ _ _ _ _ h1 (by omega), mergeM_comm]
theorem mergeKs_comm (os as_ bs : List ByteArray) (n : Nat) (h1 : as_.length = n) (h2 : bs.length = n) (h : cleanB (mergeMs os as_ bs n) = true) : mergeKs os as_ bs n = mergeKs os bs as_ n := by
  refine ext_getDA ByteArray.empty (by rw [mergeKs_len, mergeKs_len]; omega) fun i hi => ?_
  rw [mergeKs_len] at hi
  have e1 := mergeKs_at os as_ bs n i h1 (by omega)
  have e2 := mergeKs_at os bs as_ n i h2 (by omega)
  have e3 := mergeMs_at os as_ bs n i h1 (by omega)
  have hf : (mergeMs os as_ bs n).getD i false = false := by
    cases hv : (mergeMs os as_ bs n).getD i false with
    | false => rfl
    | true =>
      exfalso
      refine (cleanB_iff _).1 h ?_
      rw [← hv]
      have : i < (mergeMs os as_ bs n).length := by rw [mergeMs_len]; omega
      simp [List.getD, this]
  rw [e3] at hf
  exact e1.trans ((mergeK_comm _ _ _ hf).symm.trans e2.symm)
theorem mergeKs_base (os as_ : List ByteArray) (n : Nat) (h1 : as_.length = n) : mergeKs os as_ os n = as_ := by
  refine ext_getDA ByteArray.empty (by rw [mergeKs_len]) fun i hi => ?_
  rw [mergeKs_len] at hi
  rw [mergeKs_getD _ _ _ _ _ hi, if_pos (by omega)]
  simp [mergeK]
theorem mergeKs_base2 (os bs : List ByteArray) (n : Nat) (h1 : os.length = n) (h2 : bs.length = n) : mergeKs os os bs n = bs := by
  refine ext_getDA ByteArray.empty (by rw [mergeKs_len]; omega) fun i hi => ?_
  rw [mergeKs_len] at hi
  rw [mergeKs_getD _ _ _ _ _ hi, if_pos (by omega)]
  unfold mergeK
  by_cases e : kAt bs i = kAt os i
  · rw [if_pos (.inl e), ← e]
  · rw [if_neg (by rintro (h | h) <;> exact e h), if_pos rfl]
theorem clean_of {ms : List Bool} (h : ∀ i, i < ms.length → ms.getD i false = false) : cleanB ms = true := by
  rw [cleanB_iff]
  intro hm
  obtain ⟨i, hi, e⟩ := List.getElem_of_mem hm
  have := h i hi
  simp [List.getD, hi, e] at this
theorem clean_base (os as_ : List ByteArray) (n : Nat) (h1 : as_.length = n) : cleanB (mergeMs os as_ os n) = true := clean_of fun i hi => by
  rw [mergeMs_len] at hi
  rw [mergeMs_at _ _ _ _ _ h1 (by omega)]
  simp [mergeM]
theorem clean_base2 (os bs : List ByteArray) (n : Nat) (h1 : os.length = n) : cleanB (mergeMs os os bs n) = true := clean_of fun i hi => by
  rw [mergeMs_len] at hi
  rw [mergeMs_at _ _ _ _ _ h1 (by omega)]
  simp [mergeM]
end Go.Proofs.Ytbmbelnjgnahhaa
