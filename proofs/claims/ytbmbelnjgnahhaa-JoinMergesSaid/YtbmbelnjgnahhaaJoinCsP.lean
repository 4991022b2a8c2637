/-
  JoinChanges: what is answered, in general.
-/
import Derived.Test.YtbmbelnjgnahhaaJoinRsE
import Derived.Test.YtbmbelnjgnahhaaTreeRef
namespace Go.Proofs.Ytbmbelnjgnahhaa
open Go.RowKit

instance (s t : TV) : Decidable (s.alike t) := by unfold TV.alike; infer_instance
noncomputable def chE (o a : TV) : Int := if (o.may && a.may) = true then (if o.alike a then 0 else 13) else 4
noncomputable def chX (o a : TV) : List Int := if chE o a = 0 then difI o.ks a.ks o.n else []
theorem alike_comm {s t : TV} (h : s.alike t) : t.alike s := ⟨h.1.symm, h.2.1.symm, h.2.2.1.symm, h.2.2.2.symm⟩
theorem chE_comm (o a : TV) : chE o a = chE a o := by
  unfold chE
  rw [Bool.and_comm]
  by_cases h : o.alike a
  · rw [if_pos h, if_pos (alike_comm h)]
  · rw [if_neg h, if_neg (fun g => h (alike_comm g))]
theorem chE_zero {o a : TV} (h : chE o a = 0) : o.may = true ∧ a.may = true ∧ o.alike a := by
  unfold chE at h
  split at h
  · rename_i hm
    split at h
    · rename_i hk
      simp only [Bool.and_eq_true] at hm
      exact ⟨hm.1, hm.2, hk⟩
    · exact absurd h (by decide)
  · exact absurd h (by decide)
theorem chE_ok {o a : TV} (h1 : o.may = true) (h2 : a.may = true) (h3 : o.alike a) : chE o a = 0 := by
  unfold chE; rw [h1, h2]; simp [h3]
theorem chE_self (a : TV) : chE a a = if a.may = true then 0 else 4 := by
  have ha : a.alike a := ⟨rfl, rfl, rfl, rfl⟩
  unfold chE; rw [if_pos ha]; simp
theorem difI_comm (ts us : List ByteArray) (n : Nat) : difI ts us n = difI us ts n := by
  unfold difI; congr 1; funext j
  by_cases h : kAt ts j = kAt us j
  · rw [if_pos h, if_pos h.symm]
  · rw [if_neg h, if_neg (fun g => h g.symm)]
theorem difI_self (ts : List ByteArray) (n : Nat) : difI ts ts n = [] := by
  unfold difI; simp
theorem n_of_may {w w' : World} {o a : TV} (ho : TOk w o) (ha : TOk w' a) (h1 : o.may = true) (h2 : a.may = true) (h3 : o.alike a) : o.n = a.n ∧ 0 < o.n := by
  have g1 := mayT_keys h1; have g2 := mayT_keys h2
  have q1 := ho.strs.len; have q2 := ha.strs.len
  obtain ⟨e1, e2, e3, e4⟩ := h3
  rw [← e1, ← e2] at g2
  have := grid_pos g1.1
  omega
theorem chX_comm {w w' : World} {o a : TV} (ho : TOk w o) (ha : TOk w' a) : chX o a = chX a o := by
  unfold chX
  rw [chE_comm a o]
  by_cases h : chE o a = 0
  · rw [if_pos h, if_pos h, difI_comm]
    obtain ⟨h1, h2, h3⟩ := chE_zero h
    rw [(n_of_may ho ha h1 h2 h3).1]
  · rw [if_neg h, if_neg h]
theorem chX_self (a : TV) : chX a a = [] := by
  unfold chX; split
  · exact difI_self _ _
  · rfl
/-- Changed, whatever the two trees. -/
theorem changed_any (o a : TV) (w : World) (ho : TOk w o) (ha : TOk w a) :
    Calls Try.prog 16 #[o.val, a.val] w fun e w' => ∃ ad k, e = .returned (.tuple #[.slice ad (chX o a).length k, .int .i64 (chE o a)]) ∧ Reads .i64 w' ad (chX o a).length k (chX o a) ∧ Below w.heap.size w w' := by
  by_cases hm : (o.may && a.may) = true
  case neg =>
    have hm1 : [o, a].all TV.may = false := by simpa using hm
    have e : chE o a = 4 := by unfold chE; rw [if_neg hm]
    have ex : chX o a = [] := by unfold chX; rw [e]; simp
    rw [e, ex]
    exact (changed_form o a w ho ha hm1).mono fun _ _ ⟨h1, h2⟩ => ⟨_, _, h1, Reads.none _ _, h2⟩
  have hm1 : [o, a].all TV.may = true := by simpa using hm
  by_cases hk : o.alike a
  case neg =>
    have e : chE o a = 13 := by unfold chE; rw [if_pos hm, if_neg hk]
    have ex : chX o a = [] := by unfold chX; rw [e]; simp
    rw [e, ex]
    exact (changed_shape o a w ho ha hm1 hk).mono fun _ _ ⟨h1, h2⟩ => ⟨_, _, h1, Reads.none _ _, h2⟩
  have e : chE o a = 0 := by unfold chE; rw [if_pos hm, if_pos hk]
  have ex : chX o a = difI o.ks a.ks o.n := by unfold chX; rw [if_pos e]
  rw [e, ex]
  simp only [Bool.and_eq_true] at hm
  obtain ⟨hn, hp⟩ := n_of_may ho ha hm.1 hm.2 hk
  obtain ⟨po, xo, e1, _⟩ := ho.strs.cells hp
  obtain ⟨pa, xa, e2, _⟩ := ha.strs.cells (by omega)
  obtain ⟨Wo, Ho, Co, Do, ao, no, co, ko⟩ := o
  obtain ⟨Wa, Ha, Ca, Da, aa, na, ca, ka⟩ := a
  simp only at e1 e2 hn
  subst e1 e2 hn
  obtain ⟨rfl, rfl, rfl, rfl⟩ := hk
  exact (changed_ok _ _ _ _ _ _ _ _ _ _ _ _ _ w ho ha hm1).mono fun _ _ ⟨ad, k, h1, h2, h3⟩ => ⟨ad, k, h1, reads_of_owns h2, h3⟩
/-- Merge of three alike. -/
theorem merge_alike (o a b : TV) (w : World) (ho : TOk w o) (ha : TOk w a) (hb : TOk w b) (h1 : o.may = true) (h2 : a.may = true) (h3 : b.may = true) (k1 : o.alike a) (k2 : o.alike b) :
    Calls Try.prog 11 #[o.val, a.val, b.val] w (MergeIs o.W o.H o.C o.D o.n (mergeKs o.ks a.ks b.ks o.n) (mergeMs o.ks a.ks b.ks o.n) w) := by
  obtain ⟨hn, hp⟩ := n_of_may ho ha h1 h2 k1
  obtain ⟨hn2, _⟩ := n_of_may ho hb h1 h3 k2
  obtain ⟨po, xo, e1, _⟩ := ho.strs.cells hp
  obtain ⟨pa, xa, e2, _⟩ := ha.strs.cells (by omega)
  obtain ⟨pb, xb, e3, _⟩ := hb.strs.cells (by omega)
  obtain ⟨Wo, Ho, Co, Do, ao, no, co, ko⟩ := o
  obtain ⟨Wa, Ha, Ca, Da, aa, na, ca, ka⟩ := a
  obtain ⟨Wb, Hb, Cb, Db, ab, nb, cb, kb⟩ := b
  simp only at e1 e2 e3 hn hn2
  subst e1 e2 e3 hn hn2
  obtain ⟨rfl, rfl, rfl, rfl⟩ := k1
  obtain ⟨rfl, rfl, rfl, rfl⟩ := k2
  exact merge_is _ _ _ _ _ _ _ _ _ _ _ _ _ _ _ _ _ w ho ha hb h1 h2 h3 hp
/-- Merge of others. -/
theorem merge_err (o a b : TV) (w : World) (ho : TOk w o) (ha : TOk w a) (hb : TOk w b) (h : ¬ ([o, a, b].all TV.may = true ∧ o.alike a ∧ o.alike b)) :
    Calls Try.prog 11 #[o.val, a.val, b.val] w fun e w' => ∃ er : Int, (er == 0) = false ∧ e = .returned (.tuple #[ras 0 0 0 0 Option.none 0 0, .slice Option.none 0 0, .int .i64 er]) ∧ Below w.heap.size w w' := by
  by_cases hm : [o, a, b].all TV.may = true
  · exact (merge_shape o a b w ho ha hb hm (fun g => h ⟨hm, g⟩)).mono fun _ _ ⟨h1, h2⟩ => ⟨13, by decide, h1, h2⟩
  · exact (merge_form o a b w ho ha hb (Bool.eq_false_iff.2 hm)).mono fun _ _ ⟨h1, h2⟩ => ⟨4, by decide, h1, h2⟩

/-! What is merged without a conflict -/
theorem mergeKs_mem {os as_ bs : List ByteArray} {n : Nat} (h1 : as_.length = n) (h2 : bs.length = n) : ∀ k ∈ mergeKs os as_ bs n, k ∈ as_ ∨ k ∈ bs := by
  intro k hk
  unfold mergeKs at hk
  obtain ⟨j, hj, rfl⟩ := List.mem_map.1 hk
  have hj2 : j < as_.length := by simpa using hj
  split
  · unfold mergeK
    repeat' split
    · exact .inl (kAt_mem hj2)
    · exact .inr (kAt_mem (by omega))
    · exact .inl (kAt_mem hj2)
  · exact .inl (kAt_mem hj2)
theorem merge_dif {o a b : ByteArray} (h : mergeM o a b = false) : ¬ o = mergeK o a b ↔ ¬ o = a ∨ ¬ o = b := by
  unfold mergeM at h
  rw [decide_eq_false_iff_not] at h
  unfold mergeK
  by_cases h1 : b = o
  · subst h1; simp
  · by_cases h2 : b = a
    · subst h2; simp
    · rw [if_neg (fun g => g.elim h1 h2)]
      by_cases h3 : a = o
      · subst h3; simp
      · exact absurd ⟨fun g => g.elim h1 h2, h3⟩ h
theorem clean_at {os as_ bs : List ByteArray} {n i : Nat} (h1 : as_.length = n) (h : cleanB (mergeMs os as_ bs n) = true) (hi : i < n) : mergeM (kAt os i) (kAt as_ i) (kAt bs i) = false := by
  rw [← mergeMs_at os as_ bs n i h1 hi]
  cases hv : (mergeMs os as_ bs n).getD i false with
  | false => rfl
  | true =>
    exfalso
    refine (cleanB_iff _).1 h ?_
    rw [← hv]
    have : i < (mergeMs os as_ bs n).length := by rw [mergeMs_len]; omega
    simp [List.getD, this]
theorem dif_merged {os as_ bs : List ByteArray} {n : Nat} (h1 : as_.length = n) (hc : cleanB (mergeMs os as_ bs n) = true) (x : Int) :
    x ∈ difI os (mergeKs os as_ bs n) n ↔ x ∈ difI os as_ n ++ difI os bs n := by
  rw [List.mem_append, difI_mem, difI_mem, difI_mem]
  constructor
  · rintro ⟨j, hj, rfl, hne⟩
    rw [mergeKs_at os as_ bs n j h1 hj, merge_dif (clean_at h1 hc hj)] at hne
    rcases hne with h | h
    · exact .inl ⟨j, hj, rfl, h⟩
    · exact .inr ⟨j, hj, rfl, h⟩
  · rintro (⟨j, hj, rfl, hne⟩ | ⟨j, hj, rfl, hne⟩)
    · exact ⟨j, hj, rfl, by rw [mergeKs_at os as_ bs n j h1 hj, merge_dif (clean_at h1 hc hj)]; exact .inl hne⟩
    · exact ⟨j, hj, rfl, by rw [mergeKs_at os as_ bs n j h1 hj, merge_dif (clean_at h1 hc hj)]; exact .inr hne⟩

/-! The marks -/
/-- The places of zs are marked. -/
structure Marks (n : Nat) (zs : List Int) (L : List Int) : Prop where
  len : L.length = n
  at_ : ∀ j, j < n → L.getD j 0 = if (j : Int) ∈ zs then 1 else 0
theorem marks_nil (n : Nat) : Marks n [] (List.replicate n 0) := ⟨by simp, fun j hj => by simp [List.getD, hj]⟩
theorem marks_snoc {n : Nat} {zs L : List Int} (h : Marks n zs L) (d : Nat) (hd : d < n) : Marks n (zs ++ [(d : Int)]) (L.set d 1) := by
  refine ⟨by rw [List.length_set]; exact h.len, fun j hj => ?_⟩
  rw [getD_setA, h.len, h.at_ j hj]
  by_cases e : d = j
  · subst e; rw [if_pos ⟨rfl, hd⟩, if_pos (by simp)]
  · rw [if_neg (fun g => e g.1)]
    have : ((j : Int) ∈ zs ++ [(d : Int)]) ↔ (j : Int) ∈ zs := by
      rw [List.mem_append, List.mem_singleton]
      exact ⟨fun g => g.elim id (fun g => absurd (by omega) e), .inl⟩
    simp only [this]
theorem difI_count (ts us : List ByteArray) (i : Nat) : (difI ts us (i + 1)).length = (difI ts us i).length + (if kAt ts i = kAt us i then 0 else 1) := by
  by_cases h : kAt ts i = kAt us i
  · rw [difI_same _ _ _ h, if_pos h]; rfl
  · rw [difI_add _ _ _ h, if_neg h]; simp
end Go.Proofs.Ytbmbelnjgnahhaa
