/-
  The reference's Base: plain lemmas.
-/
import Derived.Test.YtdjbmjkfpmchgaaDagRLog
namespace Go.Proofs.Ytdjbmjkfpmchgaa
open Go.RowKit Go.Maps

/-- None of the others comes from x. -/
noncomputable def nearL (ns : List Nd) (l : List ByteArray) : List ByteArray := l.filter fun x => l.all fun y => decide (y = x) || !ancB ns x y
theorem mem_nearL {ns : List Nd} {l : List ByteArray} {x : ByteArray} : x ∈ nearL ns l ↔ x ∈ l ∧ ∀ y ∈ l, y ≠ x → ancB ns x y = false := by
  unfold nearL
  rw [List.mem_filter, List.all_eq_true]
  constructor
  · rintro ⟨h, h2⟩
    refine ⟨h, fun y hy hne => ?_⟩
    have := h2 y hy
    rw [decide_eq_false hne] at this
    simpa using this
  · rintro ⟨h, h2⟩
    refine ⟨h, fun y hy => ?_⟩
    by_cases e : y = x
    · rw [decide_eq_true e]; rfl
    · rw [h2 y hy e]; simp
theorem best_ex (ns : List Nd) {l : List ByteArray} (hr : Rises l) (m : List ByteArray) : ∀ i, i ≤ l.length → ∃ best found, BestOf ns l m i best found
  | 0, _ => ⟨_, _, BestOf.zero ns l m⟩
  | i + 1, hi => by
    obtain ⟨best, found, h⟩ := best_ex ns hr m i (by omega)
    by_cases hm : l.getD i ByteArray.empty ∈ m
    · cases found with
      | false => exact ⟨_, _, h.take hr (by omega) hm (fun e => nomatch e)⟩
      | true =>
        by_cases hl : stOf ns (l.getD i ByteArray.empty) < stOf ns best
        · exact ⟨_, _, h.keep hl⟩
        · exact ⟨_, _, h.take hr (by omega) hm (fun _ => by omega)⟩
    · exact ⟨_, _, h.skip hm⟩
theorem BestOf.near {ns : List Nd} (G : Good ns) {a b : ByteArray} {l m both : List ByteArray} {best : ByteArray} {found : Bool} (hl : IsAnc ns a l) (hm : IsAnc ns b m) (ha : a ∈ keysOf ns) (hb : b ∈ keysOf ns) (hboth : ∀ y, y ∈ both ↔ y ∈ l ∧ y ∈ m)
    (h : BestOf ns both (nearL ns both) both.length best found) : BaseIs ns a b best (if found then 0 else 14) := by
  have hB : ∀ y, y ∈ both ↔ Both ns a b y := fun y => by rw [hboth, hl.mem, hm.mem]; rfl
  obtain ⟨x, f, hx⟩ := best_ex ns hl.rises m l.length (Nat.le_refl _)
  rcases hx.base hl hm ha hb with ⟨hn, _⟩ | ⟨hk, hn, _, _⟩ | ⟨hk, hx, _⟩
  · exact absurd ⟨ha, hb⟩ hn
  · cases found with
    | false => exact .inr (.inl ⟨hk, hn, (h.1 rfl).1, rfl⟩)
    | true => exact absurd ((hB best).1 (h.2 rfl).1) (hn best)
  · have hxb : x ∈ both := (hB x).2 hx.both
    have hxn : x ∈ nearL ns both := mem_nearL.2 ⟨hxb, fun y hy hne => by
      rw [← Bool.not_eq_true, ancB_iff]
      exact fun h' => hx.near G ((hB y).1 hy) hne h'.2⟩
    obtain ⟨j, hj, e⟩ := mem_getDS hxb
    cases found with
    | false => exact absurd (by rw [e]; exact hxn) ((h.1 rfl).2 j hj)
    | true =>
      obtain ⟨h1, h2, _, h3⟩ := h.2 rfl
      have h4 := h3 j hj (by rw [e]; exact hxn)
      rw [e] at h4
      have hbe : best = x := by
        rcases hx.most best ((hB best).1 h1) with e5 | h5
        · exact e5
        · rcases h4 with e6 | h6
          · exact e6.symm
          · rcases h5 with h5 | ⟨h5, h5'⟩ <;> rcases h6 with h6 | ⟨h6, h6'⟩
            · omega
            · omega
            · omega
            · rw [ltB_asymm h5'] at h6'; cases h6'
      subst hbe
      exact .inr (.inr ⟨hk, hx, rfl⟩)

/-- The common ones of the first i. -/
structure Com (l m : List ByteArray) (i : Nat) (both : List ByteArray) : Prop where
  rises : Rises both
  mem : ∀ y, y ∈ both ↔ y ∈ l.take i ∧ y ∈ m
  len : both.length ≤ i
theorem Com.zero (l m : List ByteArray) : Com l m 0 [] := ⟨List.Pairwise.nil, fun y => by simp, Nat.le_refl _⟩
theorem Com.skip {l m both : List ByteArray} {i : Nat} (h : Com l m i both) (hi : i < l.length) (hn : l.getD i ByteArray.empty ∉ m) : Com l m (i + 1) both :=
  ⟨h.rises, fun y => by
    rw [take_getDA ByteArray.empty l i hi, List.mem_append, List.mem_singleton, h.mem]
    constructor
    · rintro ⟨h1, h2⟩; exact ⟨.inl h1, h2⟩
    · rintro ⟨h1 | rfl, h2⟩
      · exact ⟨h1, h2⟩
      · exact absurd h2 hn, by have := h.len; omega⟩
theorem Com.take {l m both : List ByteArray} {i : Nat} (hr : Rises l) (h : Com l m i both) (hi : i < l.length) (hn : l.getD i ByteArray.empty ∈ m) : Com l m (i + 1) (both ++ [l.getD i ByteArray.empty]) :=
  ⟨by
    unfold Rises
    rw [List.pairwise_append]
    refine ⟨h.rises, by simp, fun a ha b hb => ?_⟩
    rw [List.mem_singleton] at hb
    subst hb
    obtain ⟨j, hj, hjl, rfl⟩ := mem_take_getD ((h.mem a).1 ha).1
    exact rises_at hr hj hi, fun y => by
    rw [take_getDA ByteArray.empty l i hi, List.mem_append, List.mem_append, List.mem_singleton, h.mem]
    constructor
    · rintro (⟨h1, h2⟩ | rfl)
      · exact ⟨.inl h1, h2⟩
      · exact ⟨.inr rfl, hn⟩
    · rintro ⟨h1 | rfl, h2⟩
      · exact .inl ⟨h1, h2⟩
      · exact .inr rfl, by have := h.len; simp; omega⟩
theorem getD_inj {l : List ByteArray} (h : Rises l) {i j : Nat} (hi : i < l.length) (hj : j < l.length) (e : l.getD i ByteArray.empty = l.getD j ByteArray.empty) : i = j := by
  by_cases h1 : i < j
  · have := rises_at h h1 hj
    rw [e, ltB_irrefl] at this; cases this
  · by_cases h2 : j < i
    · have := rises_at h h2 hi
      rw [e, ltB_irrefl] at this; cases this
    · omega
theorem near_of {ns : List Nd} {l : List ByteArray} (hr : Rises l) {i : Nat} (hi : i < l.length) {near : Bool} (h : near = true ↔ ∀ j, j < l.length → j ≠ i → ancB ns (l.getD i ByteArray.empty) (l.getD j ByteArray.empty) = false) : near = true ↔ l.getD i ByteArray.empty ∈ nearL ns l := by
  rw [h, mem_nearL]
  constructor
  · intro h1
    refine ⟨getDS_mem hi, fun y hy hne => ?_⟩
    obtain ⟨j, hj, rfl⟩ := mem_getDS hy
    exact h1 j hj (fun e => hne (by rw [e]))
  · rintro ⟨_, h1⟩ j hj hne
    exact h1 _ (getDS_mem hj) (fun e => hne (getD_inj hr hj hi e))
theorem near_step {P : Nat → Prop} {near : Bool} {k : Nat} {c : Bool} (h : near = true ↔ ∀ j, j < k → P j) (hc : c = true ↔ P k) : (near && c) = true ↔ ∀ j, j < k + 1 → P j := by
  rw [Bool.and_eq_true, h, hc]
  constructor
  · rintro ⟨h1, h2⟩ j hj
    by_cases e : j = k
    · subst e; exact h2
    · exact h1 j (by omega)
  · exact fun h1 => ⟨fun j hj => h1 j (by omega), h1 k (by omega)⟩
end Go.Proofs.Ytdjbmjkfpmchgaa
