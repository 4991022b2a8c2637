/-
  A region that draws its order: operations that yield one value each in whatever world of a class (reads, sums, callees that lay new blocks), in any order; behind all of them others in a fixed order (an append, a store). One walk.
-/
import Derived.Test.YtbmbelnjgnahhaaGrow
namespace Go.Proofs.Ytbmbelnjgnahhaa
open Go.RowKit

section
variable {P : Program} {ops : Array Oper} {md : Region.Mode}

theorem wpAny_more {Q : Exit → Act → World → Prop} : ∀ (f : Nat) (l : Array Bool) (a : Act) (w : World), wpAny P md ops Q f l a w → wpAny P md ops Q (f + 1) l a w
  | 0, l, a, w, h => ⟨fun _ => h.2, fun i hi => by rw [h.1] at hi; cases hi⟩
  | f + 1, l, a, w, h => ⟨h.1, fun i hi => wpOp_mono (fun a' w' h' => wpAny_more f _ a' w' h') (h.2 i hi)⟩
theorem wpAny_le {Q : Exit → Act → World → Prop} {f f' : Nat} (hf : f ≤ f') {l : Array Bool} {a : Act} {w : World} (h : wpAny P md ops Q f l a w) : wpAny P md ops Q f' l a w := by
  obtain ⟨d, rfl⟩ := Nat.exists_eq_add_of_le hf
  clear hf
  induction d with
  | zero => exact h
  | succ d ih => exact wpAny_more _ _ _ _ ih

/-- b at each of these places. -/
def setAll (b : Bool) : List Nat → Array Bool → Array Bool
  | [], l => l
  | t :: ts, l => setAll b ts (l.setIfInBounds t b)
theorem setAll_size (b : Bool) : ∀ (ts : List Nat) (l : Array Bool), (setAll b ts l).size = l.size
  | [], _ => rfl
  | t :: ts, l => by rw [setAll, setAll_size b ts]; simp
theorem setAll_getD (b d : Bool) : ∀ (ts : List Nat) (l : Array Bool) (j : Nat), j < l.size → (setAll b ts l).getD j d = if j ∈ ts then b else l.getD j d
  | [], l, j, _ => by simp [setAll]
  | t :: ts, l, j, h => by
    rw [setAll, setAll_getD b d ts _ j (by simpa using h)]
    by_cases e : j ∈ ts
    · simp [e]
    · by_cases e' : j = t
      · subst e'; simp [e, h]
      · rw [if_neg e, if_neg (by simp [e, e'])]
        simp [Array.getElem?_setIfInBounds_ne (Ne.symm e')]
theorem setAll_comm (b c : Bool) {i : Nat} : ∀ (ts : List Nat) (l : Array Bool), i ∉ ts → setAll b ts (l.setIfInBounds i c) = (setAll b ts l).setIfInBounds i c
  | [], _, _ => rfl
  | t :: ts, l, h => by
    have h1 : i ≠ t := fun e => h (by simp [e])
    rw [setAll, setAll, Array.setIfInBounds_comm _ _ h1, setAll_comm b c ts _ (fun e => h (by simp [e]))]

/-- What an operation waits for. -/
def depsOf (md : Region.Mode) (ops : Array Oper) (j : Nat) : List Nat :=
  match ops[j]? with
  | some o => (o.after.toList.filter (Region.binds md ·)).map (·.on)
  | none => []
theorem mem_depsOf {j x : Nat} : x ∈ depsOf md ops j ↔ ∃ o, ops[j]? = some o ∧ ∃ e ∈ o.after, Region.binds md e = true ∧ e.on = x := by
  unfold depsOf
  cases h : ops[j]? with
  | none => simp
  | some o => simp [List.mem_map, List.mem_filter, and_assoc]
theorem ready_iff {j : Nat} {l : Array Bool} : j ∈ Region.ready md ops l ↔ l.getD j true = false ∧ j < ops.size ∧ ∀ x ∈ depsOf md ops j, l.getD x false = true := by
  rw [mem_ready]
  constructor
  · rintro ⟨h0, o, ho, h⟩
    refine ⟨h0, (Array.getElem?_eq_some_iff.1 ho).1, fun x hx => ?_⟩
    obtain ⟨o', ho', e, he, hb, rfl⟩ := mem_depsOf.1 hx
    rw [ho] at ho'
    cases ho'
    exact h e he hb
  · rintro ⟨h0, hj, h⟩
    exact ⟨h0, ops[j], by simp [hj], fun e he hb => h _ (mem_depsOf.2 ⟨_, by simp [hj], e, he, hb, rfl⟩)⟩

/-- All that these wait for, step by step. -/
def cloOf (md : Region.Mode) (ops : Array Oper) : Nat → List Nat → List Nat
  | 0, s => s
  | f + 1, s => cloOf md ops f (s ++ s.flatMap (depsOf md ops)).eraseDups
theorem cloOf_sub : ∀ (f : Nat) (s : List Nat), ∀ x ∈ s, x ∈ cloOf md ops f s
  | 0, _, _, h => h
  | f + 1, s, x, h => cloOf_sub f _ x (List.mem_eraseDups.2 (by simp [h]))
theorem cloOf_all {R G : Nat → Prop} (hst : ∀ j, R j → G j → ∀ x ∈ depsOf md ops j, R x) : ∀ (f : Nat) (s : List Nat), (∀ x ∈ cloOf md ops f s, G x) → (∀ x ∈ s, R x) → ∀ x ∈ cloOf md ops f s, R x
  | 0, _, _, h => h
  | f + 1, s, hg, h => by
    refine cloOf_all hst f _ hg (fun x hx => ?_)
    have hx := List.mem_eraseDups.1 hx
    rcases List.mem_append.1 hx with hx | hx
    · exact h x hx
    · obtain ⟨j, hj, hx⟩ := List.mem_flatMap.1 hx
      exact hst j (h j hj) (hg j (cloOf_sub f _ j (List.mem_eraseDups.2 (List.mem_append_left _ hj)))) x hx

/-- The condition, a Bool. -/
def ordB (md : Region.Mode) (ops : Array Oper) : List Nat → Array Bool → Bool
  | [], l => (Region.ready md ops l).isEmpty
  | k :: ks, l => (Region.ready md ops l).contains k && Region.free md ops l k && ordB md ops ks (l.setIfInBounds k true)
def forcedB (md : Region.Mode) (ops : Array Oper) : List Nat → Array Bool → Bool
  | [], l => (Region.ready md ops l).isEmpty
  | t :: ts, l => (Region.ready md ops l == [t]) && forcedB md ops ts (l.setIfInBounds t true)
def tailB (md : Region.Mode) (ops : Array Oper) (L : Array Bool) (tl : List Nat) : Bool :=
  ((List.range ops.size).all fun j => (depsOf md ops j).all fun x => decide (x < j)) &&
  ((List.range ops.size).all fun j => tl.contains j || (depsOf md ops j).all fun x => !tl.contains x) &&
  ((List.range ops.size).all fun j => tl.contains j || !L.getD j false || (depsOf md ops j).all fun x => L.getD x false) &&
  (tl.all fun i => (depsOf md ops i).any (tl.contains ·) || (((cloOf md ops ops.size (depsOf md ops i)).all fun x => !tl.contains x) && (List.range ops.size).all fun j => tl.contains j || L.getD j false || (cloOf md ops ops.size (depsOf md ops i)).contains j))
def pickOps (ops : Array Oper) : List Nat → List Oper
  | [] => []
  | k :: ks => (ops[k]?).toList ++ pickOps ops ks

structure HT (ops : Array Oper) (md : Region.Mode) (L : Array Bool) (tl : List Nat) (lh : Array Bool) : Prop where
  size : lh.size = ops.size
  tail : ∀ t ∈ tl, t < ops.size → lh.getD t false = true
  closed : ∀ j, j ∉ tl → lh.getD j false = true → ∀ x ∈ depsOf md ops j, lh.getD x false = true
  old : ∀ j, j < ops.size → L.getD j false = true → lh.getD j false = true

theorem both {l : Array Bool} {j : Nat} (hj : j < l.size) (d d' : Bool) : l.getD j d = l.getD j d' := by unfold Array.getD; rw [dif_pos hj, dif_pos hj]

variable {L : Array Bool} {tl : List Nat}
theorem tailB_low (h : tailB md ops L tl = true) {j x : Nat} (hj : j < ops.size) (hx : x ∈ depsOf md ops j) : x < j := by
  simp only [tailB, Bool.and_eq_true, List.all_eq_true, List.mem_range, decide_eq_true_eq] at h
  exact h.1.1.1 j hj x hx
theorem tailB_head (h : tailB md ops L tl = true) {j x : Nat} (hj : j < ops.size) (ht : j ∉ tl) (hx : x ∈ depsOf md ops j) : x ∉ tl := by
  simp only [tailB, Bool.and_eq_true, List.all_eq_true, List.mem_range, decide_eq_true_eq] at h
  have := h.1.1.2 j hj
  simp only [Bool.or_eq_true, List.contains_iff_mem, ht, false_or, List.all_eq_true, Bool.not_eq_true'] at this
  intro hh
  have := this x hx
  simp [hh] at this

theorem HT.all_of_none (hB : tailB md ops L tl = true) {lh : Array Bool} (h : HT ops md L tl lh) (hr : Region.ready md ops lh = []) : ∀ j, j < ops.size → lh.getD j false = true := by
  intro j
  induction j using Nat.strongRecOn with
  | _ j ih =>
    intro hj
    by_cases ht : j ∈ tl
    · exact h.tail j ht hj
    · cases hl : lh.getD j false with
      | true => rfl
      | false =>
        have : j ∈ Region.ready md ops lh := ready_iff.2 ⟨by rw [both (by rw [h.size]; exact hj) true false]; exact hl, hj, fun x hx => ih x (tailB_low hB hj hx) (by have := tailB_low hB hj hx; omega)⟩
        rw [hr] at this
        cases this
theorem HT.eq_of_all {lh : Array Bool} (h : HT ops md L tl lh) (ha : ∀ j, j < ops.size → lh.getD j false = true) : lh = Array.replicate ops.size true := by
  apply Array.ext
  · simp [h.size]
  · intro j h1 h2
    have := ha j (by rw [← h.size]; exact h1)
    simpa [h1] using this
theorem HT.all_of_tail (hB : tailB md ops L tl = true) {lh : Array Bool} (h : HT ops md L tl lh) {i : Nat} (hi : i ∈ tl) (hr : i ∈ Region.ready md ops (setAll false tl lh)) : ∀ j, j < ops.size → lh.getD j false = true := by
  obtain ⟨_, hin, hd⟩ := ready_iff.1 hr
  have hB' := hB
  simp only [tailB, Bool.and_eq_true, List.all_eq_true, List.mem_range, decide_eq_true_eq] at hB
  have h4 := hB.2 i hi
  have hdep : ∀ x ∈ depsOf md ops i, x ∉ tl ∧ lh.getD x false = true := fun x hx => by
    have h5 := hd x hx
    have hxs : x < lh.size := by rw [h.size]; have := tailB_low hB' hin hx; omega
    rw [setAll_getD _ _ _ _ _ hxs] at h5
    by_cases e : x ∈ tl
    · simp [e] at h5
    · rw [if_neg e] at h5; exact ⟨e, h5⟩
  have hno : (depsOf md ops i).any (tl.contains ·) = false := by
    rw [List.any_eq_false]
    intro x hx
    simp [(hdep x hx).1]
  rw [hno] at h4
  simp only [Bool.false_or, Bool.and_eq_true, List.all_eq_true, List.mem_range, Bool.or_eq_true, List.contains_iff_mem, Bool.not_eq_true'] at h4
  have hall := cloOf_all (md := md) (ops := ops) (R := fun x => lh.getD x false = true) (G := fun x => x ∉ tl) (fun j h1 h2 => h.closed j h2 h1) ops.size (depsOf md ops i) (fun x hx hh => by have := h4.1 x hx; simp [hh] at this) (fun x hx => (hdep x hx).2)
  intro j hj
  rcases h4.2 j hj with (e | e) | e
  · exact h.tail j e hj
  · exact h.old j hj e
  · exact hall j e

theorem wpQuiet_mono' {C : World → Prop} {Q Q' : Act → Prop} (h : ∀ a, Q a → Q' a) : ∀ (l : List Oper) (a : Act), wpQuiet P ops C Q l a → wpQuiet P ops C Q' l a
  | [], a, hh => h a hh
  | o :: l, a, hh => by
    unfold wpQuiet at hh ⊢
    split
    · rename_i hw; rw [if_pos hw] at hh; exact Oper.quiet_mono (fun a' h' => wpQuiet_mono' h l a' h') hh
    · rename_i hw; rw [if_neg hw] at hh; exact wpQuiet_mono' h l _ hh

theorem wpAny_of_head {C : World → Prop} {Q : Exit → Act → World → Prop} {g : Nat} (hB : tailB md ops L tl = true) : ∀ (f : Nat) (lh : Array Bool) (a : Act) (w : World), HT ops md L tl lh → C w →
    wpAnyQ P md ops C (fun a' => ∀ w', C w' → wpAny P md ops Q g (setAll false tl (Array.replicate ops.size true)) a' w') f lh a → wpAny P md ops Q (f + g) (setAll false tl lh) a w
  | 0, lh, a, w, hi, hC, h => by
    rw [hi.eq_of_all (hi.all_of_none hB h.1), Nat.zero_add]
    exact h.2 w hC
  | f + 1, lh, a, w, hi, hC, h => by
    by_cases hr : Region.ready md ops lh = []
    · have := h.1 hr w hC
      rw [hi.eq_of_all (hi.all_of_none hB hr)]
      exact wpAny_le (by omega) this
    · rw [show f + 1 + g = (f + g) + 1 by omega]
      have hnot : ∀ i ∈ Region.ready md ops lh, i ∉ tl := fun i hi' ht => by
        obtain ⟨h1, h2, _⟩ := ready_iff.1 hi'
        rw [both (by rw [hi.size]; exact h2) true false, hi.tail i ht h2] at h1
        cases h1
      refine ⟨fun h0 => ?_, fun i hir => ?_⟩
      · obtain ⟨i, hi'⟩ := List.exists_mem_of_ne_nil _ hr
        obtain ⟨h1, h2, h3⟩ := ready_iff.1 hi'
        have : i ∈ Region.ready md ops (setAll false tl lh) := ready_iff.2 ⟨by rw [setAll_getD _ _ _ _ _ (by rw [hi.size]; exact h2), if_neg (hnot i hi')]; exact h1, h2, fun x hx => by
          rw [setAll_getD _ _ _ _ _ (by rw [hi.size]; have := tailB_low hB h2 hx; omega), if_neg (tailB_head hB h2 (hnot i hi') hx)]
          exact h3 x hx⟩
        rw [h0] at this
        cases this
      · by_cases ht : i ∈ tl
        · have ha := hi.all_of_tail hB ht hir
          exfalso
          apply hr
          rw [List.eq_nil_iff_forall_not_mem]
          intro j hj
          obtain ⟨h1, h2, _⟩ := ready_iff.1 hj
          rw [both (by rw [hi.size]; exact h2) true false, ha j h2] at h1
          cases h1
        · obtain ⟨h1, h2, h3⟩ := ready_iff.1 hir
          rw [setAll_getD _ _ _ _ _ (by rw [hi.size]; exact h2), if_neg ht] at h1
          have h3' : ∀ x ∈ depsOf md ops i, lh.getD x false = true := fun x hx => by
            have := h3 x hx
            rwa [setAll_getD _ _ _ _ _ (by rw [hi.size]; have := tailB_low hB h2 hx; omega), if_neg (tailB_head hB h2 ht hx)] at this
          have hin : i ∈ Region.ready md ops lh := ready_iff.2 ⟨h1, h2, h3'⟩
          refine wpOp_of_qOp hC (fun a' w' hC' hk => ?_) (h.2 i hin)
          rw [← setAll_comm _ _ _ _ ht]
          refine wpAny_of_head hB f _ a' w' ⟨by simp [hi.size], fun t ht hts => getD_set_true (hi.tail t ht hts), fun j hj hl x hx => ?_, fun j hj hl => getD_set_true (hi.old j hj hl)⟩ hC' hk
          by_cases e : i = j
          · subst e; exact getD_set_true (h3' x hx)
          · rw [getD_set_ne false e] at hl
            exact getD_set_true (hi.closed j hj hl x hx)

theorem wpAnyQ_ord {C : World → Prop} {Q : Act → Prop} (hs : Region.noSelect ops = true) : ∀ (ks : List Nat) (l : Array Bool) (a : Act), ordB md ops ks l = true → wpQuiet P ops C Q (pickOps ops ks) a → wpAnyQ P md ops C Q ks.length l a
  | [], l, a, hB, h => ⟨by simpa [ordB] using hB, h⟩
  | k :: ks, l, a, hB, h => by
    simp only [ordB, Bool.and_eq_true] at hB
    obtain ⟨⟨hr, hf⟩, hB'⟩ := hB
    have hr' : k ∈ Region.ready md ops l := by simpa using hr
    obtain ⟨_, h2, _⟩ := ready_iff.1 hr'
    have h0 : ops[k]? = some ops[k] := by simp [h2]
    rw [pickOps, h0] at h
    have hst : qOp P ops C k (wpQuiet P ops C Q (pickOps ops ks)) a := by unfold qOp; simp only [h0]; exact h
    obtain ⟨v, hy, hK⟩ := yieldsIn_of_qOp h0 hst
    exact wpAnyQ_first h0 (Region.noSelect_spec hs) ks.length l a (Region.free_spec h0 hf) hr' hy (wpAnyQ_ord hs ks _ _ hB' hK)

theorem wpAny_of_forced {Q : Exit → Act → World → Prop} : ∀ (ts : List Nat) (l : Array Bool) (a : Act) (w : World), forcedB md ops ts l = true → wpList P ops Q (pickOps ops ts) a w → wpAny P md ops Q ts.length l a w
  | [], l, a, w, hB, h => ⟨by simpa [forcedB] using hB, h⟩
  | t :: ts, l, a, w, hB, h => by
    simp only [forcedB, Bool.and_eq_true, beq_iff_eq] at hB
    refine ⟨fun h0 => (by rw [hB.1] at h0; cases h0), fun i hi => ?_⟩
    rw [hB.1] at hi
    obtain rfl : i = t := by simpa using hi
    have h2 : i < ops.size := (ready_iff.1 (by rw [hB.1]; simp : i ∈ Region.ready md ops l)).2.1
    have h0 : ops[i]? = some ops[i] := by simp [h2]
    rw [pickOps, h0] at h
    have hw : wpOp P ops Q i (wpList P ops Q (pickOps ops ts)) a w := by unfold wpOp; simp only [h0]; exact h
    exact wpOp_mono (fun a' w' h' => wpAny_of_forced ts _ a' w' hB.2 h') hw

/-- The condition of the law. -/
def quietTailB (md : Region.Mode) (ops : Array Oper) (L : Array Bool) (ks tl : List Nat) (f : Nat) : Bool :=
  Region.noSelect ops && (L.size == ops.size) && (tl.all fun t => !L.getD t true) && tailB md ops L tl && ordB md ops ks (setAll true tl L) && forcedB md ops tl (setAll false tl (Array.replicate ops.size true)) && decide (ks.length + tl.length ≤ f)

theorem wpAny_quiet_tail {C : World → Prop} {Q : Exit → Act → World → Prop} {f : Nat} {a : Act} {w : World} (ks tl : List Nat) (hB : quietTailB md ops L ks tl f = true) (hC : C w)
    (h : wpQuiet P ops C (fun a' => ∀ w', C w' → wpList P ops Q (pickOps ops tl) a' w') (pickOps ops ks) a) : wpAny P md ops Q f L a w := by
  simp only [quietTailB, Bool.and_eq_true, beq_iff_eq, decide_eq_true_eq] at hB
  obtain ⟨⟨⟨⟨⟨⟨hs, hsz⟩, htf⟩, hT⟩, ho⟩, hf⟩, hle⟩ := hB
  have htf' : ∀ t ∈ tl, t < ops.size ∧ L.getD t false = false := fun t ht => by
    have := List.all_eq_true.1 htf t ht
    simp only [Bool.not_eq_true'] at this
    rcases Nat.lt_or_ge t L.size with h1 | h1
    · exact ⟨by rw [← hsz]; exact h1, by rw [both h1 false true]; exact this⟩
    · simp [Array.getElem?_eq_none h1] at this
  have hback : setAll false tl (setAll true tl L) = L := by
    apply Array.ext
    · simp [setAll_size]
    · intro j h1 h2
      have e := setAll_getD false false tl (setAll true tl L) j (by simpa [setAll_size] using h2)
      rw [setAll_getD true false tl L j h2] at e
      have e1 : (setAll false tl (setAll true tl L)).getD j false = (setAll false tl (setAll true tl L))[j] := by simp [h1]
      have e2 : L.getD j false = L[j] := by simp [h2]
      rw [← e1, ← e2, e]
      by_cases hj : j ∈ tl
      · simp [hj, (htf' j hj).2]
      · simp [hj]
  have hT' := hT
  simp only [tailB, Bool.and_eq_true, List.all_eq_true, List.mem_range, decide_eq_true_eq] at hT'
  have inv : HT ops md L tl (setAll true tl L) := by
    refine ⟨by rw [setAll_size, hsz], fun t ht hts => by rw [setAll_getD _ _ _ _ _ (by rw [hsz]; exact hts), if_pos ht], fun j hj hl x hx => ?_, fun j hj hl => by rw [setAll_getD _ _ _ _ _ (by rw [hsz]; exact hj)]; split <;> simp_all⟩
    rcases Nat.lt_or_ge j ops.size with h1 | h1
    · rw [setAll_getD _ _ _ _ _ (by rw [hsz]; exact h1), if_neg hj] at hl
      have h3 := hT'.1.2 j h1
      simp only [Bool.or_eq_true, List.contains_iff_mem, hj, hl, false_or, Bool.not_true, Bool.false_eq_true, List.all_eq_true] at h3
      rw [setAll_getD _ _ _ _ _ (by rw [hsz]; have := tailB_low hT h1 hx; omega)]
      split
      · rfl
      · exact h3 x hx
    · have : (setAll true tl L).getD j false = false := by simp [Array.getElem?_eq_none (by rw [setAll_size, hsz]; exact h1 : (setAll true tl L).size ≤ j)]
      rw [this] at hl
      cases hl
  have H := wpAny_of_head (P := P) (Q := Q) (g := tl.length) hT ks.length _ a w inv hC (wpAnyQ_ord hs ks _ a ho (wpQuiet_mono' (fun a' h' w' hw' => wpAny_of_forced tl _ a' w' hf (h' w' hw')) _ _ h))
  rw [hback] at H
  exact wpAny_le hle H

theorem wpAny_take_at {Q : Exit → Act → World → Prop} {i : Nat} {oi : Oper} {v : Value} {fuel : Nat} {listed : Array Bool} {a : Act} {w : World} (hi : ops[i]? = some oi)
    (hs : Region.noSelect ops = true) (hf : Region.free md ops listed i = true) (hr : (Region.ready md ops listed).contains i = true)
    (hQ : ∀ c a w, Q (.panic c) (a.put oi.dst v) w → Q (.panic c) a w) (hy : Yields P ops oi v a)
    (h : wpAny P md ops Q fuel (listed.setIfInBounds i true) (a.put ((pickOps ops [i]).head?.bind (·.dst)) v) w) : wpAny P md ops Q (fuel + 1) listed a w :=
  wpAny_take hi hs hf hr hQ hy (by simpa [pickOps, hi] using h)
theorem wpAny_grow_tail {Q : Exit → Act → World → Prop} {f : Nat} {a : Act} {w : World} {l : List Oper} (ks tl : List Nat) (hB : quietTailB md l.toArray L ks tl f = true)
    (h : wpQuiet P l.toArray (fun w' => ∃ x : GrownW w, w' = x.val) (fun a' => ∀ w', (∃ x : GrownW w, w' = x.val) → wpList P l.toArray Q (pickOps l.toArray tl) a' w') (pickOps l.toArray ks) a) : wpAny P md l.toArray Q f L a w.drew :=
  wpAny_quiet_tail ks tl hB ⟨⟨_, Below.drew (Below.refl _ _)⟩, rfl⟩ h
theorem wp_region_grow_tail {Q : Exit → Act → World → Prop} {id : Nat} {a : Act} {w : World} {l : List Oper} (ks tl : List Nat) (hm : P.follows .mixedOrders = true) (hB : quietTailB .any l.toArray (Array.replicate l.toArray.size false) ks tl l.toArray.size = true)
    (h : wpQuiet P l.toArray (fun w' => ∃ x : GrownW w, w' = x.val) (fun a' => ∀ w', (∃ x : GrownW w, w' = x.val) → wpList P l.toArray Q (pickOps l.toArray tl) a' w') (pickOps l.toArray ks) a) : (Code.region id l.toArray true).wp P Q a w :=
  wp_region_any hm (wpAny_grow_tail ks tl hB h)
end
end Go.Proofs.Ytbmbelnjgnahhaa
