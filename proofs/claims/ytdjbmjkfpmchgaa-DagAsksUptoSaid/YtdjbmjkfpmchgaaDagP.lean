/-
  Histories as lists of nodes: who is reached, what is sorted, which base is the nearest. Plain lemmas, nothing of the program.
-/
import Derived.Test.YtdjbmjkfpmchgaaReadsA
import Derived.Sort.Walk0
namespace Go.Proofs.Ytdjbmjkfpmchgaa
open Go.RowKit

/-- Texts in the order of their bytes. -/
def ltB (a b : ByteArray) : Bool := Op.bytesLess a.toList b.toList
theorem ltB_eq (a b : ByteArray) : ltB a b = decide (a.data.toList < b.data.toList) := by
  unfold ltB; rw [Go.Proofs.bytesLess_eq, ByteArray.toList_eq, ByteArray.toList_eq]
theorem data_inj {a b : ByteArray} (h : a.data.toList = b.data.toList) : a = b := by
  cases a; cases b; congr 1; exact Array.toList_inj.1 h
theorem ltB_irrefl (a : ByteArray) : ltB a a = false := by
  rw [ltB_eq]; exact decide_eq_false (List.lt_irrefl _)
theorem ltB_trans {a b c : ByteArray} (h1 : ltB a b = true) (h2 : ltB b c = true) : ltB a c = true := by
  rw [ltB_eq, decide_eq_true_eq] at *
  exact List.lt_trans h1 h2
theorem ltB_asymm {a b : ByteArray} (h : ltB a b = true) : ltB b a = false := by
  cases h2 : ltB b a
  · rfl
  · have := ltB_trans h h2
    rw [ltB_irrefl] at this
    cases this
theorem ltB_tri {a b : ByteArray} (h1 : ltB a b = false) (h2 : ltB b a = false) : a = b := by
  rw [ltB_eq, decide_eq_false_iff_not] at *
  exact data_inj (List.le_antisymm (List.not_lt.1 h2) (List.not_lt.1 h1))
theorem ltB_ne {a b : ByteArray} (h : ltB a b = true) : a ≠ b := by
  rintro rfl
  rw [ltB_irrefl] at h
  cases h

instance decMemB (k : ByteArray) (l : List ByteArray) : Decidable (k ∈ l) := @List.instDecidableMemOfLawfulBEq ByteArray instBEqOfDecidableEq inferInstance k l
/-- Rising, each once. -/
def Rises (l : List ByteArray) : Prop := l.Pairwise (fun a b => ltB a b = true)
/-- Two lists by one order that have the same members are one. -/
theorem sorted_ext {α : Type} {r : α → α → Prop} (irr : ∀ a, ¬ r a a) (asy : ∀ a b, r a b → ¬ r b a) : ∀ (l m : List α), l.Pairwise r → m.Pairwise r → (∀ x, x ∈ l ↔ x ∈ m) → l = m
  | [], [], _, _, _ => rfl
  | [], y :: m, _, _, h => absurd ((h y).2 (by simp)) (by simp)
  | x :: l, [], _, _, h => absurd ((h x).1 (by simp)) (by simp)
  | x :: l, y :: m, hl, hm, h => by
    rw [List.pairwise_cons] at hl hm
    have e : x = y := by
      rcases List.mem_cons.1 ((h x).1 (by simp)) with e | hx
      · exact e
      · rcases List.mem_cons.1 ((h y).2 (by simp)) with e | hy
        · exact e.symm
        · exact absurd (hl.1 y hy) (asy _ _ (hm.1 x hx))
    subst e
    congr 1
    refine sorted_ext irr asy l m hl.2 hm.2 fun z => ⟨fun hz => ?_, fun hz => ?_⟩
    · rcases List.mem_cons.1 ((h z).1 (List.mem_cons_of_mem _ hz)) with rfl | hz'
      · exact absurd (hl.1 z hz) (irr z)
      · exact hz'
    · rcases List.mem_cons.1 ((h z).2 (List.mem_cons_of_mem _ hz)) with rfl | hz'
      · exact absurd (hm.1 z hz) (irr z)
      · exact hz'
theorem rises_ext {l m : List ByteArray} (hl : Rises l) (hm : Rises m) (h : ∀ x, x ∈ l ↔ x ∈ m) : l = m :=
  sorted_ext (fun a h => by rw [ltB_irrefl] at h; cases h) (fun a b h1 h2 => by rw [ltB_asymm h1] at h2; cases h2) l m hl hm h
theorem rises_nodup {l : List ByteArray} (h : Rises l) : l.Nodup := h.imp fun h => ltB_ne h

/-- A node: its key, its parents, its stamp. -/
structure Nd where
  key : ByteArray
  ps : List ByteArray
  st : Int
instance : Inhabited Nd := ⟨⟨ByteArray.empty, [], 0⟩⟩
def keysOf (ns : List Nd) : List ByteArray := ns.map Nd.key
def ndOf : List Nd → ByteArray → Nd
  | [], _ => ⟨ByteArray.empty, [], 0⟩
  | n :: ns, k => if n.key = k then n else ndOf ns k
def psOf (ns : List Nd) (k : ByteArray) : List ByteArray := (ndOf ns k).ps
def stOf (ns : List Nd) (k : ByteArray) : Int := (ndOf ns k).st

theorem ndOf_mem {ns : List Nd} (hd : (keysOf ns).Nodup) {n : Nd} (h : n ∈ ns) : ndOf ns n.key = n := by
  induction ns with
  | nil => cases h
  | cons m ns ih =>
    unfold keysOf at hd
    rw [List.map_cons, List.nodup_cons] at hd
    rw [ndOf]
    rcases List.mem_cons.1 h with rfl | h
    · rw [if_pos rfl]
    · rw [if_neg (fun e => hd.1 (by rw [e]; exact List.mem_map_of_mem h)), ih hd.2 h]
theorem ndOf_in {ns : List Nd} {k : ByteArray} (h : k ∈ keysOf ns) : ndOf ns k ∈ ns ∧ (ndOf ns k).key = k := by
  induction ns with
  | nil => cases h
  | cons m ns ih =>
    rw [ndOf]
    by_cases e : m.key = k
    · rw [if_pos e]; exact ⟨by simp, e⟩
    · rw [if_neg e]
      have h' : k ∈ keysOf ns := by
        rcases List.mem_cons.1 h with h | h
        · exact absurd h.symm e
        · exact h
      exact ⟨List.mem_cons_of_mem _ (ih h').1, (ih h').2⟩
theorem ndOf_out {ns : List Nd} {k : ByteArray} (h : k ∉ keysOf ns) : ndOf ns k = ⟨ByteArray.empty, [], 0⟩ := by
  induction ns with
  | nil => rfl
  | cons m ns ih =>
    unfold keysOf at h
    rw [List.map_cons, List.mem_cons, not_or] at h
    rw [ndOf, if_neg (fun e => h.1 e.symm), ih h.2]

/-- A history that may be. -/
structure Good (ns : List Nd) : Prop where
  few : ns.length ≤ 500
  nodup : (keysOf ns).Nodup
  there : ∀ n ∈ ns, ∀ p ∈ n.ps, p ∈ keysOf ns
  above : ∀ n ∈ ns, ∀ p ∈ n.ps, stOf ns p < n.st

/-- x is reached from a by parents. -/
inductive Reach (ns : List Nd) (a : ByteArray) : ByteArray → Prop
  | refl : Reach ns a a
  | step {b x : ByteArray} : Reach ns a b → x ∈ psOf ns b → Reach ns a x

theorem Reach.trans {ns : List Nd} {a b c : ByteArray} (h : Reach ns a b) (h2 : Reach ns b c) : Reach ns a c := by
  induction h2 with
  | refl => exact h
  | step _ hx ih => exact .step ih hx
theorem psOf_there {ns : List Nd} (G : Good ns) {k p : ByteArray} (h : p ∈ psOf ns k) : p ∈ keysOf ns := by
  by_cases hk : k ∈ keysOf ns
  · exact G.there _ (ndOf_in hk).1 p h
  · unfold psOf at h; rw [ndOf_out hk] at h; cases h
theorem Reach.there {ns : List Nd} (G : Good ns) {a x : ByteArray} (ha : a ∈ keysOf ns) (h : Reach ns a x) : x ∈ keysOf ns := by
  cases h with
  | refl => exact ha
  | step _ hx => exact psOf_there G hx
theorem psOf_above {ns : List Nd} (G : Good ns) {k p : ByteArray} (h : p ∈ psOf ns k) : stOf ns p < stOf ns k := by
  by_cases hk : k ∈ keysOf ns
  · exact G.above _ (ndOf_in hk).1 p h
  · unfold psOf at h; rw [ndOf_out hk] at h; cases h
theorem Reach.down {ns : List Nd} (G : Good ns) {a x : ByteArray} (h : Reach ns a x) : x = a ∨ stOf ns x < stOf ns a := by
  induction h with
  | refl => exact .inl rfl
  | step _ hx ih =>
    have := psOf_above G hx
    rcases ih with rfl | ih
    · exact .inr this
    · exact .inr (by omega)
theorem Reach.eq {ns : List Nd} (G : Good ns) {a x : ByteArray} (h : Reach ns a x) (hs : stOf ns a ≤ stOf ns x) : x = a := by
  rcases h.down G with e | h
  · exact e
  · omega
theorem Reach.out {ns : List Nd} {a x : ByteArray} (ha : a ∉ keysOf ns) (h : Reach ns a x) : x = a := by
  induction h with
  | refl => rfl
  | step _ hx ih => subst ih; unfold psOf at hx; rw [ndOf_out ha] at hx; cases hx

/-- l are a's ancestors, rising. -/
structure IsAnc (ns : List Nd) (a : ByteArray) (l : List ByteArray) : Prop where
  rises : Rises l
  mem : ∀ x, x ∈ l ↔ (a ∈ keysOf ns ∧ Reach ns a x)
theorem IsAnc.uniq {ns : List Nd} {a : ByteArray} {l m : List ByteArray} (h : IsAnc ns a l) (h2 : IsAnc ns a m) : l = m :=
  rises_ext h.rises h2.rises fun x => (h.mem x).trans (h2.mem x).symm
theorem IsAnc.nil {ns : List Nd} {a : ByteArray} (h : a ∉ keysOf ns) : IsAnc ns a [] := ⟨List.Pairwise.nil, fun _ => ⟨(fun h => nomatch h), fun ⟨h', _⟩ => absurd h' h⟩⟩
theorem IsAnc.le {ns : List Nd} (G : Good ns) {a : ByteArray} {l : List ByteArray} (h : IsAnc ns a l) : l.length ≤ ns.length := by
  have := List.Nodup.length_le_of_subset (rises_nodup h.rises) (l₂ := keysOf ns) (fun x hx => ((h.mem x).1 hx).2.there G ((h.mem x).1 hx).1)
  simpa [keysOf] using this

/-- Newer first; of one stamp by text. -/
def newer (ns : List Nd) (x y : ByteArray) : Prop := stOf ns y < stOf ns x ∨ (stOf ns x = stOf ns y ∧ ltB x y = true)
theorem newer_irr (ns : List Nd) (x : ByteArray) : ¬ newer ns x x := by
  rintro (h | ⟨_, h⟩)
  · omega
  · rw [ltB_irrefl] at h; cases h
theorem newer_asy (ns : List Nd) (x y : ByteArray) (h : newer ns x y) : ¬ newer ns y x := by
  rintro h2
  rcases h with h | ⟨h, h'⟩ <;> rcases h2 with h2 | ⟨h2, h2'⟩
  · omega
  · omega
  · omega
  · rw [ltB_asymm h'] at h2'; cases h2'
theorem newer_tri (ns : List Nd) (x y : ByteArray) : newer ns x y ∨ x = y ∨ newer ns y x := by
  unfold newer
  rcases Int.lt_trichotomy (stOf ns x) (stOf ns y) with h | h | h
  · exact .inr (.inr (.inl h))
  · cases h1 : ltB x y
    · cases h2 : ltB y x
      · exact .inr (.inl (ltB_tri h1 h2))
      · exact .inr (.inr (.inr ⟨h.symm, rfl⟩))
    · exact .inl (.inr ⟨h, rfl⟩)
  · exact .inl (.inl h)
/-- l is a's log. -/
structure IsLog (ns : List Nd) (a : ByteArray) (l : List ByteArray) : Prop where
  falls : l.Pairwise (newer ns)
  mem : ∀ x, x ∈ l ↔ (a ∈ keysOf ns ∧ Reach ns a x)
theorem IsLog.uniq {ns : List Nd} {a : ByteArray} {l m : List ByteArray} (h : IsLog ns a l) (h2 : IsLog ns a m) : l = m :=
  sorted_ext (newer_irr ns) (newer_asy ns) l m h.falls h2.falls fun x => (h.mem x).trans (h2.mem x).symm
theorem IsLog.nodup {ns : List Nd} {a : ByteArray} {l : List ByteArray} (h : IsLog ns a l) : l.Nodup := List.Pairwise.imp (R := newer ns) (fun {x y} h (e : x = y) => newer_irr ns x (by rw [← e] at h; exact h)) h.falls
theorem IsLog.head {ns : List Nd} (G : Good ns) {a : ByteArray} {l : List ByteArray} (h : IsLog ns a l) (ha : a ∈ keysOf ns) : ∃ m, l = a :: m := by
  have hm := (h.mem a).2 ⟨ha, .refl⟩
  cases l with
  | nil => cases hm
  | cons x m =>
    rcases List.mem_cons.1 hm with e | hm
    · exact ⟨m, by rw [e]⟩
    · exfalso
      have hf := h.falls
      rw [List.pairwise_cons] at hf
      have h1 := hf.1 a hm
      rcases (((h.mem x).1 (by simp)).2).down G with e | h2
      · subst e; exact newer_irr ns _ h1
      · rcases h1 with h1 | ⟨h1, _⟩ <;> omega

/-- a and b come from x both. -/
def Both (ns : List Nd) (a b x : ByteArray) : Prop := (a ∈ keysOf ns ∧ Reach ns a x) ∧ (b ∈ keysOf ns ∧ Reach ns b x)
/-- x is the greatest of them, by stamp, then by text. -/
structure IsBase (ns : List Nd) (a b x : ByteArray) : Prop where
  both : Both ns a b x
  most : ∀ y, Both ns a b y → y = x ∨ stOf ns y < stOf ns x ∨ (stOf ns y = stOf ns x ∧ ltB y x = true)
theorem IsBase.uniq {ns : List Nd} {a b x y : ByteArray} (h : IsBase ns a b x) (h2 : IsBase ns a b y) : x = y := by
  rcases h.most y h2.both with e | h1
  · exact e.symm
  · rcases h2.most x h.both with e | h3
    · exact e
    · rcases h1 with h1 | ⟨h1, h1'⟩ <;> rcases h3 with h3 | ⟨h3, h3'⟩
      · omega
      · omega
      · omega
      · rw [ltB_asymm h1'] at h3'; cases h3'
theorem IsBase.symm {ns : List Nd} {a b x : ByteArray} (h : IsBase ns a b x) : IsBase ns b a x := ⟨⟨h.both.2, h.both.1⟩, fun y hy => h.most y ⟨hy.2, hy.1⟩⟩
theorem IsBase.near {ns : List Nd} (G : Good ns) {a b x y : ByteArray} (h : IsBase ns a b x) (hy : Both ns a b y) (hne : y ≠ x) : ¬ Reach ns y x := by
  intro hr
  rcases hr.down G with e | h1
  · exact hne e.symm
  · rcases h.most y hy with e | h2 | ⟨h2, _⟩
    · exact hne e
    · omega
    · omega
theorem IsBase.elder {ns : List Nd} (G : Good ns) {a b x : ByteArray} (h : IsBase ns a b x) (hr : Reach ns b a) : x = a := by
  rcases h.both.1.2.down G with e | h1
  · exact e
  · rcases h.most a ⟨⟨h.both.1.1, .refl⟩, ⟨h.both.2.1, hr⟩⟩ with e | h2 | ⟨h2, _⟩
    · exact e.symm
    · omega
    · omega
theorem isBase_elder {ns : List Nd} (G : Good ns) {a b : ByteArray} (ha : a ∈ keysOf ns) (hb : b ∈ keysOf ns) (hr : Reach ns b a) : IsBase ns a b a :=
  ⟨⟨⟨ha, .refl⟩, ⟨hb, hr⟩⟩, fun y hy => by
    rcases hy.1.2.down G with e | h
    · exact .inl e
    · exact .inr (.inl h)⟩
/-- What Base answers. -/
def BaseIs (ns : List Nd) (a b x : ByteArray) (e : Int) : Prop :=
  (¬ (a ∈ keysOf ns ∧ b ∈ keysOf ns) ∧ x = ByteArray.empty ∧ e = 6) ∨
  ((a ∈ keysOf ns ∧ b ∈ keysOf ns) ∧ (∀ y, ¬ Both ns a b y) ∧ x = ByteArray.empty ∧ e = 14) ∨
  ((a ∈ keysOf ns ∧ b ∈ keysOf ns) ∧ IsBase ns a b x ∧ e = 0)
theorem BaseIs.uniq {ns : List Nd} {a b x y : ByteArray} {e f : Int} (h : BaseIs ns a b x e) (h2 : BaseIs ns a b y f) : x = y ∧ e = f := by
  rcases h with ⟨h, rfl, rfl⟩ | ⟨h, hn, rfl, rfl⟩ | ⟨h, hb, rfl⟩ <;> rcases h2 with ⟨h2, rfl, rfl⟩ | ⟨h2, hn2, rfl, rfl⟩ | ⟨h2, hb2, rfl⟩
  · exact ⟨rfl, rfl⟩
  · exact absurd h2 h
  · exact absurd h2 h
  · exact absurd h h2
  · exact ⟨rfl, rfl⟩
  · exact absurd hb2.both (hn _)
  · exact absurd h h2
  · exact absurd hb.both (hn2 _)
  · exact ⟨hb.uniq hb2, rfl⟩
theorem BaseIs.symm {ns : List Nd} {a b x : ByteArray} {e : Int} (h : BaseIs ns a b x e) : BaseIs ns b a x e := by
  rcases h with ⟨h, r⟩ | ⟨h, hn, r⟩ | ⟨h, hb, r⟩
  · exact .inl ⟨fun h' => h ⟨h'.2, h'.1⟩, r⟩
  · exact .inr (.inl ⟨⟨h.2, h.1⟩, fun y hy => hn y ⟨hy.2, hy.1⟩, r⟩)
  · exact .inr (.inr ⟨⟨h.2, h.1⟩, hb.symm, r⟩)
end Go.Proofs.Ytdjbmjkfpmchgaa
