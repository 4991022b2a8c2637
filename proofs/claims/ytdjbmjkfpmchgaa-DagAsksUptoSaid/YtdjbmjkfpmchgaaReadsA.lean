/-
  Slices of one cell an element (strings, bools) that read as lists. Nothing of the program.
-/
import Derived.Test.YtdjbmjkfpmchgaaLib
namespace Go.Proofs.Ytdjbmjkfpmchgaa
open Go.RowKit

/-- The slice value (a, n, cap) reads as the list xs; f: an element as a value. -/
structure ReadsA {α : Type} (f : α → Value) (d : α) (w : World) (a : Option Addr) (n cap : Nat) (xs : List α) : Prop where
  len : xs.length = n
  le : n ≤ cap
  max : cap ≤ maxLen
  nil : a = none → n = 0 ∧ cap = 0
  cells : 0 < n → ∃ b off, a = some ⟨b, off, none⟩ ∧ b < w.heap.size ∧ ∀ i, i < n → w.cell? ⟨b, off + i, none⟩ = some (f (xs.getD i d))

section
variable {α : Type} {f : α → Value} {d : α} {w w' : World} {a : Option Addr} {n cap : Nat} {xs ys : List α}
theorem ReadsA.below (h : ReadsA f d w a n cap xs) (hb : Below w.heap.size w w') : ReadsA f d w' a n cap xs :=
  ⟨h.len, h.le, h.max, h.nil, fun hn => by
    obtain ⟨b, off, e, hl, hc⟩ := h.cells hn
    exact ⟨b, off, e, Nat.lt_of_lt_of_le hl hb.size, fun i hi => (hb.cell (p := ⟨b, off + i, none⟩) hl).trans (hc i hi)⟩⟩
theorem ReadsA.n63 (h : ReadsA f d w a n cap xs) : n ≤ 9223372036854775807 ∧ cap ≤ 9223372036854775807 := by
  have h1 := h.le; have h2 := h.max; unfold maxLen at h2; omega
theorem ReadsA.none (f : α → Value) (d : α) (w : World) : ReadsA f d w none 0 0 [] := ⟨rfl, Nat.le_refl _, by decide, fun _ => ⟨rfl, rfl⟩, fun h => absurd h (by decide)⟩
theorem ReadsA.drewN (h : ReadsA f d w a n cap xs) (m : Nat) : ReadsA f d (w.drewN m) a n cap xs := ⟨h.len, h.le, h.max, h.nil, h.cells⟩
theorem ReadsA.drew (h : ReadsA f d w a n cap xs) : ReadsA f d w.drew a n cap xs := ⟨h.len, h.le, h.max, h.nil, h.cells⟩
theorem ReadsA.cellAt (h : ReadsA f d w a n cap xs) (i : Nat) (hi : i < n) :
    ∃ b off, a = some ⟨b, off, Option.none⟩ ∧ b < w.heap.size ∧ w.cell? ⟨b, off + i, Option.none⟩ = some (f (xs.getD i d)) := by
  obtain ⟨b, off, e, hl, hc⟩ := h.cells (by omega)
  exact ⟨b, off, e, hl, hc i hi⟩
/-- What a call owns reads. -/
theorem readsA_of_owns (d : α) {T base : Nat} (h : w.ownsRow base T 1 (.slice a n cap) n (xs.map f)) : ReadsA f d w a n cap xs := by
  obtain ⟨hl, h⟩ := h
  have hl' : xs.length = n := by simpa using hl
  rcases h with ⟨e, rfl⟩ | ⟨g, c, cur, e, hb, hg, hnc, hcm, hcs, ht⟩
  · simp at e; obtain ⟨rfl, rfl⟩ := e
    exact ⟨hl', Nat.zero_le _, by decide, fun _ => ⟨rfl, rfl⟩, fun h => absurd h (by decide)⟩
  · simp at e; obtain ⟨rfl, rfl⟩ := e
    refine ⟨hl', hnc, hcm, (fun h => nomatch h), fun hn => ⟨g, 0, rfl, (Array.getElem?_eq_some_iff.1 hg).1, fun i hi => ?_⟩⟩
    have h1 := (World.ownsRow.cellAt (g := g) (n := n) (cap := cap) (xs := xs.map f) ⟨hl, .inr ⟨g, cap, cur, rfl, hb, hg, hnc, hcm, hcs, ht⟩⟩ i (by omega))
    rw [Nat.zero_add, h1]
    simp [List.getD, hl', hi]
theorem ownsA_set {T base g : Nat} (h : w.ownsRow base T 1 (.slice (some ⟨g, 0, Option.none⟩) n cap) n (xs.map f)) (i : Nat) (x : α) :
    (w.setCell ⟨g, i, Option.none⟩ (f x)).ownsRow base T 1 (.slice (some ⟨g, 0, Option.none⟩) n cap) n ((xs.set i x).map f) := by
  rw [List.map_set]; exact (h.stored i _).1
theorem ownsA_cell (d : α) {T base g : Nat} (h : w.ownsRow base T 1 (.slice (some ⟨g, 0, Option.none⟩) n cap) n (xs.map f)) (i : Nat) (hi : i < n) : w.cell? ⟨g, i, Option.none⟩ = some (f (xs.getD i d)) := by
  have hl : xs.length = n := by simpa using h.1
  rw [h.cellAt i (by omega)]
  simp [List.getD, hl, hi]
theorem getD_setA (d : α) (xs : List α) (i j : Nat) (x : α) : (xs.set i x).getD j d = if i = j ∧ i < xs.length then x else xs.getD j d := by
  simp only [List.getD, List.getElem?_set]
  by_cases h : i = j
  · subst h
    by_cases h' : i < xs.length <;> simp [h']
  · simp [h]
theorem ext_getDA (d : α) {xs ys : List α} (hl : xs.length = ys.length) (h : ∀ i, i < xs.length → xs.getD i d = ys.getD i d) : xs = ys := by
  apply List.ext_getElem hl
  intro i h1 h2
  have := h i h1
  simpa [List.getD, h1, h2] using this
theorem readsA_alloc (d : α) (w : World) (xs : List α) (C : Array Value) (e : TypeId) (fr : Nat × Nat) (h : C = (xs.map f).toArray) (hm : xs.length ≤ maxLen) (n : Nat) (hn : n = xs.length) :
    ReadsA f d (w.alloc (.cells C e fr)) (some ⟨w.heap.size, 0, none⟩) n n xs := by
  subst h hn
  have hh : (w.alloc (.cells (xs.map f).toArray e fr)).heap[w.heap.size]? = some (.cells (xs.map f).toArray e fr) := by
    show (w.heap.push _)[w.heap.size]? = _
    simp
  refine ⟨rfl, Nat.le_refl _, hm, (fun h => nomatch h), fun _ => ⟨w.heap.size, 0, rfl, by simp, fun i hi => ?_⟩⟩
  unfold World.cell?
  rw [hh]
  simp [hi, List.getD]
end

section
variable {P : Program} (w : World) {α : Type} {f : α → Value} {d : α}
theorem run_append_readsA (hf : ∀ x, (f x).oneCell' = true) (base : Nat) (t ty e : TypeId) (i : TypeInfo) (z : Value) (bytes : Nat) (ht : P.underlying t = some (.slice e)) (hi : P.info? e = some i) (hz : i.zero = some z) (hsize : i.size = 1) (hby : i.bytes = bytes) (hzs : z.cells.size = 1)
    (a : Option Addr) (n cap : Nat) (xs : List α) (hown : w.ownsRow base e 1 (.slice a n cap) n (xs.map f)) (b : Option Addr) (m c : Nat) (ys : List α) (hr : ReadsA f d w b m c ys)
    (h63 : n + m ≤ maxLen) (hbytes : (n + m) * bytes ≤ 140737488355328) (hbase : base ≤ w.heap.size) :
    ∃ a' cap' w', (Builtin.append_ #[t, t] ty #[.slice a n cap, .slice b m c]).run P w = .ok (.slice a' (n + m) cap') w' ∧ w'.ownsRow base e 1 (.slice a' (n + m) cap') (n + m) ((xs ++ ys).map f) ∧ w.grownBy w' (Value.slice a n cap).ownBlock := by
  cases b with
  | none =>
    obtain ⟨rfl, rfl⟩ := hr.nil rfl
    obtain rfl : ys = [] := List.eq_nil_of_length_eq_zero hr.len
    refine ⟨a, cap, w, ?_, by simpa using hown, World.grownBy.refl _ _⟩
    exact run_append_owned_none (P := P) w base t ty e i 1 ht hi _ n _ hown
  | some ad =>
    have hcells : ∀ j u, (ys.map f)[j]? = some u → w.cell? (ad.add j) = some u := by
      intro j u hu
      have hj : j < ys.length := by
        rcases Nat.lt_or_ge j ys.length with h | h
        · exact h
        · simp [h] at hu
      obtain ⟨b', off, e', _, hc⟩ := hr.cells (by have := hr.len; omega)
      cases e'
      rw [Addr.add_lit, hc j (by have := hr.len; omega)]
      simp [hj] at hu
      simp [List.getD, hj, hu]
    obtain ⟨v', w', hrun, ho, hg, hn⟩ := run_append_own (P := P) w base t ty e i z 1 bytes ht hi hz hsize hby hzs (by decide) _ n _ hown ad m c (ys.map f) (by simp [hr.len]) hcells (fun u hu => by
      obtain ⟨x, _, rfl⟩ := List.mem_map.1 hu
      exact hf x) h63 hbytes hbase
    rcases ho.2 with ⟨rfl, h0⟩ | ⟨g, c', cur, rfl, r⟩
    · exact ⟨none, 0, w', by rw [hrun, h0], by rw [h0] at ho ⊢; simpa using ho, hg⟩
    · exact ⟨some ⟨g, 0, none⟩, c', w', hrun, by simpa using ho, hg⟩

theorem wpList_append_readsA (hf : ∀ x, (f x).oneCell' = true) {ops : Array Oper} {rest : List Oper} {o : Oper} {act : Act} {Q : Exit → Act → World → Prop} (hgd : o.guard = none) (s x : Operand) (t : TypeId)
    (ho : o.op = Op.call { callee := Callee.builtin Builtin.append, args := #[s, x], argTypes := #[t, t] })
    (base : Nat) (e : TypeId) (i : TypeInfo) (z : Value) (bytes : Nat) (ht : P.underlying t = some (.slice e)) (hi : P.info? e = some i) (hz : i.zero = some z) (hsize : i.size = 1) (hby : i.bytes = bytes) (hzs : z.cells.size = 1)
    (a : Option Addr) (n cap : Nat) (xs : List α) (hs : act.eval s = .slice a n cap) (hown : w.ownsRow base e 1 (.slice a n cap) n (xs.map f)) (b : Option Addr) (m c : Nat) (ys : List α) (hx : act.eval x = .slice b m c) (hr : ReadsA f d w b m c ys)
    (h63 : n + m ≤ maxLen) (hbytes : (n + m) * bytes ≤ 140737488355328) (hbase : base ≤ w.heap.size)
    (h : ∀ a' cap' w', w'.ownsRow base e 1 (.slice a' (n + m) cap') (n + m) ((xs ++ ys).map f) → w.grownBy w' (Value.slice a n cap).ownBlock → wpList P ops Q rest (act.put o.dst (.slice a' (n + m) cap')) w') : wpList P ops Q (o :: rest) act w := by
  refine wpList_plain hgd fun K hK => ?_
  obtain ⟨a', cap', w', hr, h2, h3⟩ := run_append_readsA (P := P) w (d := d) hf base t o.type e i z bytes ht hi hz hsize hby hzs a n cap xs hown b m c ys hr h63 hbytes hbase
  unfold Oper.wp execOp
  simp only [ho, resolve, invoke, builtin, Sem.run_bind, Sem.run_pure, Result.andThen_ok, List.map_toArray, List.map_cons, List.map_nil, hs, hx, hr]
  exact hK _ _ (h a' cap' w' h2 h3)
end

/-- Strings, bools. -/
abbrev Strs := ReadsA Value.string ByteArray.empty
abbrev Bls := ReadsA Value.bool false
theorem str_one (s : ByteArray) : (Value.string s).oneCell' = true := rfl
theorem bool_one (b : Bool) : (Value.bool b).oneCell' = true := rfl
theorem str_beq (s t : ByteArray) : (s.toList == t.toList) = decide (s = t) := by
  rw [Bool.eq_iff_iff, beq_iff_eq, decide_eq_true_eq, ByteArray.toList_eq, ByteArray.toList_eq]
  refine ⟨fun h => ?_, fun h => by rw [h]⟩
  cases s; cases t
  congr 1
  exact Array.toList_inj.1 h
theorem str_ne {s t : ByteArray} (h : ¬ s = t) : (s.toList == t.toList) = false := by rw [str_beq]; exact decide_eq_false h
theorem str_eq (s : ByteArray) : (s.toList == s.toList) = true := by rw [str_beq]; exact decide_eq_true rfl
theorem take_getDA {α : Type} (d : α) (xs : List α) (i : Nat) (h : i < xs.length) : xs.take (i+1) = xs.take i ++ [xs.getD i d] := by
  rw [List.take_succ_eq_append_getElem h]; simp [List.getD, h]
end Go.Proofs.Ytdjbmjkfpmchgaa
