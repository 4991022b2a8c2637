/-
  A map's block as a function from keys to the values that were stored. Nothing of the program.
-/
import Derived.Test.YtdjbmjkfpmchgaaLib
import Derived.Maps.OwnSet
namespace Go.Proofs.Ytdjbmjkfpmchgaa
open Go.RowKit Go.Maps

/-- An element as it stands. -/
def tokElem (v : Value) : Option (DataW Value × List MemPlace) := some (.held v, [])

/-- Block b is a map of m entries: at key a it holds M a. -/
structure MapIs (P : Program) (k : TypeId) {α : Type} (kl : α → Lit) (w : World) (b m : Nat) (M : α → Option Value) : Prop where
  ex : ∃ D : DataW Value, w.ownsMap P k tokElem b m D ∧ Maps.size D = m ∧ ∀ a, (M a = none → has D (kl a) = false) ∧ ∀ v, M a = some v → has D (kl a) = true ∧ ∀ z, D.atKey (kl a) z = .held v

section
variable {P : Program} {k : TypeId} {α : Type} {kl : α → Lit} {w w' : World} {b m : Nat} {M : α → Option Value}

theorem MapIs.lt (h : MapIs P k kl w b m M) : b < w.heap.size := by obtain ⟨D, h, _⟩ := h.ex; exact h.lt
theorem MapIs.kept {row : Option Nat} (h : MapIs P k kl w b m M) (hg : w.grownBy w' row) (hne : some b ≠ row) : MapIs P k kl w' b m M := by
  obtain ⟨D, h, r⟩ := h.ex
  exact ⟨D, h.kept hg hne, r⟩
theorem MapIs.below (h : MapIs P k kl w b m M) (hb : Below w.heap.size w w') : MapIs P k kl w' b m M := by
  have hl := h.lt
  obtain ⟨D, ho, r⟩ := h.ex
  obtain ⟨es, clock, hh, q⟩ := ho
  exact ⟨D, ⟨es, clock, (hb.block b hl).trans hh, q⟩, r⟩
theorem MapIs.setCell (h : MapIs P k kl w b m M) {p : Addr} (hne : b ≠ p.block) (v : Value) : MapIs P k kl (w.setCell p v) b m M := by
  obtain ⟨D, h, r⟩ := h.ex
  exact ⟨D, h.setCell hne v, r⟩
theorem MapIs.made (P : Program) (k : TypeId) (kl : α → Lit) (w : World) : MapIs P k kl (w.alloc (.map #[] 0)) w.heap.size 0 (fun _ => none) :=
  ⟨.map [], World.ownsMap_made _ _ _ _, rfl, fun _ => ⟨fun _ => rfl, fun _ h => nomatch h⟩⟩

theorem MapIs.run_look {t e : TypeId} (h : MapIs P k kl w b m M) (K : Keyed P k) (ht : P.underlying t = some (.map k e)) {z : Value} (hz : (zeroValue e).run P w = .ok z w) {key : Value} {a : α} (hkey : keyOf P k key = some (kl a)) :
    (Instr.lookup t (.map (some b)) key false).run P w = .ok ((M a).getD z) w := by
  obtain ⟨D, ho, _, r⟩ := h.ex
  obtain ⟨v, ps, hrun, hv⟩ := ho.lookup K ht hz (zd := .held z) (zp := []) rfl hkey
  rw [hrun]
  cases hM : M a with
  | none =>
    have h1 := (r a).1 hM
    have h2 := atKey_of_not_has (D := D) h1 (.held z)
    rw [h2] at hv
    simp [tokElem] at hv
    simp [hv.1]
  | some u =>
    have h1 := ((r a).2 u hM).2 (.held z)
    rw [h1] at hv
    simp [tokElem] at hv
    simp [hv.1]
theorem MapIs.run_look_ok {t e : TypeId} (h : MapIs P k kl w b m M) (K : Keyed P k) (ht : P.underlying t = some (.map k e)) {z : Value} (hz : (zeroValue e).run P w = .ok z w) {key : Value} {a : α} (hkey : keyOf P k key = some (kl a)) :
    (Instr.lookup t (.map (some b)) key true).run P w = .ok (.tuple #[(M a).getD z, .bool (M a).isSome]) w := by
  obtain ⟨D, ho, _, r⟩ := h.ex
  obtain ⟨v, ps, hrun, hv⟩ := ho.look_ok K ht hz (zd := .held z) (zp := []) rfl hkey
  rw [hrun]
  cases hM : M a with
  | none =>
    have h1 := (r a).1 hM
    have h2 := atKey_of_not_has (D := D) h1 (.held z)
    rw [h2] at hv
    simp [tokElem] at hv
    simp [hv.1, h1]
  | some u =>
    have h0 := ((r a).2 u hM)
    have h1 := h0.2 (.held z)
    rw [h1] at hv
    simp [tokElem] at hv
    simp [hv.1, h0.1]
theorem MapIs.run_put {t e : TypeId} [DecidableEq α] (hinj : ∀ a b, kl a = kl b → a = b) (hlit : ∀ a, WideAt.IsKeyLit (kl a)) (h : MapIs P k kl w b m M) (K : Keyed P k) (ht : P.underlying t = some (.map k e)) (hm : m < maxLen) {key : Value} {a : α} (hkey : keyOf P k key = some (kl a)) (v : Value) :
    ∃ w', (Instr.mapUpdate t (.map (some b)) key v).run P w = .ok () w' ∧ MapIs P k kl w' b (if (M a).isSome then m else m + 1) (fun x => if x = a then some v else M x) ∧ w.grownBy w' (some b) := by
  obtain ⟨D, ho, hs, r⟩ := h.ex
  obtain ⟨w', hrun, hown, hg⟩ := ho.update K ht hm hkey (val := v) (d := .held v) (ps := []) rfl
  have hD := ho.isMap
  refine ⟨w', hrun, ⟨D.put (kl a) (.held v), ?_, ?_, fun x => ?_⟩, hg⟩
  · obtain ⟨es, clock, h1, h2, h3, h4⟩ := hown
    refine ⟨es, clock, h1, h2, ?_, h4⟩
    have hsz := size_put (ho.tidy K) (k := kl a) (.held v : DataW Value)
    have e1 : Maps.size (D.put (kl a) (.held v)) = es.size := by rw [h4]; simp [Maps.size, length_sorted]
    rw [hs] at hsz
    rw [← e1, hsz]
    cases hM : M a with
    | none => simp [(r a).1 hM]
    | some u => simp [((r a).2 u hM).1]
  · rw [size_put (ho.tidy K), hs]
    cases hM : M a with
    | none => simp [(r a).1 hM]
    | some u => simp [((r a).2 u hM).1]
  · by_cases e : x = a
    · subst e
      rw [if_pos rfl]
      exact ⟨fun h => (nomatch h), fun u hu => ⟨has_put_same hD (hlit _) _, fun z => by rw [atKey_put_same hD (hlit _)]; injection hu with hu; rw [hu]⟩⟩
    · rw [if_neg e]
      have hne : kl x ≠ kl a := fun h => e (hinj _ _ h)
      exact ⟨fun h => by rw [has_put_other hne]; exact (r x).1 h, fun u hu => ⟨by rw [has_put_other hne]; exact ((r x).2 u hu).1, fun z => by rw [atKey_put_other hne]; exact ((r x).2 u hu).2 z⟩⟩
theorem MapIs.run_len {t e : TypeId} (h : MapIs P k kl w b m M) (ht : P.underlying t = some (.map k e)) (ty : TypeId) : (Builtin.len_ #[t] ty #[.map (some b)]).run P w = .ok (.int .i64 m) w := by
  obtain ⟨D, ho, hs, _⟩ := h.ex
  rw [ho.len ht ty, hs]
end

section
variable {P : Program} {k : TypeId} {α : Type} {kl : α → Lit} (w : World) {b m : Nat} {M : α → Option Value} {ops : Array Oper} {rest : List Oper} {o : Oper} {act : Act} {Q : Exit → Act → World → Prop}
theorem wpList_look (hg : o.guard = none) (x y : Operand) (t : TypeId) (hop : o.op = Op.lookup t x y false) (e : TypeId) (K : Keyed P k) (ht : P.underlying t = some (.map k e)) {z : Value} (hz : (zeroValue e).run P w = .ok z w)
    (h : MapIs P k kl w b m M) (hm : act.eval x = .map (some b)) (key : Value) (a : α) (hx : act.eval y = key) (hkey : keyOf P k key = some (kl a))
    (hK : wpList P ops Q rest (act.put o.dst ((M a).getD z)) w) : wpList P ops Q (o :: rest) act w := by
  refine wpList_plain hg fun K' hK' => ?_
  unfold Oper.wp
  simp [execOp, hop, hm, hx, h.run_look K ht hz hkey, Result.andThen]
  exact hK' _ _ hK
theorem wpList_look_ok (hg : o.guard = none) (x y : Operand) (t : TypeId) (hop : o.op = Op.lookup t x y true) (e : TypeId) (K : Keyed P k) (ht : P.underlying t = some (.map k e)) {z : Value} (hz : (zeroValue e).run P w = .ok z w)
    (h : MapIs P k kl w b m M) (hm : act.eval x = .map (some b)) (key : Value) (a : α) (hx : act.eval y = key) (hkey : keyOf P k key = some (kl a))
    (hK : wpList P ops Q rest (act.put o.dst (.tuple #[(M a).getD z, .bool (M a).isSome])) w) : wpList P ops Q (o :: rest) act w := by
  refine wpList_plain hg fun K' hK' => ?_
  unfold Oper.wp
  simp [execOp, hop, hm, hx, h.run_look_ok K ht hz hkey, Result.andThen]
  exact hK' _ _ hK
theorem wpList_put [DecidableEq α] (hinj : ∀ a b, kl a = kl b → a = b) (hlit : ∀ a, WideAt.IsKeyLit (kl a)) (hg : o.guard = none) (x y v : Operand) (t : TypeId) (hop : o.op = Op.mapUpdate t x y v) (e : TypeId) (K : Keyed P k) (ht : P.underlying t = some (.map k e))
    (h : MapIs P k kl w b m M) (hn : m < maxLen) (hm : act.eval x = .map (some b)) (key val : Value) (a : α) (hx : act.eval y = key) (hv : act.eval v = val) (hkey : keyOf P k key = some (kl a))
    (hK : ∀ w', MapIs P k kl w' b (if (M a).isSome then m else m + 1) (fun x => if x = a then some val else M x) → w.grownBy w' (some b) → wpList P ops Q rest (act.put o.dst undef) w') : wpList P ops Q (o :: rest) act w := by
  refine wpList_plain hg fun K' hK' => ?_
  obtain ⟨w', hrun, r1, r2⟩ := h.run_put hinj hlit K ht hn hkey val
  unfold Oper.wp
  simp [execOp, hop, hm, hx, hv, hrun, Result.andThen]
  exact hK' _ _ (hK w' r1 r2)
end

/-- Texts as keys. -/
def strLit (s : ByteArray) : Lit := .string s.data.toList
theorem strLit_inj (a b : ByteArray) (h : strLit a = strLit b) : a = b := by
  unfold strLit at h
  injection h with h
  cases a; cases b; congr 1; exact Array.toList_inj.1 h
theorem strLit_key (a : ByteArray) : WideAt.IsKeyLit (strLit a) := trivial
end Go.Proofs.Ytdjbmjkfpmchgaa
