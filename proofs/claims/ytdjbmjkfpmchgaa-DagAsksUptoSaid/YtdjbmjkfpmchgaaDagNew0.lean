/-
  Nodes that lie from a cell on; what stays while a map is stored into.
-/
import Derived.Test.YtdjbmjkfpmchgaaDagG
import Derived.Deep.RegionHeld3
namespace Go.Proofs.Ytdjbmjkfpmchgaa
open Go.RowKit Go.Maps

/-- Nodes that lie from a cell on. -/
structure NdL (w : World) (a : Option Addr) (n cap : Nat) (ns : List Nd) : Prop where
  len : ns.length = n
  le : n ≤ cap
  max : cap ≤ maxLen
  nil : a = Option.none → n = 0 ∧ cap = 0
  cells : 0 < n → ∃ b off, a = some ⟨b, off, Option.none⟩ ∧ b < w.heap.size ∧ ∀ j, j < n → ∃ pa pc, w.cell? ⟨b, off + j * 3, Option.none⟩ = some (.string (ns.getD j default).key) ∧
    w.cell? ⟨b, off + j * 3 + 1, Option.none⟩ = some (.slice pa (ns.getD j default).ps.length pc) ∧ w.cell? ⟨b, off + j * 3 + 2, Option.none⟩ = some (.int .i64 (ns.getD j default).st) ∧ Strs w pa (ns.getD j default).ps.length pc (ns.getD j default).ps
theorem NdL.below {w w' : World} {a : Option Addr} {n cap : Nat} {ns : List Nd} (h : NdL w a n cap ns) (hb : Below w.heap.size w w') : NdL w' a n cap ns :=
  ⟨h.len, h.le, h.max, h.nil, fun hn => by
    obtain ⟨b, off, e, hl, hc⟩ := h.cells hn
    refine ⟨b, off, e, Nat.lt_of_lt_of_le hl hb.size, fun j hj => ?_⟩
    obtain ⟨pa, pc, c0, c1, c2, s⟩ := hc j hj
    exact ⟨pa, pc, (hb.cell (p := ⟨b, _, none⟩) hl).trans c0, (hb.cell (p := ⟨b, _, none⟩) hl).trans c1, (hb.cell (p := ⟨b, _, none⟩) hl).trans c2, s.below hb⟩⟩
theorem NdL.n63 {w : World} {a : Option Addr} {n cap : Nat} {ns : List Nd} (h : NdL w a n cap ns) : n ≤ 9223372036854775807 ∧ cap ≤ 9223372036854775807 := by
  have h1 := h.le; have h2 := h.max; unfold maxLen at h2; omega
/-- Texts short enough for a key. -/
def Keyable (ns : List Nd) : Prop := ∀ n ∈ ns, n.key.size ≤ maxLen ∧ n.ps.length * 16 ≤ 140737488355328 ∧ ∀ p ∈ n.ps, p.size ≤ maxLen

theorem cell_map {w : World} {b : Nat} {es : Array MapEntry} {clock : Nat} (h : w.heap[b]? = some (.map es clock)) (i : Nat) (v : Value) : w.cell? ⟨b, i, Option.none⟩ ≠ some v := by
  intro hc
  unfold World.cell? at hc
  rw [h] at hc
  simp at hc
theorem MapIs.block {P : Program} {k : TypeId} {α : Type} {kl : α → Lit} {w : World} {b m : Nat} {M : α → Option Value} (h : MapIs P k kl w b m M) : ∃ es clock, w.heap[b]? = some (.map es clock) := by
  obtain ⟨D, ⟨es, clock, hb, _⟩, _⟩ := h.ex
  exact ⟨es, clock, hb⟩
theorem MapIs.drew {P : Program} {k : TypeId} {α : Type} {kl : α → Lit} {w : World} {b m : Nat} {M : α → Option Value} (h : MapIs P k kl w b m M) : MapIs P k kl w.drew b m M := by
  obtain ⟨D, ho, r⟩ := h.ex
  exact ⟨D, ho.drew, r⟩
theorem MapIs.drewN {P : Program} {k : TypeId} {α : Type} {kl : α → Lit} {w : World} {b m : Nat} {M : α → Option Value} (h : MapIs P k kl w b m M) (q : Nat) : MapIs P k kl (w.drewN q) b m M := by
  obtain ⟨D, ho, r⟩ := h.ex
  exact ⟨D, ho, r⟩
theorem field2 (k : ByteArray) (a : Option Addr) (n cap : Nat) (st : Int) (w : World) : (Instr.field 44 (.agg #[.string k, .slice a n cap, .int .i64 st]) 2).run Try.prog w = .ok (.int .i64 st) w := by kernel_rfl
theorem field1 (k : ByteArray) (a : Option Addr) (n cap : Nat) (st : Int) (w : World) : (Instr.field 44 (.agg #[.string k, .slice a n cap, .int .i64 st]) 1).run Try.prog w = .ok (.slice a n cap) w := by kernel_rfl
/-- A look-up in a graph's map. -/
theorem Gr.look {w : World} {g gm : Nat} {M : ByteArray → Option Value} {ns : List Nd} (h : Gr w g gm M ns) (k : ByteArray) (hk : k.size ≤ maxLen) : ∃ k' a cap, (∀ q, (Instr.lookup 53 (.map (some gm)) (.string k) false).run Try.prog (w.drewN q) = .ok (.agg #[.string k', .slice a (psOf ns k).length cap, .int .i64 (stOf ns k)]) (w.drewN q)) ∧ Strs w a (psOf ns k).length cap (psOf ns k) := by
  obtain ⟨k', a, cap, e1, s, _⟩ := h.nd.get k
  refine ⟨k', a, cap, fun q => ?_, s⟩
  rw [(h.map.drewN q).run_look keyedS Try.underlying53 (zeroNd _) (keyOfS k (by unfold maxLen at *; omega)), e1]
theorem Gr.look2 {w wr : World} {g gm : Nat} {M : ByteArray → Option Value} {ns : List Nd} (h : Gr w g gm M ns) (hb : Below w.heap.size w wr) (k : ByteArray) (hk : k.size ≤ maxLen) : ∃ k' a cap, (∀ q, (Instr.lookup 53 (.map (some gm)) (.string k) false).run Try.prog (wr.drewN q) = .ok (.agg #[.string k', .slice a (psOf ns k).length cap, .int .i64 (stOf ns k)]) (wr.drewN q)) ∧ Strs w a (psOf ns k).length cap (psOf ns k) := by
  obtain ⟨k', a, cap, e1, s, _⟩ := h.nd.get k
  refine ⟨k', a, cap, fun q => ?_, s⟩
  rw [((h.map.below hb).drewN q).run_look keyedS Try.underlying53 (zeroNd _) (keyOfS k (by unfold maxLen at *; omega)), e1]
theorem MapIs.cell {P : Program} {k : TypeId} {α : Type} {kl : α → Lit} {w w' : World} {b m : Nat} {M : α → Option Value} (h : MapIs P k kl w b m M) (hg : w.grownBy w' (some b)) {q i : Nat} {v : Value} (hc : w.cell? ⟨q, i, Option.none⟩ = some v) : w'.cell? ⟨q, i, Option.none⟩ = some v := by
  obtain ⟨es, clock, hb⟩ := h.block
  have hne : q ≠ b := by
    rintro rfl
    exact cell_map hb i v hc
  have hlt : q < w.heap.size := World.block_lt_of_cell? _ _ hc
  have e := hg.block q hlt (fun e => hne (by injection e))
  unfold World.cell? at hc ⊢
  rw [e]; exact hc
theorem MapIs.strs {P : Program} {k : TypeId} {α : Type} {kl : α → Lit} {w w' : World} {b m : Nat} {M : α → Option Value} (h : MapIs P k kl w b m M) (hg : w.grownBy w' (some b)) {a : Option Addr} {n cap : Nat} {xs : List ByteArray} (hs : Strs w a n cap xs) : Strs w' a n cap xs :=
  ⟨hs.len, hs.le, hs.max, hs.nil, fun hn => by
    obtain ⟨q, off, e, hl, hc⟩ := hs.cells hn
    exact ⟨q, off, e, Nat.lt_of_lt_of_le hl hg.size, fun i hi => h.cell hg (hc i hi)⟩⟩

section
variable {P : Program} {k : TypeId} {α : Type} {kl : α → Lit} (w : World) {b m : Nat} {M : α → Option Value} {ops : Array Oper} {o : Oper} {act : Act} {K : Act → World → Prop} {Q : Exit → Act → World → Prop} {E : Prop}
theorem step_put [DecidableEq α] (hinj : ∀ a b, kl a = kl b → a = b) (hlit : ∀ a, WideAt.IsKeyLit (kl a)) (hg : o.guard = none) (x y v : Operand) (t : TypeId) (hop : o.op = Op.mapUpdate t x y v) (e : TypeId) (Kd : Keyed P k) (ht : P.underlying t = some (.map k e))
    (h : MapIs P k kl w b m M) (hn : m < maxLen) (hm : act.eval x = .map (some b)) (key val : Value) (a : α) (hx : act.eval y = key) (hv : act.eval v = val) (hkey : keyOf P k key = some (kl a))
    (hK : ∀ w', MapIs P k kl w' b (if (M a).isSome then m else m + 1) (fun x => if x = a then some val else M x) → w.grownBy w' (some b) → K (act.put o.dst undef) w') : if Region.wanted o (yielded ops act.tmps) = true then Oper.wp P o act w K Q else E := by
  have hw : Region.wanted o (yielded ops act.tmps) = true := by simp [Region.wanted, hg]
  rw [if_pos hw]
  obtain ⟨w', hrun, r1, r2⟩ := h.run_put hinj hlit Kd ht hn hkey val
  unfold Oper.wp
  simp [execOp, hop, hm, hx, hv, hrun, Result.andThen]
  exact hK w' r1 r2
end

theorem cell_alloc (w : World) (C : Array Value) (T : TypeId) (fr : Nat × Nat) (i : Nat) (v : Value) (h : C[i]? = some v) : (w.alloc (.cells C T fr)).cell? ⟨w.heap.size, i, Option.none⟩ = some v := by
  have hh : (w.alloc (.cells C T fr)).heap[w.heap.size]? = some (.cells C T fr) := by
    show (w.heap.push _)[w.heap.size]? = _
    simp
  unfold World.cell?
  rw [hh]
  simp [h]
theorem keysOf_take {ns : List Nd} {i : Nat} (h : i < ns.length) : keysOf (ns.take (i + 1)) = keysOf (ns.take i) ++ [(ns.getD i default).key] := by
  unfold keysOf
  rw [List.take_succ_eq_append_getElem h, List.map_append]
  simp [List.getD, h]
theorem ndOf_append {ns : List Nd} {n : Nd} (k : ByteArray) (hk : k ∈ keysOf ns) : ndOf (ns ++ [n]) k = ndOf ns k := by
  induction ns with
  | nil => cases hk
  | cons m ns ih =>
    rw [List.cons_append, ndOf, ndOf]
    by_cases e : m.key = k
    · rw [if_pos e, if_pos e]
    · rw [if_neg e, if_neg e]
      exact ih ((List.mem_cons.1 hk).resolve_left (fun h => e h.symm))
theorem ndOf_append_new {ns : List Nd} {n : Nd} (hk : n.key ∉ keysOf ns) : ndOf (ns ++ [n]) n.key = n := by
  induction ns with
  | nil => simp [ndOf]
  | cons m ns ih =>
    unfold keysOf at hk ih
    rw [List.map_cons, List.mem_cons, not_or] at hk
    rw [List.cons_append, ndOf, if_neg (fun e => hk.1 e.symm), ih hk.2]
theorem take_getDN {ns : List Nd} {i : Nat} (h : i < ns.length) : ns.take (i + 1) = ns.take i ++ [ns.getD i default] := by
  rw [List.take_succ_eq_append_getElem h]; simp [List.getD, h]
/-- One node more. -/
theorem Gr.put {w w' : World} {g gm : Nat} {M : ByteArray → Option Value} {ns : List Nd} {i : Nat} (h : Gr w g gm M (ns.take i)) (hi : i < ns.length) (hk : (ns.getD i default).key ∉ keysOf (ns.take i)) {a : Option Addr} {cap : Nat}
    (hs : Strs w a (ns.getD i default).ps.length cap (ns.getD i default).ps)
    (hM : MapS w' gm (if (M (ns.getD i default).key).isSome then (ns.take i).length else (ns.take i).length + 1) (fun x => if x = (ns.getD i default).key then some (ndV (ns.getD i default).key a (ns.getD i default).ps.length cap (ns.getD i default).st) else M x)) (hg : w.grownBy w' (some gm)) :
    Gr w' g gm (fun x => if x = (ns.getD i default).key then some (ndV (ns.getD i default).key a (ns.getD i default).ps.length cap (ns.getD i default).st) else M x) (ns.take (i + 1)) := by
  have hn := (h.nd (ns.getD i default).key).1 hk
  rw [hn] at hM
  refine ⟨h.map.cell hg h.cell, Nat.lt_of_lt_of_le h.lt hg.size, ?_, fun x => ?_⟩
  · have e : (ns.take (i + 1)).length = (ns.take i).length + 1 := by simp; omega
    rw [e]; exact hM
  · rw [keysOf_take hi, List.mem_append, List.mem_singleton]
    unfold psOf stOf
    rw [take_getDN hi]
    generalize ns.getD i default = nd at *
    by_cases e : x = nd.key
    · subst e
      rw [if_pos rfl, ndOf_append_new hk]
      exact ⟨fun h => absurd (.inr rfl) h, fun _ => ⟨a, cap, rfl, h.map.strs hg hs⟩⟩
    · rw [if_neg e]
      refine ⟨fun h' => (h.nd x).1 (fun h'' => h' (.inl h'')), fun h' => ?_⟩
      have hx := h'.resolve_right e
      rw [ndOf_append x hx]
      obtain ⟨a', cap', e', s'⟩ := (h.nd x).2 hx
      exact ⟨a', cap', e', h.map.strs hg s'⟩
end Go.Proofs.Ytdjbmjkfpmchgaa
