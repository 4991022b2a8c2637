/-
  append to what a call owns: the row stays where it is, or lies in a new block.
-/
import Derived.Test.YtbmbelnjgnahhaaLib
import Derived.ArgAppend
import Derived.OwnWalk
namespace Go.Proofs.Ytbmbelnjgnahhaa
open Go.RowKit

theorem wpList_append_fresh {P : Program} (w : World) {ops : Array Oper} {rest : List Oper} {o : Oper} {act : Act} {Q : Exit → Act → World → Prop} (hgd : o.guard = none) (s x : Operand) (t : TypeId)
    (ho : o.op = Op.call { callee := Callee.builtin Builtin.append, args := #[s, x], argTypes := #[t, t] })
    (base : Nat) (e : TypeId) (i : TypeInfo) (z : Value) (bytes : Nat) (ht : P.underlying t = some (.slice e)) (hi : P.info? e = some i) (hz : i.zero = some z) (hsize : i.size = 1) (hby : i.bytes = bytes) (hzs : z.cells.size = 1)
    (k : IntKind) (a : Option Addr) (n cap : Nat) (xs : List Int) (hs : act.eval s = .slice a n cap) (hown : w.ownsRow base e 1 (.slice a n cap) n (xs.map (Value.int k))) (b : Addr) (m c : Nat) (ys : List Int) (hx : act.eval x = .slice (some b) m c) (hr : Reads k w (some b) m c ys) (hm : 0 < m)
    (h63 : n + m ≤ maxLen) (hbytes : (n + m) * bytes ≤ 140737488355328) (hbase : base ≤ w.heap.size)
    (h : ∀ a' cap' w', w'.ownsRow base e 1 (.slice a' (n + m) cap') (n + m) ((xs ++ ys).map (Value.int k)) → w.grownBy w' (Value.slice a n cap).ownBlock → (∀ r, (Value.slice a' (n + m) cap').ownBlock = some r → (Value.slice a n cap).ownBlock = some r ∨ w.heap.size ≤ r) → wpList P ops Q rest (act.put o.dst (.slice a' (n + m) cap')) w') : wpList P ops Q (o :: rest) act w := by
  have hcells : ∀ j u, (ys.map (Value.int k))[j]? = some u → w.cell? (b.add j) = some u := by
    intro j u hu
    have hj : j < ys.length := by
      rcases Nat.lt_or_ge j ys.length with h | h
      · exact h
      · simp [h] at hu
    obtain ⟨b', off, e', _, hc⟩ := hr.cells (by have := hr.len; omega)
    cases e'
    rw [Addr.add_lit, hc j (by have := hr.len; omega)]
    simp [hj] at hu
    simp [List.getD, hj, hu]
  have hyl : (ys.map (Value.int k)).length = m * 1 := by simp [hr.len]
  by_cases hroom : n + m ≤ cap
  · rcases id hown.2 with ⟨e', h0⟩ | ⟨g, c', cur, e', _⟩
    · simp at e'; omega
    · obtain ⟨rfl, rfl⟩ : a = some ⟨g, 0, Option.none⟩ ∧ cap = c' := by simpa using e'
      exact wpList_append_fits w hgd s x t ho base e i 1 ht hi hsize g n cap _ hs hown b m c _ hx hyl hcells (ints_oneCell k ys) hroom fun w' o' hg => h _ _ _ (by rw [List.map_append]; exact o') hg fun r hr' => .inl hr'
  · refine wpList_append_grows w hgd s x t ho e i z 1 bytes ht hi hz hsize hby hzs (by decide) a n cap (xs.map (Value.int k)) hs (fun e' => ?_) (by have := hown.1; simpa using this) (fun b' e' j u hu => ?_) b m c _ hx hyl hcells (ints_oneCell k ys) (by omega) h63 hbytes fun v' w' o' hg => ?_
    · rcases hown.2 with ⟨e2, h0⟩ | ⟨g, c', cur, e2, _⟩
      · simp at e2; omega
      · rw [e'] at e2; simp at e2
    · rcases id hown.2 with ⟨e2, h0⟩ | ⟨g, c', cur, e2, _⟩
      · rw [e'] at e2; simp at e2
      · obtain ⟨rfl, rfl⟩ : a = some ⟨g, 0, Option.none⟩ ∧ cap = c' := by simpa using e2
        obtain rfl : (⟨g, 0, Option.none⟩ : Addr) = b' := by simpa using e'
        exact hown.cells (g := g) rfl j u hu
    · have o'' := o'.2
      rcases o'' with ⟨_, h0⟩ | ⟨g, c', cur, rfl, hb, r⟩
      · omega
      · refine h (some ⟨g, 0, Option.none⟩) c' w' (by rw [List.map_append]; exact owns_base o' hbase) ⟨hg.os, hg.tape, hg.output, hg.size, fun q hq _ => hg.block q hq (by simp)⟩ fun r hr' => .inr ?_
        simp [Value.ownBlock] at hr'
        omega
end Go.Proofs.Ytbmbelnjgnahhaa
