/-
  append to a list of elements of whatever size.
-/
import Derived.Test.YtdjbmjkfpmchgaaLib
import Derived.ArgAppend
import Derived.OwnWalk
import Derived.RegionTactic
namespace Go.Proofs.Ytdjbmjkfpmchgaa
open Go.RowKit

/-! ### append to a list of structs -/
theorem run_append_any {P : Program} (w : World) (base : Nat) (t ty e : TypeId) (i : TypeInfo) (z : Value) (size bytes : Nat) (ht : P.underlying t = some (.slice e)) (hi : P.info? e = some i) (hz : i.zero = some z) (hsize : i.size = size) (hby : i.bytes = bytes) (hzs : z.cells.size = size) (hsz : 0 < size)
    (a : Option Addr) (n cap : Nat) (xs : List Value) (hown : w.ownsRow base e size (.slice a n cap) n xs) (b : Addr) (m c : Nat) (ys : List Value) (hl : ys.length = m * size) (hc : ∀ j u, ys[j]? = some u → w.cell? (b.add j) = some u) (h1 : ∀ u ∈ ys, u.oneCell' = true)
    (hm : 0 < m) (h63 : n + m ≤ maxLen) (hbytes : (n + m) * bytes ≤ 140737488355328) (hbase : base ≤ w.heap.size) :
    ∃ a' cap' w', (Builtin.append_ #[t, t] ty #[.slice a n cap, .slice (some b) m c]).run P w = .ok (.slice a' (n + m) cap') w' ∧ w'.ownsRow base e size (.slice a' (n + m) cap') (n + m) (xs ++ ys) ∧ w.grownBy w' (Value.slice a n cap).ownBlock ∧
      (∀ r, (Value.slice a' (n + m) cap').ownBlock = some r → (Value.slice a n cap).ownBlock = some r ∨ w.heap.size ≤ r) := by
  have fresh : ∀ v' w', w'.ownsRow w.heap.size e size v' (n + m) (xs ++ ys) → w.grownBy w' Option.none → ∃ a' cap', v' = .slice a' (n + m) cap' ∧ w'.ownsRow base e size (.slice a' (n + m) cap') (n + m) (xs ++ ys) ∧ w.grownBy w' (Value.slice a n cap).ownBlock ∧
      (∀ r, (Value.slice a' (n + m) cap').ownBlock = some r → (Value.slice a n cap).ownBlock = some r ∨ w.heap.size ≤ r) := by
    intro v' w' o' hg
    rcases id o'.2 with ⟨_, h0⟩ | ⟨g, c', cur, rfl, hb, r⟩
    · omega
    · refine ⟨some ⟨g, 0, Option.none⟩, c', rfl, ⟨o'.1, ?_⟩, ⟨hg.os, hg.tape, hg.output, hg.size, fun q hq _ => hg.block q hq (by simp)⟩, fun r hr' => .inr ?_⟩
      · exact .inr ⟨g, c', cur, rfl, Nat.le_trans hbase hb, r⟩
      · simp [Value.ownBlock] at hr'
        omega
  rcases id hown.2 with ⟨e1, h0⟩ | ⟨g, c', cur, e1, _⟩
  · obtain ⟨rfl, rfl, rfl⟩ : a = Option.none ∧ n = 0 ∧ cap = 0 := by simpa using e1
    obtain rfl : xs = [] := List.eq_nil_of_length_eq_zero (by have := hown.1; simpa using this)
    obtain ⟨v', w', hrun, r1, r2, _⟩ := run_append_own (P := P) w w.heap.size t ty e i z size bytes ht hi hz hsize hby hzs hsz (.slice Option.none 0 0) 0 [] (World.ownsRow_nil w _ e size) b m c ys hl hc h1 h63 hbytes (Nat.le_refl _)
    obtain ⟨a', cap', rfl, k1, k2, k3⟩ := fresh v' w' r1 r2
    exact ⟨a', cap', w', hrun, k1, k2, k3⟩
  · obtain ⟨rfl, rfl⟩ : a = some ⟨g, 0, Option.none⟩ ∧ cap = c' := by simpa using e1
    by_cases hroom : n + m ≤ cap
    · obtain ⟨w', hrun, r1, r2⟩ := run_append_fits (P := P) w base t ty e i size ht hi hsize g n cap xs hown b m c ys hl hc h1 hroom
      exact ⟨_, _, w', hrun, r1, r2, fun r hr => .inl hr⟩
    · obtain ⟨v', w', hrun, r1, r2⟩ := run_append_arg_grows (P := P) w t ty e i z size bytes ht hi hz hsize hby hzs hsz ⟨g, 0, Option.none⟩ n cap xs hown.1 (fun j u hu => hown.cells (g := g) rfl j u hu) b m c ys hl hc (by omega) h63 hbytes
      obtain ⟨a', cap', rfl, k1, k2, k3⟩ := fresh v' w' r1 r2
      exact ⟨a', cap', w', hrun, k1, k2, k3⟩

/-- The same as a step of a region that draws. -/
theorem step_append_any {P : Program} {w : World} {ops : Array Oper} {o : Oper} {act : Act} {K : Act → World → Prop} {Q : Exit → Act → World → Prop} {E : Prop} (hgd : o.guard = Option.none) (s x : Operand) (t : TypeId)
    (ho : o.op = Op.call { callee := Callee.builtin Builtin.append, args := #[s, x], argTypes := #[t, t] })
    (base : Nat) (e : TypeId) (i : TypeInfo) (z : Value) (size bytes : Nat) (ht : P.underlying t = some (.slice e)) (hi : P.info? e = some i) (hz : i.zero = some z) (hsize : i.size = size) (hby : i.bytes = bytes) (hzs : z.cells.size = size) (hsz : 0 < size)
    (a : Option Addr) (n cap : Nat) (xs : List Value) (hs : act.eval s = .slice a n cap) (hown : w.ownsRow base e size (.slice a n cap) n xs) (b : Addr) (m c : Nat) (ys : List Value) (hx : act.eval x = .slice (some b) m c) (hl : ys.length = m * size) (hc : ∀ j u, ys[j]? = some u → w.cell? (b.add j) = some u) (h1 : ∀ u ∈ ys, u.oneCell' = true)
    (hm : 0 < m) (h63 : n + m ≤ maxLen) (hbytes : (n + m) * bytes ≤ 140737488355328) (hbase : base ≤ w.heap.size)
    (h : ∀ a' cap' w', w'.ownsRow base e size (.slice a' (n + m) cap') (n + m) (xs ++ ys) → w.grownBy w' (Value.slice a n cap).ownBlock → (∀ r, (Value.slice a' (n + m) cap').ownBlock = some r → (Value.slice a n cap).ownBlock = some r ∨ w.heap.size ≤ r) → K (act.put o.dst (.slice a' (n + m) cap')) w') :
    if Region.wanted o (yielded ops act.tmps) = true then Oper.wp P o act w K Q else E := by
  have hw : Region.wanted o (yielded ops act.tmps) = true := by simp [Region.wanted, hgd]
  rw [if_pos hw]
  obtain ⟨a', cap', w', hr, h2, h3, h4⟩ := run_append_any (P := P) w base t o.type e i z size bytes ht hi hz hsize hby hzs hsz a n cap xs hown b m c ys hl hc h1 hm h63 hbytes hbase
  unfold Oper.wp execOp
  simp only [ho, resolve, invoke, builtin, Sem.run_bind, Sem.run_pure, Result.andThen_ok, List.map_toArray, List.map_cons, List.map_nil, hs, hx, hr]
  exact h a' cap' w' h2 h3 h4

theorem owns_keep {w w' : World} {base T size n : Nat} {v : Value} {xs : List Value} (h : w.ownsRow base T size v n xs) (hb : ∀ r, v.ownBlock = some r → w'.heap[r]? = w.heap[r]?) : w'.ownsRow base T size v n xs := by
  refine ⟨h.1, ?_⟩
  rcases h.2 with h | ⟨q, c', cur, e', hq, hh, r⟩
  · exact .inl h
  · refine .inr ⟨q, c', cur, e', hq, ?_, r⟩
    rw [hb q (by rw [e']; rfl), hh]


theorem wpList_append_any {P : Program} (w : World) {ops : Array Oper} {rest : List Oper} {o : Oper} {act : Act} {Q : Exit → Act → World → Prop} (hgd : o.guard = Option.none) (s x : Operand) (t : TypeId)
    (ho : o.op = Op.call { callee := Callee.builtin Builtin.append, args := #[s, x], argTypes := #[t, t] })
    (base : Nat) (e : TypeId) (i : TypeInfo) (z : Value) (size bytes : Nat) (ht : P.underlying t = some (.slice e)) (hi : P.info? e = some i) (hz : i.zero = some z) (hsize : i.size = size) (hby : i.bytes = bytes) (hzs : z.cells.size = size) (hsz : 0 < size)
    (a : Option Addr) (n cap : Nat) (xs : List Value) (hs : act.eval s = .slice a n cap) (hown : w.ownsRow base e size (.slice a n cap) n xs) (b : Addr) (m c : Nat) (ys : List Value) (hx : act.eval x = .slice (some b) m c) (hl : ys.length = m * size) (hc : ∀ j u, ys[j]? = some u → w.cell? (b.add j) = some u) (h1 : ∀ u ∈ ys, u.oneCell' = true)
    (hm : 0 < m) (h63 : n + m ≤ maxLen) (hbytes : (n + m) * bytes ≤ 140737488355328) (hbase : base ≤ w.heap.size)
    (h : ∀ a' cap' w', w'.ownsRow base e size (.slice a' (n + m) cap') (n + m) (xs ++ ys) → w.grownBy w' (Value.slice a n cap).ownBlock → (∀ r, (Value.slice a' (n + m) cap').ownBlock = some r → (Value.slice a n cap).ownBlock = some r ∨ w.heap.size ≤ r) → wpList P ops Q rest (act.put o.dst (.slice a' (n + m) cap')) w') : wpList P ops Q (o :: rest) act w := by
  refine wpList_plain hgd fun K hK => ?_
  obtain ⟨a', cap', w', hr, h2, h3, h4⟩ := run_append_any (P := P) w base t o.type e i z size bytes ht hi hz hsize hby hzs hsz a n cap xs hown b m c ys hl hc h1 hm h63 hbytes hbase
  unfold Oper.wp execOp
  simp only [ho, resolve, invoke, builtin, Sem.run_bind, Sem.run_pure, Result.andThen_ok, List.map_toArray, List.map_cons, List.map_nil, hs, hx, hr]
  exact hK _ _ (h a' cap' w' h2 h3 h4)

theorem cells_alloc3 (w : World) (x y z : Value) (t : TypeId) (fr : Nat × Nat) : ∀ j u, [x, y, z][j]? = some u → (w.alloc (.cells #[x, y, z] t fr)).cell? ((⟨w.heap.size, 0, Option.none⟩ : Addr).add j) = some u := by
  intro j u hu
  have hh : (w.alloc (.cells #[x, y, z] t fr)).heap[w.heap.size]? = some (.cells #[x, y, z] t fr) := by
    show (w.heap.push _)[w.heap.size]? = _
    simp
  rw [Addr.add_lit]
  unfold World.cell?
  rw [hh]
  simpa using hu
end Go.Proofs.Ytdjbmjkfpmchgaa
