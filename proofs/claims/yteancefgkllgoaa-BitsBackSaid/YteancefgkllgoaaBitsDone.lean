/-
  What was put, in order: the number that it makes; the list of it in memory.
-/
import Derived.Test.YteancefgkllgoaaBitsFour
import Derived.Test.YteancefgkllgoaaBitsOps
namespace Go.Proofs.Yteancefgkllgoaa
open Go.RowKit

/-- One call that was good: a code (true) or a put (false), how many bits, the number. -/
abbrev Dn := Bool × Nat × Nat
def vD (d : Dn) : Nat := if d.1 = true then revb d.2.2 d.2.1 else d.2.2
def okD (d : Dn) : Prop := d.2.1 ≤ 24 ∧ d.2.2 < 2 ^ d.2.1
def csum : List Dn → Nat
  | [] => 0
  | d :: ds => d.2.1 + csum ds
def encD : List Dn → Nat
  | [] => 0
  | d :: ds => vD d + 2 ^ d.2.1 * encD ds
def flatD : List Dn → List Value
  | [] => []
  | d :: ds => .int .i64 (if d.1 = true then 1 else 0) :: .int .i64 (d.2.1 : Nat) :: .int .u32 (d.2.2 : Nat) :: flatD ds

theorem vD_lt {d : Dn} (h : okD d) : vD d < 2 ^ d.2.1 := by
  unfold vD
  split
  · exact revb_lt _ _
  · exact h.2
theorem csum_append (ds es : List Dn) : csum (ds ++ es) = csum ds + csum es := by
  induction ds with
  | nil => simp [csum]
  | cons d ds ih => simp only [List.cons_append, csum, ih]; omega
theorem encD_append (ds : List Dn) (d : Dn) : encD (ds ++ [d]) = encD ds + vD d * 2 ^ csum ds := by
  induction ds with
  | nil => simp [encD, csum]
  | cons x ds ih =>
    simp only [List.cons_append, encD, csum, ih, Nat.mul_add, Nat.pow_add]
    rw [Nat.mul_left_comm (2 ^ x.2.1) (vD d)]
    omega
theorem flatD_append (ds es : List Dn) : flatD (ds ++ es) = flatD ds ++ flatD es := by
  induction ds with
  | nil => rfl
  | cons d ds ih => simp [flatD, ih]
theorem flatD_length (ds : List Dn) : (flatD ds).length = ds.length * 3 := by
  induction ds with
  | nil => rfl
  | cons d ds ih => simp [flatD, ih]; omega
theorem flatD_get (ds : List Dn) (i : Nat) (h : i < ds.length) : (flatD ds)[i * 3]? = some (.int .i64 (if ds[i].1 = true then 1 else 0)) ∧ (flatD ds)[i * 3 + 1]? = some (.int .i64 (ds[i].2.1 : Nat)) ∧ (flatD ds)[i * 3 + 2]? = some (.int .u32 (ds[i].2.2 : Nat)) := by
  induction ds generalizing i with
  | nil => simp at h
  | cons d ds ih =>
    cases i with
    | zero => simp [flatD]
    | succ i =>
      have := ih i (by simpa using h)
      rw [show (i + 1) * 3 = i * 3 + 3 by omega]
      simpa [flatD] using this
/-- What stands behind the first i of them. -/
theorem encD_drop (ds : List Dn) (hok : ∀ d ∈ ds, okD d) (i : Nat) : encD ds / 2 ^ csum (ds.take i) = encD (ds.drop i) := by
  induction ds generalizing i with
  | nil => simp [encD, csum]
  | cons d ds ih =>
    cases i with
    | zero => simp [csum]
    | succ i =>
      have h1 := vD_lt (hok d (by simp))
      simp only [List.take_succ_cons, List.drop_succ_cons, csum, encD]
      rw [Nat.pow_add, ← Nat.div_div_eq_div_mul, Nat.add_mul_div_left _ _ (Nat.pow_pos (by decide)), Nat.div_eq_of_lt h1, Nat.zero_add]
      exact ih (fun x hx => hok x (by simp [hx])) i
theorem encD_get (ds : List Dn) (hok : ∀ d ∈ ds, okD d) (i : Nat) (h : i < ds.length) : encD ds / 2 ^ csum (ds.take i) % 2 ^ ds[i].2.1 = vD ds[i] := by
  rw [encD_drop ds hok i, List.drop_eq_getElem_cons h, encD, Nat.add_mul_mod_self_left]
  exact Nat.mod_eq_of_lt (vD_lt (hok _ (List.getElem_mem h)))
theorem csum_take (ds : List Dn) (i : Nat) (h : i < ds.length) : csum (ds.take (i + 1)) = csum (ds.take i) + ds[i].2.1 := by
  rw [← List.take_append_getElem h, csum_append]
  simp [csum]
theorem csum_le (ds : List Dn) (i : Nat) : csum (ds.take i) ≤ csum ds := by
  conv => rhs; rw [← List.take_append_drop i ds, csum_append]
  omega
/-- A bit of a number that is turned round. -/
theorem revb_dig (n k j : Nat) (h : j < k) : revb n k / 2 ^ j % 2 = n / 2 ^ (k - 1 - j) % 2 := by
  induction k generalizing j with
  | zero => omega
  | succ k ih =>
    rw [revb]
    cases j with
    | zero => simp <;> omega
    | succ j =>
      have hb : n / 2 ^ k % 2 < 2 := Nat.mod_lt _ (by decide)
      rw [Nat.pow_succ, Nat.mul_comm (2 ^ j) 2, ← Nat.div_div_eq_div_mul, show (revb n k * 2 + n / 2 ^ k % 2) / 2 = revb n k by omega, ih j (by omega)]
      congr 3
      omega

/-! ### append to a list of structs -/
theorem run_append_any {P : Program} (w : World) (base : Nat) (t ty e : TypeId) (i : TypeInfo) (z : Value) (size bytes : Nat) (ht : P.underlying t = some (.slice e)) (hi : P.info? e = some i) (hz : i.zero = some z) (hsize : i.size = size) (hby : i.bytes = bytes) (hzs : z.cells.size = size) (hsz : 0 < size)
    (a : Option Addr) (n cap : Nat) (xs : List Value) (hown : w.ownsRow base e size (.slice a n cap) n xs) (b : Addr) (m c : Nat) (ys : List Value) (hl : ys.length = m * size) (hc : ∀ j u, ys[j]? = some u → w.cell? (b.add j) = some u) (h1 : ∀ u ∈ ys, u.oneCell' = true)
    (hm : 0 < m) (h63 : n + m ≤ maxLen) (hbytes : (n + m) * bytes ≤ 140737488355328) (hbase : base ≤ w.heap.size) :
    ∃ a' cap' w', (Builtin.append_ #[t, t] ty #[.slice a n cap, .slice (some b) m c]).run P w = .ok (.slice a' (n + m) cap') w' ∧ w'.ownsRow base e size (.slice a' (n + m) cap') (n + m) (xs ++ ys) ∧ w.grownBy w' (Value.slice a n cap).ownBlock ∧
      (∀ r, (Value.slice a' (n + m) cap').ownBlock = some r → (Value.slice a n cap).ownBlock = some r ∨ w.heap.size ≤ r) := by
  have fresh : ∀ v' w', w'.ownsRow w.heap.size e size v' (n + m) (xs ++ ys) → w.grownBy w' Option.none → ∃ a' cap', v' = .slice a' (n + m) cap' ∧ w'.ownsRow base e size (.slice a' (n + m) cap') (n + m) (xs ++ ys) ∧ w.grownBy w' (Value.slice a n cap).ownBlock ∧
      (∀ r, (Value.slice a' (n + m) cap').ownBlock = some r → (Value.slice a n cap).ownBlock = some r ∨ w.heap.size ≤ r) := by
    intro v' w' o' hg
    rcases id o'.2 with ⟨_, h0⟩ | ⟨g, c', cur, rfl, hb, r⟩
    · omega
    · refine ⟨some ⟨g, 0, Option.none⟩, c', rfl, ⟨o'.1, ?_⟩, ⟨hg.os, hg.tape, hg.output, hg.size, fun q hq _ => hg.block q hq (by simp)⟩, fun r hr' => .inr ?_⟩
      · exact .inr ⟨g, c', cur, rfl, Nat.le_trans hbase hb, r⟩
      · simp [Value.ownBlock] at hr'
        omega
  rcases id hown.2 with ⟨e1, h0⟩ | ⟨g, c', cur, e1, _⟩
  · obtain ⟨rfl, rfl, rfl⟩ : a = Option.none ∧ n = 0 ∧ cap = 0 := by simpa using e1
    obtain rfl : xs = [] := List.eq_nil_of_length_eq_zero (by have := hown.1; simpa using this)
    obtain ⟨v', w', hrun, r1, r2, _⟩ := run_append_own (P := P) w w.heap.size t ty e i z size bytes ht hi hz hsize hby hzs hsz (.slice Option.none 0 0) 0 [] (World.ownsRow_nil w _ e size) b m c ys hl hc h1 h63 hbytes (Nat.le_refl _)
    obtain ⟨a', cap', rfl, k1, k2, k3⟩ := fresh v' w' r1 r2
    exact ⟨a', cap', w', hrun, k1, k2, k3⟩
  · obtain ⟨rfl, rfl⟩ : a = some ⟨g, 0, Option.none⟩ ∧ cap = c' := by simpa using e1
    by_cases hroom : n + m ≤ cap
    · obtain ⟨w', hrun, r1, r2⟩ := run_append_fits (P := P) w base t ty e i size ht hi hsize g n cap xs hown b m c ys hl hc h1 hroom
      exact ⟨_, _, w', hrun, r1, r2, fun r hr => .inl hr⟩
    · obtain ⟨v', w', hrun, r1, r2⟩ := run_append_arg_grows (P := P) w t ty e i z size bytes ht hi hz hsize hby hzs hsz ⟨g, 0, Option.none⟩ n cap xs hown.1 (fun j u hu => hown.cells (g := g) rfl j u hu) b m c ys hl hc (by omega) h63 hbytes
      obtain ⟨a', cap', rfl, k1, k2, k3⟩ := fresh v' w' r1 r2
      exact ⟨a', cap', w', hrun, k1, k2, k3⟩

/-- The same as a step of a region that draws. -/
theorem step_append_any {P : Program} {w : World} {ops : Array Oper} {o : Oper} {act : Act} {K : Act → World → Prop} {Q : Exit → Act → World → Prop} {E : Prop} (hgd : o.guard = Option.none) (s x : Operand) (t : TypeId)
    (ho : o.op = Op.call { callee := Callee.builtin Builtin.append, args := #[s, x], argTypes := #[t, t] })
    (base : Nat) (e : TypeId) (i : TypeInfo) (z : Value) (size bytes : Nat) (ht : P.underlying t = some (.slice e)) (hi : P.info? e = some i) (hz : i.zero = some z) (hsize : i.size = size) (hby : i.bytes = bytes) (hzs : z.cells.size = size) (hsz : 0 < size)
    (a : Option Addr) (n cap : Nat) (xs : List Value) (hs : act.eval s = .slice a n cap) (hown : w.ownsRow base e size (.slice a n cap) n xs) (b : Addr) (m c : Nat) (ys : List Value) (hx : act.eval x = .slice (some b) m c) (hl : ys.length = m * size) (hc : ∀ j u, ys[j]? = some u → w.cell? (b.add j) = some u) (h1 : ∀ u ∈ ys, u.oneCell' = true)
    (hm : 0 < m) (h63 : n + m ≤ maxLen) (hbytes : (n + m) * bytes ≤ 140737488355328) (hbase : base ≤ w.heap.size)
    (h : ∀ a' cap' w', w'.ownsRow base e size (.slice a' (n + m) cap') (n + m) (xs ++ ys) → w.grownBy w' (Value.slice a n cap).ownBlock → (∀ r, (Value.slice a' (n + m) cap').ownBlock = some r → (Value.slice a n cap).ownBlock = some r ∨ w.heap.size ≤ r) → K (act.put o.dst (.slice a' (n + m) cap')) w') :
    if Region.wanted o (yielded ops act.tmps) = true then Oper.wp P o act w K Q else E := by
  have hw : Region.wanted o (yielded ops act.tmps) = true := by simp [Region.wanted, hgd]
  rw [if_pos hw]
  obtain ⟨a', cap', w', hr, h2, h3, h4⟩ := run_append_any (P := P) w base t o.type e i z size bytes ht hi hz hsize hby hzs hsz a n cap xs hown b m c ys hl hc h1 hm h63 hbytes hbase
  unfold Oper.wp execOp
  simp only [ho, resolve, invoke, builtin, Sem.run_bind, Sem.run_pure, Result.andThen_ok, List.map_toArray, List.map_cons, List.map_nil, hs, hx, hr]
  exact h a' cap' w' h2 h3 h4

/-! ### a writer and the list of what was put -/
theorem owns_keep {w w' : World} {base T size n : Nat} {v : Value} {xs : List Value} (h : w.ownsRow base T size v n xs) (hb : ∀ r, v.ownBlock = some r → w'.heap[r]? = w.heap[r]?) : w'.ownsRow base T size v n xs := by
  refine ⟨h.1, ?_⟩
  rcases h.2 with h | ⟨q, c', cur, e', hq, hh, r⟩
  · exact .inl h
  · refine .inr ⟨q, c', cur, e', hq, ?_, r⟩
    rw [hb q (by rw [e']; rfl), hh]

structure WD (w : World) (g : Nat) (o : Option Nat) (N c : Nat) (T : TypeId) (a : Option Addr) (n cap : Nat) (xs : List Value) : Prop where
  wr : Wrt w g o N c
  row : w.ownsRow (g + 1) T 3 (.slice a n cap) n xs
  dis : Dis o (Value.slice a n cap).ownBlock

section
variable {w w' : World} {g : Nat} {o o' : Option Nat} {N c N' c' : Nat} {T : TypeId} {a a' : Option Addr} {n n' cap cap' : Nat} {xs xs' : List Value}
theorem WD.below (h : WD w g o N c T a n cap xs) (hb : Below w.heap.size w w') : WD w' g o N c T a n cap xs :=
  ⟨h.wr.below hb, owns_keep h.row (fun r e => hb.block r (h.row.lt r e).2), h.dis⟩
theorem WD.put (h : WD w g o N c T a n cap xs) (hw : Wrt w' g o' N' c') (m : Moved g o o' w w') : WD w' g o' N' c' T a n cap xs :=
  ⟨hw, owns_keep h.row (fun r e => m.1.block r (h.row.lt r e).2 (by
    rintro (e' | e')
    · have := (h.row.lt r e).1; omega
    · exact h.dis r e'.symm e)), dis_moved h.dis m (fun r e => (h.row.lt r e).2)⟩
theorem WD.app (h : WD w g o N c T a n cap xs) (hr : w'.ownsRow (g + 1) T 3 (.slice a' n' cap') n' xs') (hg : w.grownBy w' (Value.slice a n cap).ownBlock) (hf : ∀ r, (Value.slice a' n' cap').ownBlock = some r → (Value.slice a n cap).ownBlock = some r ∨ w.heap.size ≤ r) : WD w' g o N c T a' n' cap' xs' :=
  ⟨h.wr.keep hg.size (hg.block g h.wr.lt.1 (fun e => by have := (h.row.lt g e.symm).1; omega)) (fun b e => hg.block b (h.wr.lt.2 b e).2 (fun e' => h.dis b e e'.symm)), hr, fun r h1 h2 => by
    rcases hf r h2 with e | e
    · exact h.dis r h1 e
    · have := (h.wr.lt.2 r h1).2; omega⟩
end
end Go.Proofs.Yteancefgkllgoaa
