/-
  The tail of an own row: todo = todo[1:], and append to it.
-/
import Derived.Test.YtdjbmjkfpmchgaaDagR1
namespace Go.Proofs.Ytdjbmjkfpmchgaa
open Go.RowKit Go.Maps

/-- v holds ts, in what is left of an own row (block q); or has no room at all. -/
def OwnT (w : World) (base : Nat) (ts : List ByteArray) (v : Value) (q : Option Nat) : Prop :=
  (q = Option.none ∧ ts = [] ∧ ∃ ad, v = .slice (some ad) 0 0) ∨
  (∃ g pre C, q = some g ∧ v = .slice (some ⟨g, pre.length, Option.none⟩) ts.length (C - pre.length) ∧ w.ownsRow base 9 1 (.slice (some ⟨g, 0, Option.none⟩) (pre.length + ts.length) C) (pre.length + ts.length) ((pre ++ ts).map Value.string))
section
variable {w w' : World} {base : Nat} {ts : List ByteArray} {v : Value} {q : Option Nat}
theorem OwnT.below (h : OwnT w base ts v q) (hb : Below w.heap.size w w') : OwnT w' base ts v q := by
  rcases h with h | ⟨g, pre, C, e, e2, ho⟩
  · exact .inl h
  · exact .inr ⟨g, pre, C, e, e2, owns_below ho hb⟩
theorem OwnT.kept {row : Option Nat} (h : OwnT w base ts v q) (hg : w.grownBy w' row) (hne : ∀ g, q = some g → row ≠ some g) : OwnT w' base ts v q := by
  rcases h with h | ⟨g, pre, C, e, e2, ho⟩
  · exact .inl h
  · exact .inr ⟨g, pre, C, e, e2, ho.kept hg (.inr (fun e3 => hne g e (by rw [← e3]; rfl)))⟩
theorem OwnT.lt (h : OwnT w base ts v q) : ∀ g, q = some g → base ≤ g ∧ g < w.heap.size := by
  intro g hg
  rcases h with ⟨h, _⟩ | ⟨g', pre, C, e, e2, ho⟩
  · rw [h] at hg; cases hg
  · rw [e] at hg; injection hg with hg; subst hg; exact ho.lt _ rfl
/-- What it is. -/
theorem OwnT.val (h : OwnT w base ts v q) : ∃ b o cap, v = .slice (some ⟨b, o, Option.none⟩) ts.length cap ∧ Strs w (some ⟨b, o, Option.none⟩) ts.length cap ts ∨ ts = [] ∧ ∃ ad, v = .slice (some ad) 0 0 := by
  rcases h with ⟨_, h, ad, e⟩ | ⟨g, pre, C, e, e2, ho⟩
  · exact ⟨0, 0, 0, .inr ⟨h, ad, e⟩⟩
  · refine ⟨g, pre.length, C - pre.length, .inl ⟨e2, ?_⟩⟩
    have hr := readsA_of_owns (f := Value.string) ByteArray.empty ho
    have h1 := hr.le; have h2 := hr.max
    refine ⟨rfl, by omega, by omega, (fun h => nomatch h), fun hn => ⟨g, pre.length, rfl, (ho.lt _ rfl).2, fun i hi => ?_⟩⟩
    obtain ⟨b', o', e3, _, hc⟩ := hr.cells (by omega)
    injection e3 with e3; injection e3 with e4 e5 _
    subst e4; subst e5
    have := hc (pre.length + i) (by omega)
    rw [Nat.zero_add] at this
    rw [this]
    congr 2
    rw [List.getD_eq_getElem?_getD, List.getElem?_append_right (by omega), Nat.add_sub_cancel_left, ← List.getD_eq_getElem?_getD]

/-- [1:]. -/
theorem OwnT.rest {t : ByteArray} {a : Option Addr} {n cap : Nat} (h : OwnT w base (t :: ts) (.slice a n cap) q) : n = ts.length + 1 ∧ ∃ q', OwnT w base ts (.slice (cutA a 1 cap) ts.length (cap - 1)) q' ∧ ∀ g, q' = some g → q = some g := by
  rcases h with ⟨_, h, _⟩ | ⟨g, pre, C, e, e2, ho⟩
  · cases h
  · injection e2 with e3 e4 e5
    subst e3; subst e4; subst e5
    refine ⟨by simp, ?_⟩
    have hr := readsA_of_owns (f := Value.string) ByteArray.empty ho
    have h1 := hr.le
    rw [List.length_cons] at h1
    by_cases hc : C - pre.length = 1
    · refine ⟨Option.none, .inl ⟨rfl, List.eq_nil_of_length_eq_zero (by omega), ⟨g, pre.length, Option.none⟩, ?_⟩, (fun g h => nomatch h)⟩
      unfold cutA; rw [if_pos hc, hc]
      have : ts.length = 0 := by omega
      rw [this]
    · refine ⟨some g, .inr ⟨g, pre ++ [t], C, rfl, ?_, ?_⟩, fun g' h => by rw [e, ← h]⟩
      · unfold cutA; rw [if_neg hc]
        simp only [Option.map_some, Addr.add_lit, List.length_append, List.length_singleton]
        congr 1
      · have e1 : (pre ++ [t]).length + ts.length = pre.length + (t :: ts).length := by simp; omega
        have e2 : (pre ++ [t]) ++ ts = pre ++ (t :: ts) := by simp
        rw [e1, e2]; exact ho
end
theorem own_tail {w : World} {base n : Nat} {a : Option Addr} {cap : Nat} {ts : List ByteArray} (ha : a ≠ Option.none) (h : w.ownsRow base 9 1 (.slice a n cap) n (ts.map Value.string)) : ∃ g, OwnT w base ts (.slice a n cap) (some g) ∧ a = some ⟨g, 0, Option.none⟩ := by
  rcases id h.2 with ⟨e, _⟩ | ⟨g, c, cur, e, _⟩
  · injection e with e; exact absurd e ha
  · injection e with e1 e2 e3
    subst e1; subst e3
    have hn : n = ts.length := by have := h.1; simp at this; omega
    subst hn
    exact ⟨g, .inr ⟨g, [], cap, rfl, rfl, by simpa using h⟩, rfl⟩

set_option maxRecDepth 100000 in
theorem run_append_tail {w : World} {base : Nat} {ts : List ByteArray} {a : Option Addr} {n cap : Nat} {q : Option Nat} (ty : TypeId) (h : OwnT w base ts (.slice a n cap) q) {b : Option Addr} {m c : Nat} {ys : List ByteArray} (hr : Strs w b m c ys)
    (h63 : (n + m) * 16 ≤ 140737488355328) (hbase : base ≤ w.heap.size) :
    ∃ a' cap' q' w', (Builtin.append_ #[35, 35] ty #[.slice a n cap, .slice b m c]).run Try.prog w = .ok (.slice a' (n + m) cap') w' ∧ OwnT w' base (ts ++ ys) (.slice a' (n + m) cap') q' ∧ w.grownBy w' q ∧ (∀ g, q' = some g → q = some g ∨ w.heap.size ≤ g) := by
  obtain ⟨i0, hi, hz0, hz1, hz2⟩ := info_parts infoStr
  have hyl := hr.len
  cases b with
  | none =>
    obtain ⟨rfl, rfl⟩ := hr.nil rfl
    obtain rfl : ys = [] := List.eq_nil_of_length_eq_zero hr.len
    refine ⟨a, cap, q, w, ?_, by simpa using h, ⟨rfl, rfl, rfl, Nat.le_refl _, fun _ _ _ => rfl⟩, fun g h => .inl h⟩
    obtain ⟨b, o, cap0, hv⟩ := h.val
    rcases hv with ⟨e, hs⟩ | ⟨_, ad, e⟩
    · injection e with e1 e2 e3
      subst e1; subst e2; subst e3
      have := hs.le
      simp [Builtin.append_, run_underlying Try.underlying35, sizeOf, typeInfo, hi, Builtin.lenOf, Builtin.firstCells, this, storeCells]
    · injection e with e1 e2 e3
      subst e1; subst e2; subst e3
      simp [Builtin.append_, run_underlying Try.underlying35, sizeOf, typeInfo, hi, Builtin.lenOf, Builtin.firstCells, storeCells]
  | some ad =>
    have hcells : ∀ j u, (ys.map Value.string)[j]? = some u → w.cell? (ad.add j) = some u := by
      intro j u hu
      have hj : j < ys.length := by
        rcases Nat.lt_or_ge j ys.length with h | h
        · exact h
        · simp [h] at hu
      obtain ⟨b', off, e', _, hc⟩ := hr.cells (by omega)
      cases e'
      rw [Addr.add_lit, hc j (by omega)]
      simp [hj] at hu
      simp [List.getD, hj, hu]
    have hone : ∀ u ∈ ys.map Value.string, u.oneCell' = true := fun u hu => by
      obtain ⟨x, _, rfl⟩ := List.mem_map.1 hu
      exact str_one x
    have fresh : ∀ (o : Addr) (olds : List ByteArray), olds = ts → olds.length = n → (∀ j u, (olds.map Value.string)[j]? = some u → w.cell? (o.add j) = some u) → cap < n + m →
        ∃ a' cap' q' w', (Builtin.append_ #[35, 35] ty #[.slice (some o) n cap, .slice (some ad) m c]).run Try.prog w = .ok (.slice a' (n + m) cap') w' ∧ OwnT w' base (ts ++ ys) (.slice a' (n + m) cap') q' ∧ w.grownBy w' q ∧ (∀ g, q' = some g → q = some g ∨ w.heap.size ≤ g) := by
      rintro o olds rfl hl hc hg
      obtain ⟨v', w', hrun, r1, r2⟩ := run_append_arg_grows (P := Try.prog) w 35 ty 9 i0 (.string ByteArray.empty) 1 16 Try.underlying35 hi hz0 hz1 hz2 rfl (by decide) o n cap (olds.map Value.string) (by simp [hl]) hc ad m c (ys.map Value.string) (by simp [hyl]) hcells hg (by unfold maxLen; omega) h63
      rcases id r1.2 with ⟨_, h0⟩ | ⟨g, c', cur, rfl, hb, r⟩
      · exfalso
        have : n + m = 0 := h0
        omega
      · refine ⟨some ⟨g, 0, Option.none⟩, c', some g, w', hrun, .inr ⟨g, [], c', rfl, ?_, ?_⟩, ⟨r2.os, r2.tape, r2.output, r2.size, fun k hk _ => r2.block k hk (by simp)⟩, fun g' h => .inr (by injection h with h; omega)⟩
        · show Value.slice _ (n + m) c' = .slice _ (olds ++ ys).length (c' - 0)
          rw [List.length_append, hl, hyl]; rfl
        · have e1 : ([] : List ByteArray).length + (olds ++ ys).length = n + m := by simp [hl, hyl]
          rw [e1, List.nil_append, List.map_append]
          have r3 : w'.ownsRow w.heap.size 9 1 (.slice (some ⟨g, 0, Option.none⟩) (n + m) c') (n + m) (olds.map Value.string ++ ys.map Value.string) := ⟨r1.1, .inr ⟨g, c', cur, rfl, hb, r⟩⟩
          exact owns_base r3 hbase
    rcases id h with ⟨hq, hts, ad2, e⟩ | ⟨g, pre, C, e, e2, ho⟩
    · injection e with e1 e2 e3
      subst e1; subst e2; subst e3; subst hts
      by_cases hm : 0 < m
      · exact fresh ad2 [] rfl rfl (fun j u hu => by simp at hu) (by omega)
      · obtain rfl : m = 0 := by omega
        obtain rfl : ys = [] := List.eq_nil_of_length_eq_zero hyl
        refine ⟨some ad2, 0, Option.none, w, ?_, .inl ⟨rfl, rfl, ad2, rfl⟩, ⟨rfl, rfl, rfl, Nat.le_refl _, fun _ _ _ => rfl⟩, fun g h => nomatch h⟩
        have hfc := run_firstCells_some (P := Try.prog) w i0.size 0 ad 0 c [] (by simp) (by simp)
        simp [Builtin.append_, run_underlying Try.underlying35, sizeOf, typeInfo, hi, Builtin.lenOf, hfc, storeCells]
    · injection e2 with e3 e4 e5
      subst e3; subst e4; subst e5
      have hrr := readsA_of_owns (f := Value.string) ByteArray.empty ho
      have hle := hrr.le
      by_cases hroom : ts.length + m ≤ C - pre.length
      · obtain ⟨w', hrun, r1, r2⟩ := run_append_fits (P := Try.prog) w base 35 ty 9 i0 1 Try.underlying35 hi hz1 g (pre.length + ts.length) C ((pre ++ ts).map Value.string) ho ad m c (ys.map Value.string) (by simp [hyl]) hcells hone (by omega)
        have hfro : ∀ j, w.frozen? ⟨g, j, Option.none⟩ = false := fun j => by
          rcases id ho.2 with ⟨e, _⟩ | ⟨g', c', cur, e, _, hg, _⟩
          · cases e
          · cases e
            simp [World.frozen?, hg]
        have hsome : ∀ j, j < C → (w.cell? ⟨g, j, Option.none⟩).isSome = true := fun j hj => by
          rcases id ho.2 with ⟨e, _⟩ | ⟨g', c', cur, e, _, hg, _, _, hcs, _⟩
          · cases e
          · cases e
            rw [cell_of_row w g j cur 9 (0, 0) hg]
            simp; omega
        have h1 := run_append_room_cells (P := Try.prog) w 35 ty 9 i0 Try.underlying35 hi g 0 (pre.length + ts.length) C ad m c (ys.map Value.string) (by simp [hyl, hz1]) hcells hone (by omega) (fun j hj => hsome _ (by simp at hj; rw [hz1]; omega)) (fun j _ => hfro _)
        have h2 := run_append_room_cells (P := Try.prog) w 35 ty 9 i0 Try.underlying35 hi g pre.length ts.length (C - pre.length) ad m c (ys.map Value.string) (by simp [hyl, hz1]) hcells hone hroom (fun j hj => hsome _ (by simp at hj; rw [hz1]; omega)) (fun j _ => hfro _)
        rw [hrun] at h1
        have hw : w' = w.setCells g (0 + (pre.length + ts.length) * i0.size) (ys.map Value.string) := by injection h1
        have hoff : 0 + (pre.length + ts.length) * i0.size = pre.length + ts.length * i0.size := by rw [hz1]; omega
        rw [hoff] at hw
        rw [← hw] at h2
        refine ⟨_, _, some g, w', h2, .inr ⟨g, pre, C, rfl, ?_, ?_⟩, by rw [e]; exact r2, fun g' h => .inl (by rw [e, ← h])⟩
        · rw [List.length_append, hyl]
        · have e1 : pre.length + (ts ++ ys).length = pre.length + ts.length + m := by rw [List.length_append, hyl]; omega
          have e2 : (pre ++ (ts ++ ys)).map Value.string = (pre ++ ts).map Value.string ++ ys.map Value.string := by simp
          rw [e1, e2]
          exact r1
      · refine fresh ⟨g, pre.length, Option.none⟩ ts rfl rfl (fun j u hu => ?_) (by omega)
        rw [Addr.add_lit]
        have hlt : j < ts.length := by
          rcases Nat.lt_or_ge j ts.length with h | h
          · exact h
          · simp [h] at hu
        have := ho.cells (g := g) rfl (pre.length + j) u (by
          rw [List.map_append, List.getElem?_append_right (by simp)]
          simpa using hu)
        rw [Addr.add_lit, Nat.zero_add] at this
        exact this

theorem step_append_tail {w : World} {ops : Array Oper} {o : Oper} {act : Act} {K : Act → World → Prop} {Q : Exit → Act → World → Prop} {E : Prop} (hgd : o.guard = Option.none) (s x : Operand)
    (ho : o.op = Op.call { callee := Callee.builtin Builtin.append, args := #[s, x], argTypes := #[35, 35] })
    (base : Nat) (ts : List ByteArray) (a : Option Addr) (n cap : Nat) (q : Option Nat) (hs : act.eval s = .slice a n cap) (hown : OwnT w base ts (.slice a n cap) q) (b : Option Addr) (m c : Nat) (ys : List ByteArray) (hx : act.eval x = .slice b m c) (hr : Strs w b m c ys)
    (h63 : (n + m) * 16 ≤ 140737488355328) (hbase : base ≤ w.heap.size)
    (h : ∀ a' cap' q' w', OwnT w' base (ts ++ ys) (.slice a' (n + m) cap') q' → w.grownBy w' q → (∀ g, q' = some g → q = some g ∨ w.heap.size ≤ g) → K (act.put o.dst (.slice a' (n + m) cap')) w') :
    if Region.wanted o (yielded ops act.tmps) = true then Oper.wp Try.prog o act w K Q else E := by
  have hw : Region.wanted o (yielded ops act.tmps) = true := by simp [Region.wanted, hgd]
  rw [if_pos hw]
  obtain ⟨a', cap', q', w', hr, h2, h3, h4⟩ := run_append_tail o.type hown hr h63 hbase
  unfold Oper.wp execOp
  simp only [ho, resolve, invoke, builtin, Sem.run_bind, Sem.run_pure, Result.andThen_ok, List.map_toArray, List.map_cons, List.map_nil, hs, hx, hr]
  exact h a' cap' q' w' h2 h3 h4
end Go.Proofs.Ytdjbmjkfpmchgaa
