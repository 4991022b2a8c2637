/-
  The same nodes in another order; lists of nodes put together.
-/
import Derived.Test.YtdjbmjkfpmchgaaDagUniq
import Derived.Test.YtdjbmjkfpmchgaaAppendAny
import Derived.Deep.Slices
namespace Go.Proofs.Ytdjbmjkfpmchgaa
open Go.RowKit Go.Maps

theorem same_nd {ns ms : List Nd} (_hn : (keysOf ns).Nodup) (hm : (keysOf ms).Nodup) (h : ∀ n, n ∈ ns ↔ n ∈ ms) (k : ByteArray) : ndOf ns k = ndOf ms k := by
  by_cases hk : k ∈ keysOf ns
  · obtain ⟨h1, h2⟩ := ndOf_in hk
    have := ndOf_mem hm ((h _).1 h1)
    rw [h2] at this
    exact this.symm
  · have hk' : k ∉ keysOf ms := fun h' => hk (by
      obtain ⟨n, hn', e⟩ := List.mem_map.1 h'
      rw [← e]; exact List.mem_map_of_mem ((h n).2 hn'))
    rw [ndOf_out hk, ndOf_out hk']
theorem same_keys {ns ms : List Nd} (h : ∀ n, n ∈ ns ↔ n ∈ ms) (k : ByteArray) : k ∈ keysOf ns ↔ k ∈ keysOf ms := by
  unfold keysOf
  rw [List.mem_map, List.mem_map]
  exact ⟨fun ⟨n, hn, e⟩ => ⟨n, (h n).1 hn, e⟩, fun ⟨n, hn, e⟩ => ⟨n, (h n).2 hn, e⟩⟩
theorem reach_mono {ns ms : List Nd} {a : ByteArray} (hp : ∀ k, Reach ns a k → psOf ns k = psOf ms k) {x : ByteArray} (h : Reach ns a x) : Reach ms a x := by
  induction h with
  | refl => exact .refl
  | step hr hx ih => exact .step ih (by rw [← hp _ hr]; exact hx)
theorem same_reach {ns ms : List Nd} (hn : (keysOf ns).Nodup) (hm : (keysOf ms).Nodup) (h : ∀ n, n ∈ ns ↔ n ∈ ms) (a x : ByteArray) : Reach ns a x ↔ Reach ms a x := by
  have hp : ∀ k, psOf ns k = psOf ms k := fun k => by unfold psOf; rw [same_nd hn hm h]
  exact ⟨reach_mono (fun k _ => hp k), reach_mono (fun k _ => (hp k).symm)⟩
theorem same_good {ns ms : List Nd} (G : Good ns) (hm : (keysOf ms).Nodup) (hl : ms.length = ns.length) (h : ∀ n, n ∈ ns ↔ n ∈ ms) : Good ms :=
  ⟨by rw [hl]; exact G.few, hm, fun n hn p hp => (same_keys h p).1 (G.there n ((h n).2 hn) p hp), fun n hn p hp => by
    have := G.above n ((h n).2 hn) p hp
    unfold stOf at *
    rw [← same_nd G.nodup hm h]; exact this⟩
theorem same_log {ns ms : List Nd} (G : Good ns) (hm : (keysOf ms).Nodup) (h : ∀ n, n ∈ ns ↔ n ∈ ms) {k : ByteArray} {l : List ByteArray} (hl : IsLog ms k l) : IsLog ns k l :=
  ⟨List.Pairwise.imp (fun {a b} hab => by
    unfold newer stOf at *
    rw [same_nd G.nodup hm h, same_nd G.nodup hm h]; exact hab) hl.falls, fun x => by rw [hl.mem x, same_keys h, same_reach G.nodup hm h]⟩
theorem new_good {ns : List Nd} (G : Good ns) {c : Int} (h : NewIs ns c) : c = 0 := by
  rcases h with ⟨h, _⟩ | ⟨_, h, _⟩ | ⟨_, _, h, _⟩ | ⟨_, _, _, h, _⟩ | ⟨_, h⟩
  · have := G.few; omega
  · exact absurd G.nodup h
  · exact absurd G.there h
  · exact absurd G.above h
  · exact h
theorem good_new {ns : List Nd} (h : NewIs ns 0) : Good ns := by
  rcases h with ⟨_, h⟩ | ⟨_, _, h⟩ | ⟨_, _, _, h⟩ | ⟨_, _, _, _, h⟩ | ⟨h, _⟩
  · cases h
  · cases h
  · cases h
  · cases h
  · exact h
theorem rot_mem (ns : List Nd) (k : Nat) (n : Nd) : n ∈ ns ↔ n ∈ ns.drop k ++ ns.take k := by
  conv => lhs; rw [← List.take_append_drop k ns]
  rw [List.mem_append, List.mem_append]
  exact ⟨Or.symm, Or.symm⟩
theorem rot_nodup {ns : List Nd} (k : Nat) (h : (keysOf ns).Nodup) : (keysOf (ns.drop k ++ ns.take k)).Nodup := by
  unfold keysOf at *
  rw [← List.take_append_drop k ns, List.map_append] at h
  rw [List.map_append]
  exact (List.perm_append_comm.nodup_iff).1 h
theorem rot_keyable {ns : List Nd} (k : Nat) (h : Keyable ns) : Keyable (ns.drop k ++ ns.take k) := fun n hn => h n ((rot_mem ns k n).2 hn)

/-- A node and where its parents lie. -/
abbrev NdA := Nd × Option Addr × Nat
def flat1 (q : NdA) : List Value := [.string q.1.key, .slice q.2.1 q.1.ps.length q.2.2, .int .i64 q.1.st]
def flatN (qs : List NdA) : List Value := qs.flatMap flat1
theorem flatN_length (qs : List NdA) : (flatN qs).length = qs.length * 3 := by
  induction qs with
  | nil => rfl
  | cons q qs ih => unfold flatN at *; rw [List.flatMap_cons, List.length_append, ih, List.length_cons]; simp [flat1]; omega
theorem flatN_append (qs rs : List NdA) : flatN (qs ++ rs) = flatN qs ++ flatN rs := by unfold flatN; rw [List.flatMap_append]
theorem flatN_one (qs : List NdA) : ∀ u ∈ flatN qs, u.oneCell' = true := by
  intro u hu
  unfold flatN at hu
  rw [List.mem_flatMap] at hu
  obtain ⟨q, _, hu⟩ := hu
  simp only [flat1, List.mem_cons, List.mem_nil_iff, or_false] at hu
  rcases hu with rfl | rfl | rfl <;> rfl
theorem flatN_at (qs : List NdA) (i t : Nat) (hi : i < qs.length) (ht : t < 3) : (flatN qs)[i * 3 + t]? = (flat1 qs[i])[t]? := by
  induction qs generalizing i with
  | nil => simp at hi
  | cons q qs ih =>
    have e : flatN (q :: qs) = flat1 q ++ flatN qs := by unfold flatN; rw [List.flatMap_cons]
    have hl : (flat1 q).length = 3 := rfl
    rw [e]
    cases i with
    | zero => rw [List.getElem?_append_left (by omega)]; simp
    | succ i =>
      rw [List.getElem?_append_right (by omega), hl, show (i + 1) * 3 + t - 3 = i * 3 + t by omega, ih i (by simpa using hi)]
      simp
theorem NdL.items {w : World} {a : Option Addr} {n cap : Nat} {ns : List Nd} (h : NdL w a n cap ns) : ∃ qs : List NdA, qs.map (·.1) = ns ∧ (∀ q ∈ qs, Strs w q.2.1 q.1.ps.length q.2.2 q.1.ps) ∧
    (0 < n → ∃ b off, a = some ⟨b, off, Option.none⟩ ∧ b < w.heap.size ∧ ∀ j u, (flatN qs)[j]? = some u → w.cell? ⟨b, off + j, Option.none⟩ = some u) := by
  by_cases hn : 0 < n
  · obtain ⟨b, off, rfl, hb, hc⟩ := h.cells hn
    have key : ∀ j, j < n → ∃ r : Option Addr × Nat, w.cell? ⟨b, off + j * 3, Option.none⟩ = some (.string (ns.getD j default).key) ∧
      w.cell? ⟨b, off + j * 3 + 1, Option.none⟩ = some (.slice r.1 (ns.getD j default).ps.length r.2) ∧ w.cell? ⟨b, off + j * 3 + 2, Option.none⟩ = some (.int .i64 (ns.getD j default).st) ∧ Strs w r.1 (ns.getD j default).ps.length r.2 (ns.getD j default).ps := fun j hj => by
      obtain ⟨pa, pc, r⟩ := hc j hj
      exact ⟨(pa, pc), r⟩
    obtain ⟨r, hr⟩ := Go.Deep.choose_lt key
    have hln := h.len
    have hget : ∀ i (hi : i < n), ((List.range n).map fun i => ((ns.getD i default, r i) : NdA))[i]'(by simpa using hi) = (ns.getD i default, r i) := fun i hi => by simp
    refine ⟨(List.range n).map fun i => (ns.getD i default, r i), ?_, fun q hq => ?_, fun _ => ⟨b, off, rfl, hb, fun j u hu => ?_⟩⟩
    · rw [List.map_map]
      apply List.ext_getElem
      · simp [hln]
      · intro i h1 h2
        simp [List.getD, h2]
    · obtain ⟨i, hi, rfl⟩ := List.mem_map.1 hq
      exact (hr i (List.mem_range.1 hi)).2.2.2
    · have hj : j < n * 3 := by
        rcases Nat.lt_or_ge j (n * 3) with h' | h'
        · exact h'
        · rw [List.getElem?_eq_none (by rw [flatN_length]; simpa using h')] at hu; cases hu
      have hi : j / 3 < n := by omega
      have e : j = j / 3 * 3 + j % 3 := by omega
      rw [e, flatN_at _ (j / 3) (j % 3) (by simpa using hi) (by omega), hget _ hi] at hu
      obtain ⟨h0, h1, h2, _⟩ := hr (j / 3) hi
      have ht : j % 3 = 0 ∨ j % 3 = 1 ∨ j % 3 = 2 := by omega
      rcases ht with ht | ht | ht <;> rw [ht] at hu <;> simp [flat1] at hu <;> subst hu
      · rw [show off + j = off + j / 3 * 3 by omega]; exact h0
      · rw [show off + j = off + j / 3 * 3 + 1 by omega]; exact h1
      · rw [show off + j = off + j / 3 * 3 + 2 by omega]; exact h2
  · have : ns = [] := List.eq_nil_of_length_eq_zero (by have := h.len; omega)
    subst this
    exact ⟨[], rfl, (fun q hq => nomatch hq), fun h' => absurd h' hn⟩
theorem ndL_of_owns {w : World} {base T : Nat} {a : Option Addr} {n cap : Nat} {qs : List NdA} (ho : w.ownsRow base T 3 (.slice a n cap) n (flatN qs)) (hs : ∀ q ∈ qs, Strs w q.2.1 q.1.ps.length q.2.2 q.1.ps) : NdL w a n cap (qs.map (·.1)) := by
  have hl := ho.1
  rw [flatN_length] at hl
  have hl' : qs.length = n := by omega
  rcases id ho.2 with ⟨e, h0⟩ | ⟨g, c, cur, e, hb, hg, hnc, hcm, _⟩
  · injection e with e1 e2 e3
    subst e1 e2 e3
    exact ⟨by simpa using hl', Nat.zero_le _, by decide, fun _ => ⟨h0, rfl⟩, fun h => absurd h (by omega)⟩
  · injection e with e1 e2 e3
    subst e1; subst e3
    refine ⟨by simpa using hl', hnc, hcm, (fun h => nomatch h), fun hn => ⟨g, 0, rfl, (Array.getElem?_eq_some_iff.1 hg).1, fun j hj => ?_⟩⟩
    have hjq : j < qs.length := by omega
    have e : (qs.map (·.1)).getD j default = qs[j].1 := by simp [List.getD, hjq]
    rw [e]
    have hc := fun t (ht : t < 3) => (ho.cellAt (j * 3 + t) (by omega)).trans (flatN_at qs j t hjq ht)
    refine ⟨qs[j].2.1, qs[j].2.2, ?_, ?_, ?_, hs _ (List.getElem_mem hjq)⟩
    · have := hc 0 (by omega); rw [Nat.zero_add]; exact this
    · have := hc 1 (by omega); rw [Nat.zero_add]; exact this
    · have := hc 2 (by omega); rw [Nat.zero_add]; exact this

/-- A slice's elements, as they lie. -/
structure ItemsN (w : World) (b : Option Addr) (m : Nat) (qs : List NdA) : Prop where
  len : qs.length = m
  nil : b = Option.none → m = 0
  cells : 0 < m → ∃ bl off, b = some ⟨bl, off, Option.none⟩ ∧ bl < w.heap.size ∧ ∀ j u, (flatN qs)[j]? = some u → w.cell? ⟨bl, off + j, Option.none⟩ = some u
theorem ItemsN.below {w w' : World} {b : Option Addr} {m : Nat} {qs : List NdA} (h : ItemsN w b m qs) (hb : Below w.heap.size w w') : ItemsN w' b m qs :=
  ⟨h.len, h.nil, fun hm => by
    obtain ⟨bl, off, e, hl, hc⟩ := h.cells hm
    exact ⟨bl, off, e, Nat.lt_of_lt_of_le hl hb.size, fun j u hu => (hb.cell (p := ⟨bl, off + j, Option.none⟩) hl).trans (hc j u hu)⟩⟩
theorem flatN_drop (qs : List NdA) (k : Nat) : flatN (qs.drop k) = (flatN qs).drop (k * 3) := by
  induction k generalizing qs with
  | zero => simp
  | succ k ih =>
    cases qs with
    | nil => simp [flatN]
    | cons q qs =>
      rw [List.drop_succ_cons, ih]
      have e : flatN (q :: qs) = flat1 q ++ flatN qs := by unfold flatN; rw [List.flatMap_cons]
      rw [e, show (k + 1) * 3 = 3 + k * 3 by omega, ← List.drop_drop]
      rfl
theorem flatN_take (qs : List NdA) (k : Nat) : flatN (qs.take k) = (flatN qs).take (k * 3) := by
  induction k generalizing qs with
  | zero => simp [flatN]
  | succ k ih =>
    cases qs with
    | nil => simp [flatN]
    | cons q qs =>
      have e : ∀ rs, flatN (q :: rs) = flat1 q ++ flatN rs := fun rs => by unfold flatN; rw [List.flatMap_cons]
      have hl : (flat1 q).length = 3 := rfl
      rw [List.take_succ_cons, e, e, ih, List.take_append, List.take_of_length_le (l := flat1 q) (by omega), hl, show (k + 1) * 3 - 3 = k * 3 by omega]
def cut3 (a : Option Addr) (lo cap : Nat) : Option Addr := if cap = lo then a else a.map (·.add (lo * 3))
theorem cut3_zero (a : Option Addr) (cap : Nat) : cut3 a 0 cap = a := by
  unfold cut3
  split
  · rfl
  · cases a with
    | none => rfl
    | some a => simp [Addr.add]
theorem run_slice3_lo {P : Program} (t e : TypeId) (ht : P.underlying t = some (.slice e)) (hsz : (P.info? e).map (·.size) = some 3) (a : Option Addr) (n cap lo : Nat) (kl : IntKind) (h1 : lo ≤ n) (w : World) :
    (Instr.slice t (.slice a n cap) (some (.int kl (lo : Int))) none none).run P w = .ok (.slice (cut3 a lo cap) (n - lo) (cap - lo)) w := by
  obtain ⟨i, hi', hz⟩ := Option.map_eq_some_iff.1 hsz
  simp [Instr.slice, run_underlying ht, Instr.sliceBounds, run_sliceBound, sizeOf, typeInfo, hi', hz, cut3, h1]
theorem run_slice3_hi {P : Program} (t e : TypeId) (ht : P.underlying t = some (.slice e)) (hsz : (P.info? e).map (·.size) = some 3) (a : Option Addr) (n cap hi : Nat) (kh : IntKind) (h2 : hi ≤ cap) (w : World) :
    (Instr.slice t (.slice a n cap) none (some (.int kh (hi : Int))) none).run P w = .ok (.slice a hi cap) w := by
  obtain ⟨i, hi', hz⟩ := Option.map_eq_some_iff.1 hsz
  have e := cut3_zero a cap
  unfold cut3 at e
  simp only [Nat.zero_mul] at e
  simp [Instr.slice, run_underlying ht, Instr.sliceBounds, run_sliceBound, sizeOf, typeInfo, hi', h2]
  intro hne
  rw [if_neg hne] at e
  exact e
theorem ItemsN.drop {w : World} {a : Option Addr} {n : Nat} {qs : List NdA} (h : ItemsN w a n qs) (cap k : Nat) (hk : k ≤ n) (hc : n ≤ cap) : ItemsN w (cut3 a k cap) (n - k) (qs.drop k) :=
  ⟨by rw [List.length_drop, h.len], fun e => by
    unfold cut3 at e
    split at e
    · omega
    · cases a with
      | none => have := h.nil rfl; omega
      | some a => simp at e, fun hm => by
    obtain ⟨bl, off, rfl, hl, hcl⟩ := h.cells (by omega)
    refine ⟨bl, off + k * 3, ?_, hl, fun j u hu => ?_⟩
    · unfold cut3; rw [if_neg (by omega)]; simp only [Option.map_some, Addr.add_lit]
    · rw [flatN_drop, List.getElem?_drop] at hu
      rw [Nat.add_assoc]
      exact hcl _ u hu⟩
theorem ItemsN.take {w : World} {a : Option Addr} {n : Nat} {qs : List NdA} (h : ItemsN w a n qs) (k : Nat) (hk : k ≤ n) : ItemsN w a k (qs.take k) :=
  ⟨by rw [List.length_take, h.len]; omega, fun e => by have := h.nil e; omega, fun hm => by
    obtain ⟨bl, off, rfl, hl, hcl⟩ := h.cells (by omega)
    refine ⟨bl, off, rfl, hl, fun j u hu => hcl j u ?_⟩
    rw [flatN_take, List.getElem?_take] at hu
    split at hu
    · exact hu
    · cases hu⟩

theorem infoNd : (Try.prog.info? 44).map (fun i => (i.zero, i.size, i.bytes)) = some (some (ndV ByteArray.empty Option.none 0 0 0), 3, 48) := by kernel_rfl
theorem run_append_nds (w : World) (base : Nat) (ty : TypeId) (a : Option Addr) (n cap : Nat) (xs : List NdA) (hown : w.ownsRow base 44 3 (.slice a n cap) n (flatN xs)) (b : Option Addr) (m c : Nat) (ys : List NdA) (hb0 : b = Option.none → c = 0) (hr : ItemsN w b m ys)
    (h63 : n + m ≤ 1000000) (hbase : base ≤ w.heap.size) :
    ∃ a' cap' w', (Builtin.append_ #[22, 22] ty #[.slice a n cap, .slice b m c]).run Try.prog w = .ok (.slice a' (n + m) cap') w' ∧ w'.ownsRow base 44 3 (.slice a' (n + m) cap') (n + m) (flatN (xs ++ ys)) ∧ w.grownBy w' (Value.slice a n cap).ownBlock := by
  obtain ⟨i0, hi, hz0, hz1, hz2⟩ := info_parts infoNd
  rw [flatN_append]
  cases b with
  | none =>
    obtain rfl := hr.nil rfl
    obtain rfl := hb0 rfl
    obtain rfl : ys = [] := List.eq_nil_of_length_eq_zero hr.len
    exact ⟨a, cap, w, run_append_owned_none (P := Try.prog) w base _ ty _ i0 3 Try.underlying22 hi _ n _ hown, by simpa [flatN] using hown, World.grownBy.refl _ _⟩
  | some ad =>
    have hcells : ∀ j u, (flatN ys)[j]? = some u → w.cell? (ad.add j) = some u := by
      intro j u hu
      have hm : 0 < m := by
        rcases Nat.eq_zero_or_pos m with h0 | h0
        · have : ys = [] := List.eq_nil_of_length_eq_zero (by rw [hr.len]; exact h0)
          subst this; simp [flatN] at hu
        · exact h0
      obtain ⟨bl, off, e, _, hc⟩ := hr.cells hm
      injection e with e
      subst e
      rw [Addr.add_lit]; exact hc j u hu
    obtain ⟨v', w', hrun, ho, hg, hn⟩ := run_append_own (P := Try.prog) w base 22 ty 44 i0 _ 3 48 Try.underlying22 hi hz0 hz1 hz2 rfl (by decide) _ n _ hown ad m c (flatN ys) (by rw [flatN_length, hr.len]) hcells (flatN_one ys) (by unfold maxLen; omega) (by omega) hbase
    rcases ho.2 with ⟨rfl, h0⟩ | ⟨g, c', cur, rfl, r⟩
    · exact ⟨Option.none, 0, w', by rw [hrun, h0], by rw [h0] at ho ⊢; exact ho, hg⟩
    · exact ⟨some ⟨g, 0, Option.none⟩, c', w', hrun, ho, hg⟩
theorem step_append_nds {w : World} {ops : Array Oper} {o : Oper} {act : Act} {K : Act → World → Prop} {Q : Exit → Act → World → Prop} {E : Prop} (hgd : o.guard = Option.none) (s x : Operand)
    (ho : o.op = Op.call { callee := Callee.builtin Builtin.append, args := #[s, x], argTypes := #[22, 22] })
    (base : Nat) (a : Option Addr) (n cap : Nat) (xs : List NdA) (hs : act.eval s = .slice a n cap) (hown : w.ownsRow base 44 3 (.slice a n cap) n (flatN xs)) (b : Option Addr) (m c : Nat) (ys : List NdA) (hx : act.eval x = .slice b m c) (hb0 : b = Option.none → c = 0) (hr : ItemsN w b m ys)
    (h63 : n + m ≤ 1000000) (hbase : base ≤ w.heap.size) (N : Nat) (hN : n + m = N)
    (h : ∀ a' cap' w', w'.ownsRow base 44 3 (.slice a' N cap') N (flatN (xs ++ ys)) → w.grownBy w' (Value.slice a n cap).ownBlock → K (act.put o.dst (.slice a' N cap')) w') :
    if Region.wanted o (yielded ops act.tmps) = true then Oper.wp Try.prog o act w K Q else E := by
  have hw : Region.wanted o (yielded ops act.tmps) = true := by simp [Region.wanted, hgd]
  rw [if_pos hw]
  subst hN
  obtain ⟨a', cap', w', hr, h2, h3⟩ := run_append_nds w base o.type a n cap xs hown b m c ys hb0 hr h63 hbase
  unfold Oper.wp execOp
  simp only [ho, resolve, invoke, builtin, Sem.run_bind, Sem.run_pure, Result.andThen_ok, List.map_toArray, List.map_cons, List.map_nil, hs, hx, hr]
  exact h a' cap' w' h2 h3
end Go.Proofs.Ytdjbmjkfpmchgaa
