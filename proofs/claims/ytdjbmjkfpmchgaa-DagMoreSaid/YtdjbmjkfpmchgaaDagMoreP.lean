/-
  A child more of two nodes: histories, bases, logs.
-/
import Derived.Test.YtdjbmjkfpmchgaaDagWalkLogs
namespace Go.Proofs.Ytdjbmjkfpmchgaa
open Go.RowKit Go.Maps

/-- ms is ns with one node more, whose parents are a and b, newer than both. -/
structure More (ns : List Nd) (a b key : ByteArray) (st : Int) : Prop where
  good : Good ns
  few : ns.length ≤ 400
  ha : a ∈ keysOf ns
  hb : b ∈ keysOf ns
  hk : key ∉ keysOf ns
  sa : stOf ns a < st
  sb : stOf ns b < st

section
variable {ns : List Nd} {a b key : ByteArray} {st : Int}
def moreL (ns : List Nd) (a b key : ByteArray) (st : Int) : List Nd := ns ++ [⟨key, [a, b], st⟩]
theorem keys_moreL : keysOf (moreL ns a b key st) = keysOf ns ++ [key] := by unfold keysOf moreL; rw [List.map_append]; rfl
theorem More.nd (_h : More ns a b key st) {k : ByteArray} (hk : k ∈ keysOf ns) : ndOf (moreL ns a b key st) k = ndOf ns k := ndOf_append k hk
theorem More.sto (h : More ns a b key st) {k : ByteArray} (hk : k ∈ keysOf ns) : stOf (moreL ns a b key st) k = stOf ns k := by unfold stOf; rw [h.nd hk]
theorem More.ps (h : More ns a b key st) {k : ByteArray} (hk : k ∈ keysOf ns) : psOf (moreL ns a b key st) k = psOf ns k := by unfold psOf; rw [h.nd hk]
theorem More.psK (h : More ns a b key st) : psOf (moreL ns a b key st) key = [a, b] := by
  have := ndOf_append_new (ns := ns) (n := ⟨key, [a, b], st⟩) h.hk
  unfold psOf moreL; rw [this]
theorem More.in (_h : More ns a b key st) {k : ByteArray} (hk : k ∈ keysOf ns) : k ∈ keysOf (moreL ns a b key st) := by rw [keys_moreL]; exact List.mem_append_left _ hk
theorem More.inK (_h : More ns a b key st) : key ∈ keysOf (moreL ns a b key st) := by rw [keys_moreL]; simp
theorem More.goodM (h : More ns a b key st) : Good (moreL ns a b key st) where
  few := by have := h.few; simp [moreL]; omega
  nodup := by
    rw [keys_moreL, List.nodup_append]
    exact ⟨h.good.nodup, by simp, fun x hx y hy e => h.hk (by rw [List.mem_singleton] at hy; rw [← hy, ← e]; exact hx)⟩
  there := fun n hn p hp => by
    rcases List.mem_append.1 hn with hn | hn
    · exact h.in (h.good.there n hn p hp)
    · rw [List.mem_singleton] at hn
      subst hn
      simp at hp
      rcases hp with rfl | rfl
      · exact h.in h.ha
      · exact h.in h.hb
  above := fun n hn p hp => by
    rcases List.mem_append.1 hn with hn | hn
    · rw [h.sto (h.good.there n hn p hp)]; exact h.good.above n hn p hp
    · rw [List.mem_singleton] at hn
      subst hn
      simp at hp
      rcases hp with rfl | rfl
      · rw [h.sto h.ha]; exact h.sa
      · rw [h.sto h.hb]; exact h.sb
theorem More.reach (h : More ns a b key st) {k : ByteArray} (hk : k ∈ keysOf ns) (x : ByteArray) : Reach (moreL ns a b key st) k x ↔ Reach ns k x := by
  constructor
  · intro hr
    induction hr with
    | refl => exact .refl
    | step _ hx ih => exact .step ih (by rw [← h.ps (ih.there h.good hk)]; exact hx)
  · intro hr
    induction hr with
    | refl => exact .refl
    | step hb' hx ih => exact .step ih (by rw [h.ps (hb'.there h.good hk)]; exact hx)
theorem More.reachK (h : More ns a b key st) (x : ByteArray) : Reach (moreL ns a b key st) key x ↔ x = key ∨ Reach ns a x ∨ Reach ns b x := by
  constructor
  · intro hr
    induction hr with
    | refl => exact .inl rfl
    | step _ hx ih =>
      rcases ih with rfl | ih | ih
      · rw [h.psK] at hx
        simp at hx
        rcases hx with rfl | rfl
        · exact .inr (.inl .refl)
        · exact .inr (.inr .refl)
      · exact .inr (.inl (.step ih (by rw [← h.ps (ih.there h.good h.ha)]; exact hx)))
      · exact .inr (.inr (.step ih (by rw [← h.ps (ih.there h.good h.hb)]; exact hx)))
  · have ka : Reach (moreL ns a b key st) key a := .step .refl (by rw [h.psK]; simp)
    have kb : Reach (moreL ns a b key st) key b := .step .refl (by rw [h.psK]; simp)
    rintro (rfl | hr | hr)
    · exact .refl
    · exact ka.trans ((h.reach h.ha x).2 hr)
    · exact kb.trans ((h.reach h.hb x).2 hr)
theorem More.anc (h : More ns a b key st) {k : ByteArray} (hk : k ∈ keysOf ns) {l : List ByteArray} (hl : IsAnc (moreL ns a b key st) k l) : IsAnc ns k l :=
  ⟨hl.rises, fun x => by rw [hl.mem x, h.reach hk]; exact ⟨fun ⟨_, r⟩ => ⟨hk, r⟩, fun ⟨_, r⟩ => ⟨h.in hk, r⟩⟩⟩
theorem More.log (h : More ns a b key st) {k : ByteArray} (hk : k ∈ keysOf ns) {l : List ByteArray} (hl : IsLog (moreL ns a b key st) k l) : IsLog ns k l := by
  have hm : ∀ x, x ∈ l ↔ (k ∈ keysOf ns ∧ Reach ns k x) := fun x => by rw [hl.mem x, h.reach hk]; exact ⟨fun ⟨_, r⟩ => ⟨hk, r⟩, fun ⟨_, r⟩ => ⟨h.in hk, r⟩⟩
  refine ⟨?_, hm⟩
  rw [List.pairwise_iff_getElem]
  intro i j hi hj hij
  have := List.pairwise_iff_getElem.1 hl.falls i j hi hj hij
  have hki := ((hm _).1 (List.getElem_mem hi)).2.there h.good hk
  have hkj := ((hm _).1 (List.getElem_mem hj)).2.there h.good hk
  unfold newer at *
  rw [h.sto hki, h.sto hkj] at this
  exact this
theorem More.baseA (h : More ns a b key st) : IsBase (moreL ns a b key st) key a a := (isBase_elder h.goodM (h.in h.ha) h.inK ((h.reachK a).2 (.inr (.inl .refl)))).symm
theorem More.baseB (h : More ns a b key st) : IsBase (moreL ns a b key st) b key b := isBase_elder h.goodM (h.in h.hb) h.inK ((h.reachK b).2 (.inr (.inr .refl)))
theorem More.both (h : More ns a b key st) (x : ByteArray) : Both (moreL ns a b key st) a b x ↔ Both ns a b x := by
  unfold Both
  rw [h.reach h.ha, h.reach h.hb]
  exact ⟨fun ⟨⟨_, r⟩, ⟨_, s⟩⟩ => ⟨⟨h.ha, r⟩, ⟨h.hb, s⟩⟩, fun ⟨⟨_, r⟩, ⟨_, s⟩⟩ => ⟨⟨h.in h.ha, r⟩, ⟨h.in h.hb, s⟩⟩⟩
theorem More.base (h : More ns a b key st) {x : ByteArray} {c : Int} (hb : BaseIs (moreL ns a b key st) a b x c) : BaseIs ns a b x c := by
  rcases hb with ⟨hn, _⟩ | ⟨_, hn, r⟩ | ⟨_, hb, r⟩
  · exact absurd ⟨h.in h.ha, h.in h.hb⟩ hn
  · exact .inr (.inl ⟨⟨h.ha, h.hb⟩, fun y hy => hn y ((h.both y).2 hy), r⟩)
  · refine .inr (.inr ⟨⟨h.ha, h.hb⟩, ⟨(h.both x).1 hb.both, fun y hy => ?_⟩, r⟩)
    have := hb.most y ((h.both y).2 hy)
    have hx := ((h.both x).1 hb.both).1.2.there h.good h.ha
    have hy' := hy.1.2.there h.good h.ha
    rw [h.sto hx, h.sto hy'] at this
    exact this
theorem More.elderA (h : More ns a b key st) {x : ByteArray} {c : Int} (hb : BaseIs (moreL ns a b key st) key a x c) : x = a ∧ c = 0 :=
  hb.uniq (.inr (.inr ⟨⟨h.inK, h.in h.ha⟩, h.baseA, rfl⟩))
theorem More.elderB (h : More ns a b key st) {x : ByteArray} {c : Int} (hb : BaseIs (moreL ns a b key st) b key x c) : x = b ∧ c = 0 :=
  hb.uniq (.inr (.inr ⟨⟨h.in h.hb, h.inK⟩, h.baseB, rfl⟩))
theorem More.all (h : More ns a b key st) {pa pb u l : List ByteArray} (hpa : IsAnc ns a pa) (hpb : IsAnc ns b pb) (hu : Rises u) (hm : ∀ x, x ∈ u ↔ x ∈ (pa ++ pb) ++ [key]) (hl : IsAnc (moreL ns a b key st) key l) : l = u :=
  rises_ext hl.rises hu fun x => by
    rw [hm, hl.mem, h.reachK, List.mem_append, List.mem_append, List.mem_singleton, hpa.mem, hpb.mem]
    constructor
    · rintro ⟨_, rfl | r | r⟩
      · exact .inr rfl
      · exact .inl (.inl ⟨h.ha, r⟩)
      · exact .inl (.inr ⟨h.hb, r⟩)
    · rintro ((⟨_, r⟩ | ⟨_, r⟩) | rfl)
      · exact ⟨h.inK, .inr (.inl r)⟩
      · exact ⟨h.inK, .inr (.inr r)⟩
      · exact ⟨h.inK, .inl rfl⟩
theorem more_keyable (hk : Keyable ns) (ha : a.size ≤ maxLen) (hb : b.size ≤ maxLen) (hkey : key.size ≤ maxLen) : Keyable (moreL ns a b key st) := fun n hn => by
  rcases List.mem_append.1 hn with hn | hn
  · exact hk n hn
  · rw [List.mem_singleton] at hn
    subst hn
    refine ⟨hkey, (show 2 * 16 ≤ 140737488355328 by decide), fun p hp => ?_⟩
    simp at hp
    rcases hp with rfl | rfl
    · exact ha
    · exact hb
end
theorem wpList_append_nds (w : World) {ops : Array Oper} {rest : List Oper} {o : Oper} {act : Act} {Q : Exit → Act → World → Prop} (hgd : o.guard = Option.none) (s x : Operand)
    (ho : o.op = Op.call { callee := Callee.builtin Builtin.append, args := #[s, x], argTypes := #[22, 22] })
    (base : Nat) (a : Option Addr) (n cap : Nat) (xs : List NdA) (hs : act.eval s = .slice a n cap) (hown : w.ownsRow base 44 3 (.slice a n cap) n (flatN xs)) (b : Option Addr) (m c : Nat) (ys : List NdA) (hx : act.eval x = .slice b m c) (hb0 : b = Option.none → c = 0) (hr : ItemsN w b m ys)
    (h63 : n + m ≤ 1000000) (hbase : base ≤ w.heap.size) (N : Nat) (hN : n + m = N)
    (h : ∀ a' cap' w', w'.ownsRow base 44 3 (.slice a' N cap') N (flatN (xs ++ ys)) → w.grownBy w' (Value.slice a n cap).ownBlock → wpList Try.prog ops Q rest (act.put o.dst (.slice a' N cap')) w') : wpList Try.prog ops Q (o :: rest) act w := by
  refine wpList_plain hgd fun K hK => ?_
  subst hN
  obtain ⟨a', cap', w', hr, h2, h3⟩ := run_append_nds w base o.type a n cap xs hown b m c ys hb0 hr h63 hbase
  unfold Oper.wp execOp
  simp only [ho, resolve, invoke, builtin, Sem.run_bind, Sem.run_pure, Result.andThen_ok, List.map_toArray, List.map_cons, List.map_nil, hs, hx, hr]
  exact hK _ _ (h a' cap' w' h2 h3)
theorem more_items (w : World) (a b key : ByteArray) (s : Int) (T U : TypeId) :
    ItemsN ((w.alloc (.cells #[.string a, .string b] T)).alloc (.cells #[.string key, .slice (some ⟨w.heap.size, 0, Option.none⟩) 2 2, .int .i64 s] U)) (some ⟨w.heap.size + 1, 0, Option.none⟩) 1 [((⟨key, [a, b], s⟩ : Nd), some ⟨w.heap.size, 0, Option.none⟩, 2)] ∧
    Strs ((w.alloc (.cells #[.string a, .string b] T)).alloc (.cells #[.string key, .slice (some ⟨w.heap.size, 0, Option.none⟩) 2 2, .int .i64 s] U)) (some ⟨w.heap.size, 0, Option.none⟩) 2 2 [a, b] ∧
    Below w.heap.size w ((w.alloc (.cells #[.string a, .string b] T)).alloc (.cells #[.string key, .slice (some ⟨w.heap.size, 0, Option.none⟩) 2 2, .int .i64 s] U)) := by
  have s1 : Strs (w.alloc (.cells #[.string a, .string b] T)) (some ⟨w.heap.size, 0, Option.none⟩) 2 2 [a, b] := readsA_alloc ByteArray.empty w [a, b] #[.string a, .string b] _ _ rfl (show 2 ≤ maxLen by decide) 2 rfl
  have b1 := (Below.refl w.heap.size w).alloc (Nat.le_refl _) (.cells #[.string a, .string b] T)
  have hz : (w.alloc (.cells #[.string a, .string b] T)).heap.size = w.heap.size + 1 := by simp
  rw [← hz]
  generalize w.alloc (.cells #[.string a, .string b] T) = w1 at *
  have hc := fun (i : Nat) (v : Value) => cell_alloc w1 #[.string key, .slice (some ⟨w.heap.size, 0, Option.none⟩) 2 2, .int .i64 s] U (0, 0) i v
  have b2 := (Below.refl w1.heap.size w1).alloc (Nat.le_refl _) (.cells #[.string key, .slice (some ⟨w.heap.size, 0, Option.none⟩) 2 2, .int .i64 s] U)
  have hs2 : w1.heap.size < (w1.alloc (.cells #[.string key, .slice (some ⟨w.heap.size, 0, Option.none⟩) 2 2, .int .i64 s] U)).heap.size := by simp
  refine ⟨⟨rfl, (fun h => nomatch h), fun _ => ⟨w1.heap.size, 0, rfl, hs2, fun j u hu => ?_⟩⟩, s1.below b2, below_size b1 b2⟩
  rw [Nat.zero_add]
  refine hc j u ?_
  have e : flatN [((⟨key, [a, b], s⟩ : Nd), some (⟨w.heap.size, 0, Option.none⟩ : Addr), 2)] = [.string key, .slice (some ⟨w.heap.size, 0, Option.none⟩) 2 2, .int .i64 s] := rfl
  rw [e] at hu
  simpa using hu
theorem more_nds {w : World} {base : Nat} {qs : List NdA} {ns : List Nd} {a b key : ByteArray} {s : Int} {ab : Option Addr} (hq : qs.map (·.1) = ns) (hs : ∀ q ∈ qs, Strs w q.2.1 q.1.ps.length q.2.2 q.1.ps) (h2 : Strs w ab 2 2 [a, b]) {x : Option Addr} {n cap : Nat}
    (ho : w.ownsRow base 44 3 (.slice x n cap) n (flatN (([] ++ qs) ++ [((⟨key, [a, b], s⟩ : Nd), ab, 2)]))) : NdL w x n cap (moreL ns a b key s) := by
  have := ndL_of_owns ho (fun q hq' => by
    rw [List.nil_append] at hq'
    rcases List.mem_append.1 hq' with h | h
    · exact hs q h
    · rw [List.mem_singleton] at h; subst h; exact h2)
  rw [List.nil_append, List.map_append, hq] at this
  exact this
theorem owns_below3 {w w' : World} {base T n : Nat} {v : Value} {ws : List Value} (h : w.ownsRow base T 3 v n ws) (hb : Below w.heap.size w w') : w'.ownsRow base T 3 v n ws :=
  h.kept (row := .none) ⟨hb.os, hb.tape, hb.output, hb.size, fun k hk _ => hb.block k hk⟩ (by cases hv : v.ownBlock <;> simp)
theorem more_strs {w5 w6 w8 : World} {base T i cp : Nat} {a5 : Option Addr} {ws : List Value} {xs : List ByteArray} {n c : Nat} (h : Strs w6 (some ⟨w5.heap.size, 0, Option.none⟩) n c xs) (ho : w5.ownsRow base T 3 (.slice a5 i cp) i ws) (hg : w6.grownBy w8 (Value.slice a5 i cp).ownBlock) : Strs w8 (some ⟨w5.heap.size, 0, Option.none⟩) n c xs :=
  ⟨h.len, h.le, h.max, h.nil, fun hn => by
    obtain ⟨b, off, e, hb, hc⟩ := h.cells hn
    refine ⟨b, off, e, Nat.lt_of_lt_of_le hb hg.size, fun j hj => hg.cell (hc j hj) ?_⟩
    have e2 : b = w5.heap.size := by injection e with e; injection e with e1 _ _; exact e1.symm
    rcases ho.2 with ⟨e3, _⟩ | ⟨g, c', cur, e3, hb', hg', _⟩
    · rw [e3]; simp [Value.ownBlock]
    · rw [e3]
      have := (Array.getElem?_eq_some_iff.1 hg').1
      simp [Value.ownBlock]
      omega⟩
end Go.Proofs.Ytdjbmjkfpmchgaa
