/-
  A list of pictures whose pixels are counted up one by one: what stays.
-/
import Derived.Test.YtdmaoaclhaofbaaTileRasters
import Derived.Test.YtdmaoaclhaofbaaTileNil
import Derived.Test.YtdmaoaclhaofbaaTileShapeAny
namespace Go.Proofs.Ytdmaoaclhaofbaa
open Go.RowKit

theorem below_set {b : Nat} {w w' : World} (h : Below b w w') (g i : Nat) (v : Value) (hg : b ≤ g) : Below b w (w'.setCell ⟨g, i, Option.none⟩ v) := h.setCell (by simpa using hg) v
/-- vs has rows of bytes of these lengths, each in a block from base on, ahead of M. -/
def HasL (w : World) (base g M : Nat) (vs : List Value) (ls : List Nat) : Prop :=
  ∀ j, j < ls.length → ∃ q c zs, vs[j * 5 + 4]? = some (.slice (some ⟨q, 0, Option.none⟩) (ls.getD j 0) c) ∧ q ≠ g ∧ base ≤ q ∧ q < M ∧ isB zs ∧ w.ownsRow base 5 1 (.slice (some ⟨q, 0, Option.none⟩) (ls.getD j 0) c) (ls.getD j 0) (zs.map (Value.int .u8))
theorem HasT.toL {w : World} {base g : Nat} {vs : List Value} {ts : List Til} (h : HasT w base g vs ts) (hB : ∀ t ∈ ts, isB t.2) : HasL w base g w.heap.size vs (ts.map (·.2.length)) := by
  intro j hj
  have hj' : j < ts.length := by simpa using hj
  obtain ⟨q, c, v0, v1, v2, v3, v4, hq, ho⟩ := h j hj'
  have e : (ts.map (·.2.length)).getD j 0 = ts[j].2.length := by simp [List.getD, hj']
  rw [e]
  exact ⟨q, c, _, v4, hq, (ho.lt q rfl).1, (ho.lt q rfl).2, hB _ (List.getElem_mem hj'), ho⟩
theorem HasL.below {w w' : World} {base g M : Nat} {vs : List Value} {ls : List Nat} (h : HasL w base g M vs ls) (hb : Below w.heap.size w w') : HasL w' base g M vs ls := by
  intro j hj
  obtain ⟨q, c, zs, v4, hq, h1, h2, hz, ho⟩ := h j hj
  exact ⟨q, c, zs, v4, hq, h1, h2, hz, owns_below ho hb⟩
theorem HasL.set {w : World} {base g M : Nat} {vs : List Value} {ls : List Nat} (h : HasL w base g M vs ls) (q i : Nat) (x : Int) (hx : 0 ≤ x ∧ x < 256) : HasL (w.setCell ⟨q, i, Option.none⟩ (.int .u8 x)) base g M vs ls := by
  intro j hj
  obtain ⟨q', c, zs, v4, hq', h1, h2, hz, ho⟩ := h j hj
  by_cases e : q = q'
  · subst e
    refine ⟨q, c, zs.set i x, v4, hq', h1, h2, fun y hy => (List.mem_or_eq_of_mem_set hy).elim (hz y) (fun e => e ▸ hx), ?_⟩
    rw [List.map_set]
    exact (ho.stored i _).1
  · exact ⟨q', c, zs, v4, hq', h1, h2, hz, owns_far ho q i _ e⟩
structure KL (w : World) (base g n cap M : Nat) (vs : List Value) (ls : List Nat) : Prop where
  own : w.ownsRow base 26 5 (.slice (some ⟨g, 0, Option.none⟩) n cap) n vs
  has : HasL w base g M vs ls
theorem KL.below {w w' : World} {base g n cap M : Nat} {vs : List Value} {ls : List Nat} (h : KL w base g n cap M vs ls) (hb : Below w.heap.size w w') : KL w' base g n cap M vs ls :=
  ⟨owns_keep h.own (fun r hr => hb.block r (h.own.lt r hr).2), h.has.below hb⟩
theorem KL.set {w : World} {base g n cap M : Nat} {vs : List Value} {ls : List Nat} (h : KL w base g n cap M vs ls) (q i : Nat) (x : Int) (hq : q ≠ g) (hx : 0 ≤ x ∧ x < 256) : KL (w.setCell ⟨q, i, Option.none⟩ (.int .u8 x)) base g n cap M vs ls :=
  ⟨owns_keep h.own (fun r hr => Below.heap_setCell w ⟨q, i, Option.none⟩ _ r (fun e => hq (by simp [Value.ownBlock] at hr; exact e.symm.trans hr.symm))), h.has.set q i x hx⟩
theorem Box.setFar {w : World} {g : Nat} {W H C D : Int} (h : Box w g W H C D) (b i : Nat) (v : Value) (hb : b ≠ g) : Box (w.setCell ⟨b, i, Option.none⟩ v) g W H C D :=
  box_block h (by simp) (Below.heap_setCell w ⟨b, i, Option.none⟩ v g (fun e => hb e.symm))
theorem tilP_len {W H C D : Int} {n : Nat} {xs : List Int} (hm : mayR W H C D n = true) (hl : xs.length = n) (i : Nat) (hi : i < tN W H) : (tilP W H C D xs i).length ≤ 16384 := by
  have T := tf_of hm i hi
  unfold tilP
  rw [rowsB_len _ (fun y hy => by rw [hl]; exact T.fit y hy)]
  exact T.le
theorem tils_isB {W H C D : Int} {xs : List Int} (hx : isB xs) (k : Nat) : ∀ t ∈ tils W H C D xs k, isB t.2 := by
  intro t ht
  simp [tils] at ht
  obtain ⟨i, _, rfl⟩ := ht
  exact rowsB_isB hx _ _ _ _ _
end Go.Proofs.Ytdmaoaclhaofbaa
