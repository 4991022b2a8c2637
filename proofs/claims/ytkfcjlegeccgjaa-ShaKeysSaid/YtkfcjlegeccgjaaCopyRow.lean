/-
  copy into a cut of a list of the call's own, whichever is shorter: what else stays.
-/
import Derived.Test.YtkfcjlegeccgjaaCopyAt
namespace Go.Proofs.Ytkfcjlegeccgjaa
open Go.RowKit

theorem wpList_copy_row {P : Program} {w : World} {ops : Array Oper} {rest : List Oper} {o : Oper} {act : Act} {Q : Exit → Act → World → Prop} (hgd : o.guard = none) (d s : Operand) (t : TypeId)
    (ho : o.op = .call { callee := .builtin .copy, args := #[d, s], argTypes := #[t, t] }) (base : Nat) (e : TypeId) (ht : P.underlying t = some (.slice e)) (hsz : (P.info? e).map (·.size) = some 1)
    (k : IntKind) (g off n cap dLen dCap : Nat) (xs : List Int) (hown : w.ownsRow base e 1 (.slice (some ⟨g, 0, none⟩) n cap) n (xs.map (Value.int k))) (hd : act.eval d = .slice (some ⟨g, off, none⟩) dLen dCap)
    (b : Option Addr) (m c : Nat) (ys : List Int) (hs : act.eval s = .slice b m c) (hr : Reads k w b m c ys) (L : Nat) (hL : L = Nat.min m dLen) (hfit : off + L ≤ n)
    (h : ∀ w', w'.ownsRow base e 1 (.slice (some ⟨g, 0, none⟩) n cap) n ((xs.take off ++ (ys.take L ++ xs.drop (off + L))).map (Value.int k)) → w.grownBy w' (some g) → wpList P ops Q rest (act.put o.dst (goInt L)) w') : wpList P ops Q (o :: rest) act w := by
  have hLm : L ≤ m := by rw [hL]; exact Nat.min_le_left _ _
  obtain ⟨hl, hq | ⟨g', cap', cur, hq, hbg, hc, hcap, hmax, hcs, htk⟩⟩ := hown
  · exact absurd hq.1 (by simp)
  obtain ⟨rfl, rfl⟩ : g' = g ∧ cap' = cap := by simpa [eq_comm] using hq
  have hlen : ys.length = m := hr.len
  have hxl : xs.length = n := by simpa using hl
  have hcl : n ≤ cur.toList.length := by simp; omega
  have hyl : (ys.take L).length = L := by rw [List.length_take]; omega
  by_cases h0 : L = 0
  · subst h0
    refine wpList_copy_nothing hgd d s t t ho e ht hsz (some ⟨g', off, none⟩) b dLen dCap m c hd hs hL.symm (h w ?_ (World.grownBy.refl _ _))
    simp only [List.take_zero, List.nil_append, Nat.add_zero, List.take_append_drop]
    exact ⟨hl, .inr ⟨g', cap', cur, rfl, hbg, hc, hcap, hmax, hcs, htk⟩⟩
  · obtain ⟨b1, o1, rfl, hlt, hcell⟩ := hr.cells (by omega)
    refine wpList_copy_own hgd d s t t ho e ht hsz g' off dLen dCap ⟨b1, o1, none⟩ m c hd hs cur e hc ((ys.take L).map (Value.int k)) (by rw [List.length_map, hyl, hL]) (fun j v hv => ?_) (by rw [List.length_map, hyl]; simp at hcl; omega) (ints_oneCell k _) ?_
    · have hj : j < L := by
        have := (List.getElem?_eq_some_iff.1 hv).1
        rw [List.length_map, hyl] at this
        exact this
      rw [List.getElem?_map, List.getElem?_take_of_lt hj] at hv
      have := hcell j (by omega)
      rw [Addr.add_mid, this]
      have hj2 : j < ys.length := by omega
      simpa [List.getD, List.getElem?_eq_getElem hj2] using hv
    · rw [List.length_map, hyl]
      refine h _ ⟨by simp; omega, .inr ⟨g', cap', _, rfl, hbg, setRow_heap w g' _ _ e _ hc, hcap, hmax, ?_, ?_⟩⟩ ⟨rfl, rfl, rfl, by simp [World.setRow], fun r hr hne => setRow_other w g' r _ (fun e => hne (by rw [e]))⟩
      · have : (splice cur.toList off ((ys.take L).map (Value.int k))).length = cur.toList.length := length_splice _ _ _ (by rw [List.length_map, hyl]; omega)
        unfold splice at this
        rw [List.length_map, hyl] at this
        simpa using this.trans (by simpa using hcs)
      · have hx : xs.map (Value.int k) = cur.toList.take n := by simpa using htk.symm
        have := take_splice cur.toList off ((ys.take L).map (Value.int k)) n (m := L) (by rw [List.length_map, hyl]; exact hfit) hcl (by rw [List.length_map, hyl])
        unfold splice at this
        rw [List.length_map, hyl] at this
        simp only [List.map_append, List.map_take, List.map_drop, hx] at this ⊢
        rw [Nat.mul_one]
        exact this
end Go.Proofs.Ytkfcjlegeccgjaa
