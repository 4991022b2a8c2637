/-
  copy into a cut of a list of the call's own.
-/
import Derived.Test.YtkfcjlegeccgjaaLib
import Derived.Laws.CopyOwn
import Derived.Deep.MidRow
namespace Go.Proofs.Ytkfcjlegeccgjaa
open Go.RowKit

theorem take_splice {α : Type} (L : List α) (off : Nat) (cs : List α) (n : Nat) {m : Nat} (h : off + cs.length ≤ n) (hn : n ≤ L.length) (hm : cs.length = m) :
    (splice L off cs).take n = (L.take n).take off ++ (cs ++ (L.take n).drop (off + m)) := by
  subst hm
  unfold splice
  rw [List.take_take, Nat.min_eq_left (by omega), List.drop_take, List.take_append, List.take_append, List.take_of_length_le (by simp; omega), List.take_of_length_le (l := cs) (by simp; omega)]
  congr 2
  simp
  congr 1
  omega

theorem wpList_copy_reads {P : Program} {w : World} {ops : Array Oper} {rest : List Oper} {o : Oper} {act : Act} {Q : Exit → Act → World → Prop} (hgd : o.guard = none) (d s : Operand) (t : TypeId)
    (ho : o.op = .call { callee := .builtin .copy, args := #[d, s], argTypes := #[t, t] }) (base : Nat) (e : TypeId) (ht : P.underlying t = some (.slice e)) (hsz : (P.info? e).map (·.size) = some 1)
    (k : IntKind) (g off n cap dLen dCap : Nat) (xs : List Int) (hown : w.ownsRow base e 1 (.slice (some ⟨g, 0, none⟩) n cap) n (xs.map (Value.int k))) (hd : act.eval d = .slice (some ⟨g, off, none⟩) dLen dCap)
    (b : Option Addr) (m c : Nat) (ys : List Int) (hs : act.eval s = .slice b m c) (hr : Reads k w b m c ys) (hm : m ≤ dLen) (hfit : off + m ≤ n) (B : Nat) (w0 : World) (hb : Below B w0 w) (hB : B ≤ base)
    (h : ∀ w', w'.ownsRow base e 1 (.slice (some ⟨g, 0, none⟩) n cap) n ((xs.take off ++ (ys ++ xs.drop (off + m))).map (Value.int k)) → Below B w0 w' → wpList P ops Q rest (act.put o.dst (goInt m)) w') : wpList P ops Q (o :: rest) act w := by
  obtain ⟨hl, hq | ⟨g', cap', cur, hq, hbg, hc, hcap, hmax, hcs, htk⟩⟩ := hown
  · exact absurd hq.1 (by simp)
  obtain ⟨rfl, rfl⟩ : g' = g ∧ cap' = cap := by simpa [eq_comm] using hq
  have hlen : ys.length = m := hr.len
  have hxl : xs.length = n := by simpa using hl
  have hcl : n ≤ cur.toList.length := by simp; omega
  refine wpList_copy_splice hgd d s t t ho e ht hsz (some ⟨g', off, none⟩) b dLen dCap m c hd hs g' off cur.toList e hc (ys.map (Value.int k)) (by rw [List.length_map, hlen]; exact (Nat.min_eq_left hm).symm) (fun hp => ⟨rfl, ?_⟩) (by simp [hlen] at hcl ⊢; omega) (by simp [Value.oneCell']) B w0 hb (by omega) fun w' hH hb' => ?_
  · obtain ⟨b1, o1, rfl, hlt, hcell⟩ := hr.cells (by simpa [hlen] using hp)
    refine ⟨_, rfl, fun j v hv => ?_⟩
    have hj : j < ys.length := by
      have := (List.getElem?_eq_some_iff.1 hv).1; simpa using this
    rw [List.getElem?_map, List.getElem?_eq_getElem hj] at hv
    have := hcell j (by omega)
    simp at hv
    subst hv
    rw [Addr.add_mid]
    simpa [List.getD, List.getElem?_eq_getElem hj] using this
  · rw [List.length_map, hlen]
    refine h w' ⟨by simp [hlen, hxl]; omega, .inr ⟨g', cap', _, rfl, hbg, hH.out, hcap, hmax, ?_, ?_⟩⟩ hb'
    · have : (splice cur.toList off (ys.map (Value.int k))).length = cur.toList.length := length_splice _ _ _ (by simp [hlen] at hcl ⊢; omega)
      simpa using this.trans (by simpa using hcs)
    · have hx : xs.map (Value.int k) = cur.toList.take n := by simpa using htk.symm
      simp only [List.map_append, List.map_take, List.map_drop, hx]
      rw [Nat.mul_one]
      exact take_splice _ _ _ _ (by simp [hlen]; omega) hcl (by simp [hlen])
end Go.Proofs.Ytkfcjlegeccgjaa
