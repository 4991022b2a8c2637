/-
  A tree that is an argument: its numbers and keys.
-/
import Derived.Test.YtbmbelnjgnahhaaJoinMay
import Derived.SliceStrings
import Derived.Test.YtbmbelnjgnahhaaOpenShape
namespace Go.Proofs.Ytbmbelnjgnahhaa
open Go.ChangeShapes Go.WideShapes Go.ChangeAt Go.RowKit Go.Joins

theorem open_tree {H' : Type} {enc : TypeId × Value → H'} {w : World} {base : Nat} {held : Bool} {r : Reach} {b0 : Nat} {v : Value} {d : DataW H'} {p : List MemPlace}
    (hv : Value.okWide Try.prog w r b0 26 v) (h : DataW.Trod enc Try.prog w base (fun _ => true) held 26 v d p) :
    ∃ (W H C D : Int) (a : Option Addr) (n cap : Nat) (ks : List ByteArray), v = ras W H C D a n cap ∧ i64In W ∧ i64In H ∧ i64In C ∧ i64In D ∧ Strs w a n cap ks := by
  obtain ⟨cs, rfl, hsz⟩ := okWide_struct Try.underlying26 hv
  have hc5 : Try.prog.cellsOf 26 = 5 := by kernel_rfl
  have hc4 : Try.prog.cellsOf 23 = 4 := by kernel_rfl
  have hc1 : Try.prog.cellsOf 24 = 1 := by kernel_rfl
  have hi1 : Try.prog.cellsOf 3 = 1 := by kernel_rfl
  obtain ⟨l⟩ := cs
  match l, hsz.trans hc5 with
  | [v0, v1, v2, v3, v4], _ =>
    obtain ⟨fuel, hf⟩ := h
    obtain ⟨ys, m, _, _, _, hlen, hg⟩ := DataW.trod_struct Try.underlying26 hf
    match ys, hlen with
    | [y0, y1], _ =>
      have g0 : DataW.trod enc Try.prog w base (fun _ => true) held m 23 [v0, v1, v2, v3] = some y0 := by
        have : DataW.trod enc Try.prog w base (fun _ => true) held m 23 (List.take (Try.prog.cellsOf 23) (List.drop 0 [v0, v1, v2, v3, v4])) = [y0, y1][0]? := hg 0 _ rfl
        rw [hc4] at this
        exact this
      have g1 : DataW.trod enc Try.prog w base (fun _ => true) held m 24 [v4] = some y1 := by
        have : DataW.trod enc Try.prog w base (fun _ => true) held m 24 (List.take (Try.prog.cellsOf 24) (List.drop 4 [v0, v1, v2, v3, v4])) = [y0, y1][1]? := hg 1 _ rfl
        rw [hc1] at this
        exact this
      obtain ⟨zs, k, _, _, _, hzl, hz⟩ := DataW.trod_struct Try.underlying23 g0
      match zs, hzl with
      | [z0, z1, z2, z3], _ =>
        have k0 : DataW.trod enc Try.prog w base (fun _ => true) held k 3 [v0] = some z0 := by
          have : DataW.trod enc Try.prog w base (fun _ => true) held k 3 (List.take (Try.prog.cellsOf 3) (List.drop 0 [v0, v1, v2, v3])) = [z0, z1, z2, z3][0]? := hz 0 _ rfl
          rw [hi1] at this; exact this
        have k1 : DataW.trod enc Try.prog w base (fun _ => true) held k 3 [v1] = some z1 := by
          have : DataW.trod enc Try.prog w base (fun _ => true) held k 3 (List.take (Try.prog.cellsOf 3) (List.drop 1 [v0, v1, v2, v3])) = [z0, z1, z2, z3][1]? := hz 1 _ rfl
          rw [hi1] at this; exact this
        have k2 : DataW.trod enc Try.prog w base (fun _ => true) held k 3 [v2] = some z2 := by
          have : DataW.trod enc Try.prog w base (fun _ => true) held k 3 (List.take (Try.prog.cellsOf 3) (List.drop 2 [v0, v1, v2, v3])) = [z0, z1, z2, z3][2]? := hz 2 _ rfl
          rw [hi1] at this; exact this
        have k3 : DataW.trod enc Try.prog w base (fun _ => true) held k 3 [v3] = some z3 := by
          have : DataW.trod enc Try.prog w base (fun _ => true) held k 3 (List.take (Try.prog.cellsOf 3) (List.drop 3 [v0, v1, v2, v3])) = [z0, z1, z2, z3][3]? := hz 3 _ rfl
          rw [hi1] at this; exact this
        obtain ⟨a, e0, _, w0⟩ := DataW.trod_int Try.underlying3 k0
        obtain ⟨b, e1, _, w1⟩ := DataW.trod_int Try.underlying3 k1
        obtain ⟨c, e2, _, w2⟩ := DataW.trod_int Try.underlying3 k2
        obtain ⟨e, e3, _, w3⟩ := DataW.trod_int Try.underlying3 k3
        simp at e0 e1 e2 e3
        subst e0 e1 e2 e3
        obtain ⟨q, n, cap, ks, hq, hr⟩ : ∃ (q : Option Addr) (n cap : Nat) (ks : List ByteArray), v4 = .slice q n cap ∧ Strs w q n cap ks := by
          rcases open_strings Try.underlying24 Try.underlying9 (by kernel_rfl) g1 with ⟨hcs, _⟩ | ⟨x, l, c, ss, hcs, _, hl, hm, hz, _, hcell, _⟩
          · simp at hcs
            exact ⟨_, _, _, [], hcs, ReadsA.none _ _ _⟩
          · simp at hcs
            refine ⟨_, _, _, ss.take l, hcs, ?_⟩
            replace hz : ss.length = c := hz
            refine ⟨by simp; omega, hl, hm, (fun h => nomatch h), fun hn => ?_⟩
            obtain ⟨b, off, spot⟩ := x
            have h0 := hcell 0 (by omega)
            have hspot : spot = none := by simpa [Addr.add] using World.cell?_spot h0
            subst hspot
            refine ⟨b, off, rfl, World.block_lt_of_cell? _ _ h0, fun i hi => ?_⟩
            rw [← Addr.add_lit, hcell i (by omega)]
            simp [List.getD, hi]
        subst hq
        exact ⟨a, b, c, e, q, n, cap, ks, rfl, wf_i64 w0, wf_i64 w1, wf_i64 w2, wf_i64 w3, hr⟩
end Go.Proofs.Ytbmbelnjgnahhaa
