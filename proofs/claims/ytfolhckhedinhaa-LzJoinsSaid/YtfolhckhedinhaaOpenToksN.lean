/-
  A list of tokens that is an argument.
-/
import Derived.Test.YtfolhckhedinhaaLzWalkJoins
import Derived.Deep.Slices
import Derived.OpenShut
namespace Go.Proofs.Ytfolhckhedinhaa
open Go.ChangeShapes Go.WideShapes Go.ChangeAt Go.RowKit Go.Deep

theorem open_toksN {H' : Type} {enc : TypeId × Value → H'} {w : World} {base : Nat} {held : Bool} {r : Reach} {b0 : Nat} {v : Value} {d : DataW H'} {p : List MemPlace}
    (hv : Value.okWide Try.prog w r b0 25 v) (h : DataW.Trod enc Try.prog w base (fun _ => true) held 25 v d p) :
    ∃ (a : Option Addr) (n cap : Nat) (ts : List Tok), v = .slice a n cap ∧ ToksN w a n cap ts := by
  obtain ⟨a, len, cap, rfl⟩ := okWide_slice Try.underlying25 hv
  obtain ⟨fuel, hf⟩ := h
  have hc3 : Try.prog.cellsOf 41 = 3 := by kernel_rfl
  have hi1 : Try.prog.cellsOf 3 = 1 := by kernel_rfl
  rcases open_slice Try.underlying25 hf with ⟨hcs, _⟩ | ⟨x, l, c, m, n, D, Pl, hcs, _, hl, hm, hmm, _, hi⟩
  · simp [Value.cells] at hcs
    obtain ⟨rfl, rfl, rfl⟩ := hcs
    exact ⟨_, _, _, [], rfl, ⟨rfl, Nat.le_refl _, by decide, fun h => absurd h (by decide)⟩, fun _ => ⟨rfl, rfl⟩⟩
  · simp [Value.cells] at hcs
    obtain ⟨rfl, rfl, rfl⟩ := hcs
    simp at hmm
    subst hmm
    rw [hc3] at hi
    have key : ∀ i, i < len → ∃ q : Int × Int × Int, (w.cell? (x.add (i * 3)) = some (.int .i64 q.1) ∧ w.cell? ((x.add (i * 3)).add 1) = some (.int .i64 q.2.1) ∧ w.cell? ((x.add (i * 3)).add 2) = some (.int .i64 q.2.2)):= by
      intro i hil
      obtain ⟨cs, hc, ht⟩ := hi i (by omega)
      obtain ⟨_, hcl, hat⟩ := World.cells?_some hc
      match cs, hcl with
      | [v0, v1, v2], _ =>
        obtain ⟨zs, k, _, _, _, hzl, hz⟩ := DataW.trod_struct Try.underlying41 ht
        match zs, hzl with
        | [z0, z1, z2], _ =>
          have k0 : DataW.trod enc Try.prog w base (fun _ => true) held k 3 [v0] = some z0 := by
            have : DataW.trod enc Try.prog w base (fun _ => true) held k 3 (List.take (Try.prog.cellsOf 3) (List.drop 0 [v0, v1, v2])) = [z0, z1, z2][0]? := hz 0 _ rfl
            rw [hi1] at this; exact this
          have k1 : DataW.trod enc Try.prog w base (fun _ => true) held k 3 [v1] = some z1 := by
            have : DataW.trod enc Try.prog w base (fun _ => true) held k 3 (List.take (Try.prog.cellsOf 3) (List.drop 1 [v0, v1, v2])) = [z0, z1, z2][1]? := hz 1 _ rfl
            rw [hi1] at this; exact this
          have k2 : DataW.trod enc Try.prog w base (fun _ => true) held k 3 [v2] = some z2 := by
            have : DataW.trod enc Try.prog w base (fun _ => true) held k 3 (List.take (Try.prog.cellsOf 3) (List.drop 2 [v0, v1, v2])) = [z0, z1, z2][2]? := hz 2 _ rfl
            rw [hi1] at this; exact this
          obtain ⟨a0, e0, _, w0⟩ := DataW.trod_int Try.underlying3 k0
          obtain ⟨a1, e1, _, w1⟩ := DataW.trod_int Try.underlying3 k1
          obtain ⟨a2, e2, _, w2⟩ := DataW.trod_int Try.underlying3 k2
          simp at e0 e1 e2
          subst e0 e1 e2
          exact ⟨(a0, a1, a2), ⟨by have := hat 0 (by simp); rw [add_add] at this; simpa using this, hat 1 (by simp), hat 2 (by simp)⟩⟩
    obtain ⟨q, hq⟩ := choose_lt key
    refine ⟨_, _, _, (List.range len).map q, rfl, ⟨by simp, hl, hm, fun hn => ?_⟩, fun h => nomatch h⟩
    obtain ⟨b, off, spot⟩ := x
    have h0 := (hq 0 hn).1
    have hspot : spot = none := by simpa [Addr.add] using World.cell?_spot h0
    subst hspot
    refine ⟨b, off, rfl, World.block_lt_of_cell? _ _ h0, fun i hi => ?_⟩
    have hi' : i < len := by simpa using hi
    have := hq i hi'
    simpa only [Addr.add_lit, List.getElem_map, List.getElem_range] using this
end Go.Proofs.Ytfolhckhedinhaa
