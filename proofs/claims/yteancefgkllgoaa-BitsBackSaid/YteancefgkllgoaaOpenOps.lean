/-
  A list of calls that is an argument.
-/
import Derived.Test.YteancefgkllgoaaBitsOps
import Derived.Test.YteancefgkllgoaaChecked
import Derived.Deep.Slices
import Derived.OpenShut
namespace Go.Proofs.Yteancefgkllgoaa
open Go.ChangeShapes Go.WideShapes Go.ChangeAt Go.RowKit Go.Deep

theorem open_ops {H' : Type} {enc : TypeId × Value → H'} {w : World} {base : Nat} {held : Bool} {r : Reach} {b0 : Nat} {v : Value} {d : DataW H'} {p : List MemPlace}
    (hv : Value.okWide Try.prog w r b0 22 v) (h : DataW.Trod enc Try.prog w base (fun _ => true) held 22 v d p) :
    ∃ (a : Option Addr) (n cap : Nat) (kd ct nm : Nat → Int), v = .slice a n cap ∧ Ops w a n cap kd ct nm := by
  obtain ⟨a, len, cap, rfl⟩ := okWide_slice Try.underlying22 hv
  obtain ⟨fuel, hf⟩ := h
  have hc3 : Try.prog.cellsOf 32 = 3 := by kernel_rfl
  have hi1 : Try.prog.cellsOf 3 = 1 := by kernel_rfl
  have hu1 : Try.prog.cellsOf 30 = 1 := by kernel_rfl
  rcases open_slice Try.underlying22 hf with ⟨hcs, _⟩ | ⟨x, l, c, m, n, D, Pl, hcs, _, hl, hm, hmm, _, hi⟩
  · simp [Value.cells] at hcs
    obtain ⟨rfl, rfl, rfl⟩ := hcs
    exact ⟨_, _, _, fun _ => 0, fun _ => 0, fun _ => 0, rfl, ⟨Nat.le_refl _, by decide, fun h => absurd h (by decide), fun i hi => absurd hi (Nat.not_lt_zero _)⟩⟩
  · simp [Value.cells] at hcs
    obtain ⟨rfl, rfl, rfl⟩ := hcs
    simp at hmm
    subst hmm
    rw [hc3] at hi
    have key : ∀ i, i < len → ∃ q : Int × Int × Int, (w.cell? (x.add (i * 3)) = some (.int .i64 q.1) ∧ w.cell? ((x.add (i * 3)).add 1) = some (.int .i64 q.2.1) ∧ w.cell? ((x.add (i * 3)).add 2) = some (.int .u32 q.2.2)) ∧
        (-9223372036854775808 ≤ q.1 ∧ q.1 ≤ 9223372036854775807) ∧ (-9223372036854775808 ≤ q.2.1 ∧ q.2.1 ≤ 9223372036854775807) ∧ (0 ≤ q.2.2 ∧ q.2.2 < 4294967296) := by
      intro i hil
      obtain ⟨cs, hc, ht⟩ := hi i (by omega)
      obtain ⟨_, hcl, hat⟩ := World.cells?_some hc
      match cs, hcl with
      | [v0, v1, v2], _ =>
        obtain ⟨zs, k, _, _, _, hzl, hz⟩ := DataW.trod_struct Try.underlying32 ht
        match zs, hzl with
        | [z0, z1, z2], _ =>
          have k0 : DataW.trod enc Try.prog w base (fun _ => true) held k 3 [v0] = some z0 := by
            have : DataW.trod enc Try.prog w base (fun _ => true) held k 3 (List.take (Try.prog.cellsOf 3) (List.drop 0 [v0, v1, v2])) = [z0, z1, z2][0]? := hz 0 _ rfl
            rw [hi1] at this; exact this
          have k1 : DataW.trod enc Try.prog w base (fun _ => true) held k 3 [v1] = some z1 := by
            have : DataW.trod enc Try.prog w base (fun _ => true) held k 3 (List.take (Try.prog.cellsOf 3) (List.drop 1 [v0, v1, v2])) = [z0, z1, z2][1]? := hz 1 _ rfl
            rw [hi1] at this; exact this
          have k2 : DataW.trod enc Try.prog w base (fun _ => true) held k 30 [v2] = some z2 := by
            have : DataW.trod enc Try.prog w base (fun _ => true) held k 30 (List.take (Try.prog.cellsOf 30) (List.drop 2 [v0, v1, v2])) = [z0, z1, z2][2]? := hz 2 _ rfl
            rw [hu1] at this; exact this
          obtain ⟨a0, e0, _, w0⟩ := DataW.trod_int Try.underlying3 k0
          obtain ⟨a1, e1, _, w1⟩ := DataW.trod_int Try.underlying3 k1
          obtain ⟨a2, e2, _, w2⟩ := DataW.trod_int Try.underlying30 k2
          simp at e0 e1 e2
          subst e0 e1 e2
          exact ⟨(a0, a1, a2), ⟨by have := hat 0 (by simp); rw [add_add] at this; simpa using this, hat 1 (by simp), hat 2 (by simp)⟩, wf_i64 w0, wf_i64 w1, wf_u32 w2⟩
    obtain ⟨q, hq⟩ := choose_lt key
    refine ⟨_, _, _, fun i => (q i).1, fun i => (q i).2.1, fun i => (q i).2.2, rfl, ⟨hl, hm, fun hn => ?_, fun i hi => (hq i hi).2⟩⟩
    obtain ⟨b, off, spot⟩ := x
    have h0 := (hq 0 hn).1.1
    have hspot : spot = none := by simpa [Addr.add] using World.cell?_spot h0
    subst hspot
    refine ⟨b, off, rfl, World.block_lt_of_cell? _ _ h0, fun i hi => ?_⟩
    have := (hq i hi).1
    simpa only [Addr.add_lit] using this
end Go.Proofs.Yteancefgkllgoaa
