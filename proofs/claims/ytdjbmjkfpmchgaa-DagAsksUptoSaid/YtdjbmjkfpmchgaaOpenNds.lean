/-
  A list of nodes that is an argument: keys, parents, stamps.
-/
import Derived.Test.YtdjbmjkfpmchgaaDagNew0
import Derived.Test.YtdjbmjkfpmchgaaChecked
import Derived.Test.YtdjbmjkfpmchgaaRows
import Derived.OpenShut
import Derived.ShutString
import Derived.ChangeOld
import Derived.Below
import Derived.Deep.Strs
import Derived.Deep.Slices
import Derived.SizedLaws
namespace Go.Proofs.Ytdjbmjkfpmchgaa
open Go.ChangeShapes Go.WideShapes Go.ChangeAt Go.RowKit Go.Deep

/-- Texts in a struct's cell. -/
theorem strs_of_trod {H' : Type} {enc : TypeId × Value → H'} {w : World} {base : Nat} {held : Bool} {fuel : Nat} {v : Value} {y : DataW H' × List MemPlace}
    (hf : DataW.trod enc Try.prog w base (fun _ => true) held fuel 35 [v] = some y) (hw : ∀ n ∈ y.1.weights Try.prog 35, n ≤ reachBytes) :
    ∃ (a : Option Addr) (cap : Nat) (ms : List ByteArray), v = .slice a ms.length cap ∧ Strs w a ms.length cap ms ∧ (∀ s ∈ ms, s.size ≤ maxLen) ∧ ms.length * 16 ≤ 140737488355328 := by
  rcases Go.Deep.open_strs Try.underlying35 Try.underlying9 (by kernel_rfl) hf with ⟨hcs, _⟩ | ⟨x, l, c, m, Sx, hcs, _, hl, hm, hmm, hy, hcell⟩
  · simp at hcs
    subst hcs
    exact ⟨Option.none, 0, [], rfl, ReadsA.none _ _ _, (fun s hs => nomatch hs), by decide⟩
  · simp at hcs
    subst hcs
    have hmc : m = c := by simpa using hmm
    subst hmc
    have hlen : ((List.range l).map Sx).length = l := by simp
    refine ⟨some x, m, (List.range l).map Sx, by rw [hlen], ?_, fun s hs => ?_, ?_⟩
    · rw [hlen]
      refine ⟨hlen, hl, hm, (fun h => nomatch h), fun hn => ?_⟩
      obtain ⟨b, off, spot⟩ := x
      have h0 := (hcell 0 (by omega)).1
      have hspot : spot = none := by simpa [Addr.add] using World.cell?_spot h0
      subst hspot
      refine ⟨b, off, rfl, World.block_lt_of_cell? _ _ h0, fun i hi => ?_⟩
      rw [← Addr.add_lit, (hcell i (by omega)).1]
      simp [List.getD, hi]
    · obtain ⟨i, hi, rfl⟩ := List.mem_map.1 hs
      exact (hcell i (by have := List.mem_range.1 hi; omega)).2
    · rw [hlen]
      have hb : Try.prog.bytesOf 9 = 16 := by kernel_rfl
      rw [hy] at hw
      have h1 := hw _ (by rw [DataW.weights, Try.underlying35]; exact List.mem_cons_self)
      rw [hb] at h1
      simp only [List.length_map, List.length_range] at h1
      have : reachBytes = 140737488351232 := by decide
      omega

set_option maxRecDepth 100000 in
theorem nd_of_trod {H' : Type} {enc : TypeId × Value → H'} {w : World} {base : Nat} {held : Bool} {fuel : Nat} {v0 v1 v2 : Value} {y : DataW H' × List MemPlace}
    (hf : DataW.trod enc Try.prog w base (fun _ => true) held fuel 44 [v0, v1, v2] = some y) (hw : ∀ n ∈ y.1.weights Try.prog 44, n ≤ reachBytes) :
    ∃ (nd : Nd) (a : Option Addr) (cap : Nat), v0 = .string nd.key ∧ v1 = .slice a nd.ps.length cap ∧ v2 = .int .i64 nd.st ∧ Strs w a nd.ps.length cap nd.ps ∧ nd.key.size ≤ maxLen ∧ nd.ps.length * 16 ≤ 140737488355328 ∧ (∀ p ∈ nd.ps, p.size ≤ maxLen) ∧ -9223372036854775808 ≤ nd.st ∧ nd.st ≤ 9223372036854775807 := by
  have hb1 : Try.prog.cellsOf 35 = 1 := by kernel_rfl
  have hs1 : Try.prog.cellsOf 9 = 1 := by kernel_rfl
  have hi1 : Try.prog.cellsOf 3 = 1 := by kernel_rfl
  obtain ⟨y0, y1, y2, n, hy, _, h0, h1, h2⟩ := trod_struct3 Try.underlying44 hf
  have k0 : DataW.trod enc Try.prog w base (fun _ => true) held n 9 (List.take (Try.prog.cellsOf 9) (List.drop 0 [v0, v1, v2])) = some y0 := h0
  have k1 : DataW.trod enc Try.prog w base (fun _ => true) held n 35 (List.take (Try.prog.cellsOf 35) (List.drop 1 [v0, v1, v2])) = some y1 := h1
  have k2 : DataW.trod enc Try.prog w base (fun _ => true) held n 3 (List.take (Try.prog.cellsOf 3) (List.drop 2 [v0, v1, v2])) = some y2 := h2
  rw [hs1] at k0
  rw [hb1] at k1
  rw [hi1] at k2
  obtain ⟨s, e0, _, z0⟩ := DataW.trod_string Try.underlying9 k0
  obtain ⟨i, e2, _, z2⟩ := DataW.trod_int Try.underlying3 k2
  simp at e0 e2
  subst e0; subst e2
  obtain ⟨a, cap, ms, e1, hs, hms, hm16⟩ := strs_of_trod (v := v1) k1 (fun q hq => hw q (by
    rw [hy]
    rw [DataW.weights, Try.underlying44]
    simp only [List.map_cons, List.map_nil, DataW.weightsEach, List.mem_append]
    exact .inr (.inl hq)))
  subst e1
  exact ⟨⟨s, ms, i⟩, a, cap, rfl, rfl, rfl, hs, z0, hm16, hms, (wf_i64 z2).1, (wf_i64 z2).2⟩

theorem weightsAll_mem {H' : Type} {P : Program} {e : TypeId} : ∀ {ds : List (DataW H')} {d : DataW H'}, d ∈ ds → ∀ n ∈ d.weights P e, n ∈ DataW.weightsAll P e ds
  | d0 :: ds, d, h, n, hn => by
    rw [DataW.weightsAll, List.mem_append]
    rcases List.mem_cons.1 h with rfl | h
    · exact .inl hn
    · exact .inr (weightsAll_mem h n hn)

set_option maxRecDepth 100000 in
theorem open_nds {H' : Type} {enc : TypeId × Value → H'} {w : World} {base : Nat} {held : Bool} {r : Go.Reach} {b0 : Nat} {v : Value} {d : DataW H'} {p : List MemPlace}
    (hv : Value.okWide Try.prog w r b0 22 v) (h : DataW.Trod enc Try.prog w base (fun _ => true) held 22 v d p) (hw : ∀ n ∈ d.weights Try.prog 22, n ≤ reachBytes) :
    ∃ (a : Option Addr) (n cap : Nat) (ns : List Nd), v = .slice a n cap ∧ NdL w a n cap ns ∧ Keyable ns ∧ ∀ nd ∈ ns, -9223372036854775808 ≤ nd.st ∧ nd.st ≤ 9223372036854775807 := by
  obtain ⟨a, len, cap, rfl⟩ := okWide_slice Try.underlying22 hv
  obtain ⟨fuel, hf⟩ := h
  have hc3 : Try.prog.cellsOf 44 = 3 := by kernel_rfl
  rcases open_slice Try.underlying22 hf with ⟨hcs, _⟩ | ⟨x, l, c, m, n, D, Pl, hcs, _, hl, hm, hmm, hx, hi⟩
  · simp [Value.cells] at hcs
    obtain ⟨rfl, rfl, rfl⟩ := hcs
    exact ⟨_, _, _, [], rfl, ⟨rfl, Nat.le_refl _, by decide, fun _ => ⟨rfl, rfl⟩, fun hn => absurd hn (by omega)⟩, (fun t ht => nomatch ht), fun t ht => nomatch ht⟩
  · simp [Value.cells] at hcs
    obtain ⟨rfl, rfl, rfl⟩ := hcs
    simp at hmm
    subst hmm
    rw [hc3] at hi
    have hwD : ∀ i, i < len → ∀ q ∈ (D i).weights Try.prog 44, q ≤ reachBytes := fun i hil q hq => hw q (by
      have e : d = (.slice ((List.range len).map D) ((List.range (m - len)).map fun j => D (len + j)), MemPlace.row x (m * Try.prog.cellsOf 44) ++ (List.range m).flatMap Pl).1 := by rw [← hx]
      rw [e, DataW.weights, Try.underlying22]
      refine List.mem_cons_of_mem _ (List.mem_append_left _ (weightsAll_mem (List.mem_map_of_mem (List.mem_range.2 hil)) q hq)))
    have key : ∀ i, i < len → ∃ q : Nd × Option Addr × Nat, w.cell? (x.add (i * 3)) = some (.string q.1.key) ∧ w.cell? ((x.add (i * 3)).add 1) = some (.slice q.2.1 q.1.ps.length q.2.2) ∧ w.cell? ((x.add (i * 3)).add 2) = some (.int .i64 q.1.st) ∧ Strs w q.2.1 q.1.ps.length q.2.2 q.1.ps ∧
        (q.1.key.size ≤ maxLen ∧ q.1.ps.length * 16 ≤ 140737488355328 ∧ ∀ p ∈ q.1.ps, p.size ≤ maxLen) ∧ -9223372036854775808 ≤ q.1.st ∧ q.1.st ≤ 9223372036854775807 := by
      intro i hil
      obtain ⟨cs, hc, ht⟩ := hi i (by omega)
      obtain ⟨_, hcl, hat⟩ := World.cells?_some hc
      match cs, hcl with
      | [v0, v1, v2], _ =>
        obtain ⟨nd, pa, pc, rfl, rfl, rfl, hs, z1, z2, z3, z4, z5⟩ := nd_of_trod ht (hwD i hil)
        exact ⟨⟨nd, pa, pc⟩, by have := hat 0 (by simp); rw [add_add] at this; simpa using this, hat 1 (by simp), hat 2 (by simp), hs, ⟨z1, z2, z3⟩, z4, z5⟩
    obtain ⟨q, hq⟩ := choose_lt key
    obtain ⟨b, off, spot⟩ := x
    have hlen : ((List.range len).map fun i => (q i).1).length = len := by simp
    refine ⟨_, _, _, (List.range len).map fun i => (q i).1, rfl, ⟨hlen, hl, hm, (fun h => nomatch h), fun hn => ?_⟩, fun t ht => ?_, fun t ht => ?_⟩
    · have hspot : spot = none := by
        have h0 := (hq 0 hn).1
        simpa [Addr.add] using World.cell?_spot h0
      subst hspot
      refine ⟨b, off, rfl, ?_, fun j hj => ?_⟩
      · have := World.block_lt_of_cell? _ _ (hq 0 hn).1
        simpa [Addr.add] using this
      · have e : ((List.range len).map fun i => (q i).1).getD j default = (q j).1 := by simp [List.getD, hj]
        rw [e]
        obtain ⟨h0, h1, h2, h3, _⟩ := hq j hj
        exact ⟨(q j).2.1, (q j).2.2, by simpa only [Addr.add_lit] using h0, by simpa only [Addr.add_lit] using h1, by simpa only [Addr.add_lit] using h2, h3⟩
    · obtain ⟨i, hi, rfl⟩ := List.mem_map.1 ht
      exact (hq i (List.mem_range.1 hi)).2.2.2.2.1
    · obtain ⟨i, hi, rfl⟩ := List.mem_map.1 ht
      exact (hq i (List.mem_range.1 hi)).2.2.2.2.2
end Go.Proofs.Ytdjbmjkfpmchgaa
