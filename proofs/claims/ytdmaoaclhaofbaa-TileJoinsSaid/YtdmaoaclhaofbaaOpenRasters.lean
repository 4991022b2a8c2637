/-
  A list of pictures that is an argument.
-/
import Derived.Test.YtdmaoaclhaofbaaTileJoinPure
import Derived.Test.YtdmaoaclhaofbaaOpenShape
import Derived.Deep.Slices
import Derived.OpenShut
namespace Go.Proofs.Ytdmaoaclhaofbaa
open Go.ChangeShapes Go.WideShapes Go.ChangeAt Go.RowKit Go.Joins Go.Deep

theorem ras_of_trod {H' : Type} {enc : TypeId × Value → H'} {w : World} {base : Nat} {held : Bool} {fuel : Nat} {v0 v1 v2 v3 v4 : Value} {y : DataW H' × List MemPlace}
    (hf : DataW.trod enc Try.prog w base (fun _ => true) held fuel 26 [v0, v1, v2, v3, v4] = some y) :
    ∃ (t : Til) (q : Option Addr) (cap : Nat), v0 = .int .i64 t.1.1 ∧ v1 = .int .i64 t.1.2.1 ∧ v2 = .int .i64 t.1.2.2.1 ∧ v3 = .int .i64 t.1.2.2.2 ∧ v4 = .slice q t.2.length cap ∧ Reads .u8 w q t.2.length cap t.2 ∧ isB t.2 ∧ -9223372036854775808 ≤ t.1.2.1 ∧ t.1.2.1 ≤ 9223372036854775807 := by
  have hc4 : Try.prog.cellsOf 23 = 4 := by kernel_rfl
  have hc1 : Try.prog.cellsOf 24 = 1 := by kernel_rfl
  have hi1 : Try.prog.cellsOf 3 = 1 := by kernel_rfl
  obtain ⟨ys, m, _, _, _, hlen, hg⟩ := DataW.trod_struct Try.underlying26 hf
  match ys, hlen with
  | [y0, y1], _ =>
    have g0 : DataW.trod enc Try.prog w base (fun _ => true) held m 23 [v0, v1, v2, v3] = some y0 := by
      have : DataW.trod enc Try.prog w base (fun _ => true) held m 23 (List.take (Try.prog.cellsOf 23) (List.drop 0 [v0, v1, v2, v3, v4])) = [y0, y1][0]? := hg 0 _ rfl
      rw [hc4] at this
      exact this
    have g1 : DataW.trod enc Try.prog w base (fun _ => true) held m 24 [v4] = some y1 := by
      have : DataW.trod enc Try.prog w base (fun _ => true) held m 24 (List.take (Try.prog.cellsOf 24) (List.drop 4 [v0, v1, v2, v3, v4])) = [y0, y1][1]? := hg 1 _ rfl
      rw [hc1] at this
      exact this
    obtain ⟨zs, k, _, _, _, hzl, hz⟩ := DataW.trod_struct Try.underlying23 g0
    match zs, hzl with
    | [z0, z1, z2, z3], _ =>
      have k0 : DataW.trod enc Try.prog w base (fun _ => true) held k 3 [v0] = some z0 := by
        have : DataW.trod enc Try.prog w base (fun _ => true) held k 3 (List.take (Try.prog.cellsOf 3) (List.drop 0 [v0, v1, v2, v3])) = [z0, z1, z2, z3][0]? := hz 0 _ rfl
        rw [hi1] at this; exact this
      have k1 : DataW.trod enc Try.prog w base (fun _ => true) held k 3 [v1] = some z1 := by
        have : DataW.trod enc Try.prog w base (fun _ => true) held k 3 (List.take (Try.prog.cellsOf 3) (List.drop 1 [v0, v1, v2, v3])) = [z0, z1, z2, z3][1]? := hz 1 _ rfl
        rw [hi1] at this; exact this
      have k2 : DataW.trod enc Try.prog w base (fun _ => true) held k 3 [v2] = some z2 := by
        have : DataW.trod enc Try.prog w base (fun _ => true) held k 3 (List.take (Try.prog.cellsOf 3) (List.drop 2 [v0, v1, v2, v3])) = [z0, z1, z2, z3][2]? := hz 2 _ rfl
        rw [hi1] at this; exact this
      have k3 : DataW.trod enc Try.prog w base (fun _ => true) held k 3 [v3] = some z3 := by
        have : DataW.trod enc Try.prog w base (fun _ => true) held k 3 (List.take (Try.prog.cellsOf 3) (List.drop 3 [v0, v1, v2, v3])) = [z0, z1, z2, z3][3]? := hz 3 _ rfl
        rw [hi1] at this; exact this
      obtain ⟨a, e0, _, w0⟩ := DataW.trod_int Try.underlying3 k0
      obtain ⟨b, e1, _, w1⟩ := DataW.trod_int Try.underlying3 k1
      obtain ⟨c, e2, _, w2⟩ := DataW.trod_int Try.underlying3 k2
      obtain ⟨e, e3, _, w3⟩ := DataW.trod_int Try.underlying3 k3
      simp at e0 e1 e2 e3
      subst e0 e1 e2 e3
      obtain ⟨q, n, cap, xs, hq, hr, hx⟩ : ∃ (q : Option Addr) (n cap : Nat) (xs : List Int), v4 = .slice q n cap ∧ Reads .u8 w q n cap xs ∧ isB xs := by
        rcases open_ints Try.underlying24 Try.underlying5 (by kernel_rfl) g1 with ⟨hcs, _⟩ | ⟨x, l, c, zs, hcs, _, hl, hm, hz, _, hcell, hwz⟩
        · simp at hcs
          exact ⟨_, _, _, [], hcs, Reads.none _ _, isB.nil⟩
        · simp at hcs
          exact ⟨_, _, _, _, hcs, reads_of_open hl hm hz hcell, isB_of_wf fun n hn => hwz n (List.mem_of_mem_take hn)⟩
      obtain rfl := hr.len
      exact ⟨((a, b, c, e), xs), q, cap, rfl, rfl, rfl, rfl, hq, hr, hx, (wf_i64 w1).1, (wf_i64 w1).2⟩

theorem open_rasters {H' : Type} {enc : TypeId × Value → H'} {w : World} {base : Nat} {held : Bool} {r : Reach} {b0 : Nat} {v : Value} {d : DataW H'} {p : List MemPlace}
    (hv : Value.okWide Try.prog w r b0 32 v) (h : DataW.Trod enc Try.prog w base (fun _ => true) held 32 v d p) :
    ∃ (a : Option Addr) (b off n cap : Nat) (ts : List Til), v = .slice a n cap ∧ (0 < n → a = some ⟨b, off, Option.none⟩) ∧ cap ≤ maxLen ∧ RL w b off n cap ts := by
  obtain ⟨a, len, cap, rfl⟩ := okWide_slice Try.underlying32 hv
  obtain ⟨fuel, hf⟩ := h
  have hc5 : Try.prog.cellsOf 26 = 5 := by kernel_rfl
  rcases open_slice Try.underlying32 hf with ⟨hcs, _⟩ | ⟨x, l, c, m, n, D, Pl, hcs, _, hl, hm, hmm, _, hi⟩
  · simp [Value.cells] at hcs
    obtain ⟨rfl, rfl, rfl⟩ := hcs
    exact ⟨_, 0, 0, _, _, [], rfl, fun h => absurd h (by decide), by decide, rfl, Nat.le_refl _, fun h => absurd h (by decide), fun j hj => absurd hj (by omega)⟩
  · simp [Value.cells] at hcs
    obtain ⟨rfl, rfl, rfl⟩ := hcs
    simp at hmm
    subst hmm
    rw [hc5] at hi
    have key : ∀ i, i < len → ∃ q : Til, ∃ p c, w.cell? (x.add (i * 5)) = some (.int .i64 q.1.1) ∧ w.cell? ((x.add (i * 5)).add 1) = some (.int .i64 q.1.2.1) ∧ w.cell? ((x.add (i * 5)).add 2) = some (.int .i64 q.1.2.2.1) ∧ w.cell? ((x.add (i * 5)).add 3) = some (.int .i64 q.1.2.2.2) ∧ w.cell? ((x.add (i * 5)).add 4) = some (.slice p q.2.length c) ∧
        Reads .u8 w p q.2.length c q.2 ∧ isB q.2 ∧ -9223372036854775808 ≤ q.1.2.1 ∧ q.1.2.1 ≤ 9223372036854775807 := by
      intro i hil
      obtain ⟨cs, hc, ht⟩ := hi i (by omega)
      obtain ⟨_, hcl, hat⟩ := World.cells?_some hc
      match cs, hcl with
      | [v0, v1, v2, v3, v4], _ =>
        obtain ⟨t, q, k, rfl, rfl, rfl, rfl, rfl, hr, hx⟩ := ras_of_trod ht
        exact ⟨t, q, k, by have := hat 0 (by simp); rw [add_add] at this; simpa using this, hat 1 (by simp), hat 2 (by simp), hat 3 (by simp), hat 4 (by simp), hr, hx⟩
    obtain ⟨q, hq⟩ := choose_lt key
    obtain ⟨b, off, spot⟩ := x
    by_cases hn : 0 < len
    · have hspot : spot = none := by
        obtain ⟨_, _, h0, _⟩ := hq 0 hn
        simpa [Addr.add] using World.cell?_spot h0
      subst hspot
      refine ⟨_, b, off, _, _, (List.range len).map q, rfl, fun _ => rfl, hm, by simp, hl, fun _ => ?_, fun j hj => ?_⟩
      · obtain ⟨_, _, h0, _⟩ := hq 0 hn
        have := World.block_lt_of_cell? _ _ h0
        simpa [Addr.add] using this
      · have e : ((List.range len).map q).getD j ((0, 0, 0, 0), []) = q j := by simp [List.getD, hj]
        rw [e]
        obtain ⟨p, c, h⟩ := hq j hj
        exact ⟨p, c, by simpa only [Addr.add_lit] using h⟩
    · obtain rfl : len = 0 := by omega
      exact ⟨_, b, off, _, _, [], rfl, fun h => absurd h (by decide), hm, rfl, hl, fun h => absurd h (by decide), fun j hj => absurd hj (by omega)⟩
end Go.Proofs.Ytdmaoaclhaofbaa
