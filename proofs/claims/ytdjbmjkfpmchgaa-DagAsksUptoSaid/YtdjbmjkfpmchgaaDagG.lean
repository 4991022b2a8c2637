/-
  dag's graph as it lies; Has, Len.
-/
import Derived.Test.YtdjbmjkfpmchgaaProg
import Derived.Test.YtdjbmjkfpmchgaaMapIs
import Derived.Test.YtdjbmjkfpmchgaaDagP
import Derived.BigQuiet
namespace Go.Proofs.Ytdjbmjkfpmchgaa
open Go.RowKit Go.Maps

abbrev ndV (k : ByteArray) (a : Option Addr) (n cap : Nat) (st : Int) : Value := .agg #[.string k, .slice a n cap, .int .i64 st]
abbrev gp (g : Nat) : Value := .pointer (some ⟨g, 0, Option.none⟩)
theorem keyedS : Keyed Try.prog 9 := string_keyed Try.underlying9
theorem keyOfS (s : ByteArray) (h : s.size ≤ maxLen) : keyOf Try.prog 9 (.string s) = some (strLit s) := WideMaps.keyOf_string_mk Try.underlying9 h
theorem zeroNd (w : World) : (zeroValue 44).run Try.prog w = .ok (ndV ByteArray.empty Option.none 0 0 0) w := by kernel_rfl
abbrev MapS (w : World) (b m : Nat) (M : ByteArray → Option Value) : Prop := MapIs Try.prog 9 strLit w b m M

/-- The value at a key of the graph's map. -/
def NdAt (w : World) (ns : List Nd) (M : ByteArray → Option Value) : Prop := ∀ k, (k ∉ keysOf ns → M k = Option.none) ∧ (k ∈ keysOf ns → ∃ a cap, M k = some (ndV k a (psOf ns k).length cap (stOf ns k)) ∧ Strs w a (psOf ns k).length cap (psOf ns k))
theorem NdAt.below {w w' : World} {ns : List Nd} {M : ByteArray → Option Value} (h : NdAt w ns M) (hb : Below w.heap.size w w') : NdAt w' ns M := fun k => ⟨(h k).1, fun hk => by
  obtain ⟨a, cap, e, s⟩ := (h k).2 hk
  exact ⟨a, cap, e, s.below hb⟩⟩
/-- What a look-up gives: as far as anyone asks. -/
theorem NdAt.get {w : World} {ns : List Nd} {M : ByteArray → Option Value} (h : NdAt w ns M) (k : ByteArray) : ∃ k' a cap, (M k).getD (ndV ByteArray.empty Option.none 0 0 0) = ndV k' a (psOf ns k).length cap (stOf ns k) ∧ Strs w a (psOf ns k).length cap (psOf ns k) ∧ (M k).isSome = decide (k ∈ keysOf ns) := by
  by_cases hk : k ∈ keysOf ns
  · obtain ⟨a, cap, e, s⟩ := (h k).2 hk
    exact ⟨k, a, cap, by rw [e]; rfl, s, by rw [e]; exact (decide_eq_true hk).symm⟩
  · have e := (h k).1 hk
    unfold psOf stOf
    rw [ndOf_out hk]
    exact ⟨ByteArray.empty, Option.none, 0, by rw [e]; rfl, ReadsA.none _ _ _, by rw [e]; exact (decide_eq_false hk).symm⟩

/-- Block g is a graph of these nodes, block gm its map. -/
structure Gr (w : World) (g gm : Nat) (M : ByteArray → Option Value) (ns : List Nd) : Prop where
  cell : w.cell? ⟨g, 0, Option.none⟩ = some (.map (some gm))
  lt : g < w.heap.size
  map : MapS w gm ns.length M
  nd : NdAt w ns M
theorem Gr.below {w w' : World} {g gm : Nat} {M : ByteArray → Option Value} {ns : List Nd} (h : Gr w g gm M ns) (hb : Below w.heap.size w w') : Gr w' g gm M ns :=
  ⟨(hb.cell (p := ⟨g, 0, Option.none⟩) h.lt).trans h.cell, Nat.lt_of_lt_of_le h.lt hb.size, h.map.below hb, h.nd.below hb⟩

set_option maxHeartbeats 1000000 in
theorem has_any (g gm : Nat) (M : ByteArray → Option Value) (ns : List Nd) (k : ByteArray) (w : World) (hg : Gr w g gm M ns) (hk : k.size ≤ maxLen) :
    Calls Try.prog 14 #[gp g, .string k] w fun e w' => e = .returned (.bool (decide (k ∈ keysOf ns))) ∧ Below w.heap.size w w' := by
  have hc := hg.cell
  have HM := Lib.hid hg.map
  obtain ⟨k', a, cap, e1, _, e2⟩ := hg.nd.get k
  have E1 := Lib.hid e1; have E2 := Lib.hid e2
  clear e1 e2 hg
  go_enter Try.func14, Try.ntmps14
  go_wp2_with (at_lookup; refine wpList_look_ok _ rfl _ _ 53 rfl 44 keyedS Try.underlying53 (zeroNd _) HM.out rfl _ k rfl (keyOfS k hk) ?_; rw [E1.out, E2.out])
  go_ret
  exact ⟨rfl, (Below.refl _ _).alloc (Nat.le_refl _) _⟩

set_option maxHeartbeats 1000000 in
theorem len_any (g gm : Nat) (M : ByteArray → Option Value) (ns : List Nd) (w : World) (hg : Gr w g gm M ns) :
    Calls Try.prog 12 #[gp g] w fun e w' => e = .returned (.int .i64 ns.length) ∧ w' = w := by
  have hc := hg.cell
  have hrun := hg.map.run_len Try.underlying53
  clear hg
  go_enter Try.func12, Try.ntmps12
  go_wp2
  go_ret
  exact ⟨rfl, rfl⟩
end Go.Proofs.Ytdjbmjkfpmchgaa
