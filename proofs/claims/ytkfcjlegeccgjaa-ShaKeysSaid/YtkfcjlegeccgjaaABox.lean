/-
  Arrays of words in variables.
-/
import Derived.Test.YtkfcjlegeccgjaaShaPure
import Derived.Deep.MidRow
namespace Go.Proofs.Ytkfcjlegeccgjaa
open Go.RowKit

/-- Block g holds an array of words. -/
def ABox (w : World) (g : Nat) (T : TypeId) (xs : List Int) : Prop := w.heap[g]? = some (.cells (xs.map (Value.int .u32)).toArray T)
section
variable {w w' : World} {g : Nat} {T : TypeId} {xs : List Int}
theorem ABox.lt (h : ABox w g T xs) : g < w.heap.size := (Array.getElem?_eq_some_iff.1 h).1
theorem ABox.below (h : ABox w g T xs) (hb : Below w.heap.size w w') : ABox w' g T xs := (hb.block g h.lt).trans h
theorem ABox.low {B : Nat} (h : ABox w g T xs) (hb : Below B w w') (hg : g < B) : ABox w' g T xs := (hb.block g hg).trans h
theorem ABox.keep (h : ABox w g T xs) (e : w'.heap[g]? = w.heap[g]?) : ABox w' g T xs := e.trans h
theorem ABox.cell (h : ABox w g T xs) (i : Nat) (hi : i < xs.length) : w.cell? ⟨g, i, Option.none⟩ = some (.int .u32 (xs.getD i 0)) := by
  unfold World.cell?
  rw [show w.heap[(⟨g, i, Option.none⟩ : Addr).block]? = _ from h]
  simp [List.getD, hi]
theorem ABox.frozen (h : ABox w g T xs) (i : Nat) : w.frozen? ⟨g, i, Option.none⟩ = false := by
  unfold World.frozen?
  rw [show w.heap[(⟨g, i, Option.none⟩ : Addr).block]? = _ from h]
  simp
theorem ABox.set (h : ABox w g T xs) (i : Nat) (x : Int) : ABox (w.setCell ⟨g, i, Option.none⟩ (.int .u32 x)) g T (xs.set i x) := by
  have hl := h.lt
  unfold ABox at *
  unfold World.setCell
  simp only
  rw [Array.getElem?_modify, if_pos rfl, h]
  simp [List.map_set]
theorem ABox.far (h : ABox w g T xs) (b i : Nat) (v : Value) (hb : b ≠ g) : ABox (w.setCell ⟨b, i, Option.none⟩ v) g T xs :=
  (Below.heap_setCell w ⟨b, i, Option.none⟩ v g (fun e => hb e.symm)).trans h
theorem ABox.new (w : World) (T : TypeId) (xs : List Int) (C : Array Value) (h : C = (xs.map (Value.int .u32)).toArray) : ABox (w.alloc (.cells C T)) w.heap.size T xs := by
  subst h
  unfold ABox
  show (w.heap.push _)[w.heap.size]? = _
  simp
end
theorem grow_call_eq {P : Program} {f : FuncId} {args : Array Value} {w : World} {x : GrownW w} {v : Value}
    (h : Calls P f args x.val fun e w' => e = .returned v ∧ x.val = w') : Calls P f args x.val fun e w'' => e = .returned v ∧ ∃ y : GrownW w, w'' = y.val :=
  h.mono fun _ _ ⟨he, hw⟩ => ⟨he, x, hw.symm⟩
theorem add32_3 (a b c d : Int) : add32 (add32 (add32 a b) c) d = (a + b + c + d) % 4294967296 := by unfold add32; omega
theorem add32_4 (a b c d e : Int) : add32 (add32 (add32 (add32 a b) c) d) e = (a + b + c + d + e) % 4294967296 := by unfold add32; omega
theorem add32_2 (a b c : Int) : add32 (add32 a b) c = (a + b + c) % 4294967296 := by unfold add32; omega
theorem results_arr {P : Program} {fn : Func} {p : Tmp} {T E : TypeId} {m : Nat} (h : fn.results = #[.cell p T]) (hu : P.underlying T = some (.array m E)) (tmps : Array Value) (w : World) (g : Nat) {xs : List Int} (hp : tmps.getD p undef = .pointer (some ⟨g, 0, Option.none⟩)) (hb : ABox w g T xs) (hi : (P.info? T).map (·.size) = some xs.length) :
    (results fn tmps).run P w = .ok (.agg (xs.map (Value.int .u32)).toArray) w := by
  have hl := run_loadVar_mid (P := P) w g 0 T (xs.map (Value.int .u32)) _ (by
    intro j v hv
    have hj : j < xs.length := by have := (List.getElem?_eq_some_iff.1 hv).1; simpa using this
    rw [Nat.zero_add, hb.cell j hj]
    simp [hj] at hv
    simp [List.getD, hj, hv]) hu rfl (by rw [hi, List.length_map])
  have hr : (results fn tmps).run P w = ((asAddr (tmps.getD p undef)).run P w).andThen fun a w1 => (loadVar T a).run P w1 := by
    simp only [results, h]
    simp [Sem.run_bind, Result.andThen]
  rw [hr, hp]
  simp [asAddr, hl]
end Go.Proofs.Ytkfcjlegeccgjaa
