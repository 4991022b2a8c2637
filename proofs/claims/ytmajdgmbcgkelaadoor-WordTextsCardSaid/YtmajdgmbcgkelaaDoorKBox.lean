/-
  Arrays of numbers of one kind in variables: a whole block is known.
-/
import Derived.Test.YtmajdgmbcgkelaaDoorLib
import Derived.Test.YtmajdgmbcgkelaaDoorGrow
import Derived.Deep.MidRow
import Derived.Laws.CopyOwn
namespace Go.Proofs.YtmajdgmbcgkelaaDoor
open Go.RowKit

/-- Block g holds an array of numbers of kind k. -/
def KBox (k : IntKind) (w : World) (g : Nat) (T : TypeId) (xs : List Int) : Prop := w.heap[g]? = some (.cells (xs.map (Value.int k)).toArray T)
section
variable {k : IntKind} {w w' : World} {g : Nat} {T : TypeId} {xs ys : List Int}
theorem KBox.lt (h : KBox k w g T xs) : g < w.heap.size := (Array.getElem?_eq_some_iff.1 h).1
theorem KBox.below (h : KBox k w g T xs) (hb : Below w.heap.size w w') : KBox k w' g T xs := (hb.block g h.lt).trans h
theorem KBox.low {B : Nat} (h : KBox k w g T xs) (hb : Below B w w') (hg : g < B) : KBox k w' g T xs := (hb.block g hg).trans h
theorem KBox.keep (h : KBox k w g T xs) (e : w'.heap[g]? = w.heap[g]?) : KBox k w' g T xs := e.trans h
theorem KBox.cell (h : KBox k w g T xs) (i : Nat) (hi : i < xs.length) : w.cell? ⟨g, i, Option.none⟩ = some (.int k (xs.getD i 0)) := by
  unfold World.cell?
  rw [show w.heap[(⟨g, i, Option.none⟩ : Addr).block]? = _ from h]
  simp [List.getD, hi]
theorem KBox.frozen (h : KBox k w g T xs) (i : Nat) : w.frozen? ⟨g, i, Option.none⟩ = false := by
  unfold World.frozen?
  rw [show w.heap[(⟨g, i, Option.none⟩ : Addr).block]? = _ from h]
  simp
theorem KBox.set (h : KBox k w g T xs) (i : Nat) (x : Int) : KBox k (w.setCell ⟨g, i, Option.none⟩ (.int k x)) g T (xs.set i x) := by
  have hl := h.lt
  unfold KBox at *
  unfold World.setCell
  simp only
  rw [Array.getElem?_modify, if_pos rfl, h]
  simp [List.map_set]
theorem KBox.far (h : KBox k w g T xs) (b i : Nat) (v : Value) (hb : b ≠ g) : KBox k (w.setCell ⟨b, i, Option.none⟩ v) g T xs :=
  (Below.heap_setCell w ⟨b, i, Option.none⟩ v g (fun e => hb e.symm)).trans h
theorem KBox.new (k : IntKind) (w : World) (T : TypeId) (xs : List Int) (C : Array Value) (h : C = (xs.map (Value.int k)).toArray) : KBox k (w.alloc (.cells C T)) w.heap.size T xs := by
  subst h
  unfold KBox
  show (w.heap.push _)[w.heap.size]? = _
  simp
theorem KBox.row (h : KBox k w g T ys) (xs : List Int) : KBox k (w.setRow g (xs.map (Value.int k)).toArray) g T xs := setRow_heap w g _ _ T (0, 0) h
theorem KBox.rowFar (h : KBox k w g T ys) (b : Nat) (C : Array Value) (hk : b ≠ g) : KBox k (w.setRow b C) g T ys := (setRow_other w b g C (fun e => hk e.symm)).trans h
end
theorem wpList_store_arrK {P : Program} {ops : Array Oper} {rest : List Oper} {op : Oper} {a : Act} {w : World} {Q : Exit → Act → World → Prop} (k : IntKind) (hgd : op.guard = none) (ty : TypeId) (x y : Operand) (ho : op.op = .store ty x y)
    (g : Nat) (hx : a.eval x = .pointer (some ⟨g, 0, none⟩)) (xs : List Int) (hy : a.eval y = .agg (xs.map (Value.int k)).toArray) (ys : List Int) (T : TypeId) (hg : KBox k w g T ys)
    (hi : (P.info? ty).map (·.size) = some xs.length) (hl : ys.length = xs.length)
    (h : wpList P ops Q rest (a.put op.dst undef) (w.setRow g (xs.map (Value.int k)).toArray)) : wpList P ops Q (op :: rest) a w :=
  wpList_plain hgd fun _ hK => wp_store_row ty x y ho g _ hx hy T _ hg (by simpa using hi) (by simp [hl]) (by simp [Value.oneCell']) (hK _ _ h)
theorem kbox_range {k : IntKind} {w : World} {g : Nat} {T : TypeId} {xs : List Int} (h : KBox k w g T xs) : w.rangeAt g 0 (xs.map (Value.int k)) := by
  intro j v hv
  have hj : j < xs.length := by have := (List.getElem?_eq_some_iff.1 hv).1; simpa using this
  rw [Nat.zero_add, h.cell j hj]
  simp [hj] at hv
  simp [List.getD, hj, hv]
theorem wpList_load_arrK {P : Program} {ops : Array Oper} {rest : List Oper} {op : Oper} {a : Act} {w : World} {Q : Exit → Act → World → Prop} (k : IntKind) (hgd : op.guard = none) (ty : TypeId) (x : Operand) (ho : op.op = .load ty x)
    (g : Nat) (hx : a.eval x = .pointer (some ⟨g, 0, none⟩)) (xs : List Int) (T : TypeId) (hg : KBox k w g T xs) (m : Nat) (E : TypeId) (hu : P.underlying ty = some (.array m E)) (hi : (P.info? ty).map (·.size) = some xs.length)
    (h : wpList P ops Q rest (a.put op.dst (.agg (xs.map (Value.int k)).toArray)) w) : wpList P ops Q (op :: rest) a w :=
  wpList_load_mid hgd ty x ho g 0 hx _ _ (kbox_range hg) hu rfl (by rw [hi, List.length_map]) h
theorem results_arrK {P : Program} {fn : Func} {p : Tmp} {T E : TypeId} {m : Nat} {k : IntKind} (h : fn.results = #[.cell p T]) (hu : P.underlying T = some (.array m E)) (tmps : Array Value) (w : World) (g : Nat) {xs : List Int} (hp : tmps.getD p undef = .pointer (some ⟨g, 0, Option.none⟩)) (hb : KBox k w g T xs) (hi : (P.info? T).map (·.size) = some xs.length) :
    (results fn tmps).run P w = .ok (.agg (xs.map (Value.int k)).toArray) w := by
  have hl := run_loadVar_mid (P := P) w g 0 T (xs.map (Value.int k)) _ (kbox_range hb) hu rfl (by rw [hi, List.length_map])
  have hr : (results fn tmps).run P w = ((asAddr (tmps.getD p undef)).run P w).andThen fun a w1 => (loadVar T a).run P w1 := by
    simp only [results, h]
    simp [Sem.run_bind, Result.andThen]
  rw [hr, hp]
  simp [asAddr, hl]
end Go.Proofs.YtmajdgmbcgkelaaDoor
