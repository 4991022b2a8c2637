/-
  sha.begin and sha.rounds: the first state, the steps' numbers.
-/
import Derived.Test.YtkfcjlegeccgjaaShaMix
import Derived.Laws.CopyOwn
namespace Go.Proofs.Ytkfcjlegeccgjaa
open Go.RowKit

theorem arr64 : Try.prog.underlying 34 = some (.array 64 31) := Try.underlying34
section
variable {w : World} {g : Nat} {T : TypeId} {xs ys : List Int}
/-- A whole array stored over another one. -/
theorem ABox.row (h : ABox w g T ys) (xs : List Int) : ABox (w.setRow g (xs.map (Value.int .u32)).toArray) g T xs := setRow_heap w g _ _ T (0, 0) h
theorem ABox.rowFar (h : ABox w g T ys) (k : Nat) (C : Array Value) (hk : k ≠ g) : ABox (w.setRow k C) g T ys := (setRow_other w k g C (fun e => hk e.symm)).trans h
end
theorem wpList_store_arr {P : Program} {ops : Array Oper} {rest : List Oper} {op : Oper} {a : Act} {w : World} {Q : Exit → Act → World → Prop} (hgd : op.guard = none) (ty : TypeId) (x y : Operand) (ho : op.op = .store ty x y)
    (g : Nat) (hx : a.eval x = .pointer (some ⟨g, 0, none⟩)) (xs : List Int) (hy : a.eval y = .agg (xs.map (Value.int .u32)).toArray) (ys : List Int) (T : TypeId) (hg : ABox w g T ys)
    (hi : (P.info? ty).map (·.size) = some xs.length) (hl : ys.length = xs.length)
    (h : wpList P ops Q rest (a.put op.dst undef) (w.setRow g (xs.map (Value.int .u32)).toArray)) : wpList P ops Q (op :: rest) a w :=
  wpList_plain hgd fun _ hK => wp_store_row ty x y ho g _ hx hy T _ hg (by simpa using hi) (by simp [hl]) (by simp [Value.oneCell']) (hK _ _ h)

theorem begin_any (w : World) : Calls Try.prog 15 #[] w fun e w' => e = .returned (.agg ((hSha).map (Value.int .u32)).toArray) ∧ Below w.heap.size w w' := by
  have Z := Lib.hid (ABox.new w 32 (List.replicate 8 0) #[.int .u32 0, .int .u32 0, .int .u32 0, .int .u32 0, .int .u32 0, .int .u32 0, .int .u32 0, .int .u32 0] rfl)
  have B := Lib.hid ((Below.refl w.heap.size w).alloc (Nat.le_refl _) (.cells #[.int .u32 0, .int .u32 0, .int .u32 0, .int .u32 0, .int .u32 0, .int .u32 0, .int .u32 0, .int .u32 0] 32))
  go_enter Try.func15, Try.ntmps15
  go_upto_region 1 with (fail)
  generalize w.alloc (.cells #[.int .u32 0, .int .u32 0, .int .u32 0, .int .u32 0, .int .u32 0, .int .u32 0, .int .u32 0, .int .u32 0] 32) = v0 at *
  refine wp_region_list ?_
  refine wpList_build rfl _ _ rfl (by kernel_rfl) ?_
  refine wpList_store_arr rfl 32 _ _ rfl w.heap.size rfl (hSha) (by kernel_rfl) (List.replicate 8 0) 32 Z.out (by kernel_rfl) (by decide) ?_
  go_wp2_with fail
  refine bodyPost_ret (results_arr rfl arr8 _ _ _ rfl (Z.out.row (hSha)) (by kernel_rfl)) rfl ?_
  exact ⟨rfl, below_setRow B.out (Nat.le_refl _) _⟩

theorem rounds_any (w : World) : Calls Try.prog 16 #[] w fun e w' => e = .returned (.agg ((kSha).map (Value.int .u32)).toArray) ∧ Below w.heap.size w w' := by
  have Z := Lib.hid (ABox.new w 34 (List.replicate 64 0) #[.int .u32 0, .int .u32 0, .int .u32 0, .int .u32 0, .int .u32 0, .int .u32 0, .int .u32 0, .int .u32 0, .int .u32 0, .int .u32 0, .int .u32 0, .int .u32 0, .int .u32 0, .int .u32 0, .int .u32 0, .int .u32 0, .int .u32 0, .int .u32 0, .int .u32 0, .int .u32 0, .int .u32 0, .int .u32 0, .int .u32 0, .int .u32 0, .int .u32 0, .int .u32 0, .int .u32 0, .int .u32 0, .int .u32 0, .int .u32 0, .int .u32 0, .int .u32 0, .int .u32 0, .int .u32 0, .int .u32 0, .int .u32 0, .int .u32 0, .int .u32 0, .int .u32 0, .int .u32 0, .int .u32 0, .int .u32 0, .int .u32 0, .int .u32 0, .int .u32 0, .int .u32 0, .int .u32 0, .int .u32 0, .int .u32 0, .int .u32 0, .int .u32 0, .int .u32 0, .int .u32 0, .int .u32 0, .int .u32 0, .int .u32 0, .int .u32 0, .int .u32 0, .int .u32 0, .int .u32 0, .int .u32 0, .int .u32 0, .int .u32 0, .int .u32 0] rfl)
  have B := Lib.hid ((Below.refl w.heap.size w).alloc (Nat.le_refl _) (.cells #[.int .u32 0, .int .u32 0, .int .u32 0, .int .u32 0, .int .u32 0, .int .u32 0, .int .u32 0, .int .u32 0, .int .u32 0, .int .u32 0, .int .u32 0, .int .u32 0, .int .u32 0, .int .u32 0, .int .u32 0, .int .u32 0, .int .u32 0, .int .u32 0, .int .u32 0, .int .u32 0, .int .u32 0, .int .u32 0, .int .u32 0, .int .u32 0, .int .u32 0, .int .u32 0, .int .u32 0, .int .u32 0, .int .u32 0, .int .u32 0, .int .u32 0, .int .u32 0, .int .u32 0, .int .u32 0, .int .u32 0, .int .u32 0, .int .u32 0, .int .u32 0, .int .u32 0, .int .u32 0, .int .u32 0, .int .u32 0, .int .u32 0, .int .u32 0, .int .u32 0, .int .u32 0, .int .u32 0, .int .u32 0, .int .u32 0, .int .u32 0, .int .u32 0, .int .u32 0, .int .u32 0, .int .u32 0, .int .u32 0, .int .u32 0, .int .u32 0, .int .u32 0, .int .u32 0, .int .u32 0, .int .u32 0, .int .u32 0, .int .u32 0, .int .u32 0] 34))
  go_enter Try.func16, Try.ntmps16
  go_upto_region 1 with (fail)
  generalize w.alloc (.cells #[.int .u32 0, .int .u32 0, .int .u32 0, .int .u32 0, .int .u32 0, .int .u32 0, .int .u32 0, .int .u32 0, .int .u32 0, .int .u32 0, .int .u32 0, .int .u32 0, .int .u32 0, .int .u32 0, .int .u32 0, .int .u32 0, .int .u32 0, .int .u32 0, .int .u32 0, .int .u32 0, .int .u32 0, .int .u32 0, .int .u32 0, .int .u32 0, .int .u32 0, .int .u32 0, .int .u32 0, .int .u32 0, .int .u32 0, .int .u32 0, .int .u32 0, .int .u32 0, .int .u32 0, .int .u32 0, .int .u32 0, .int .u32 0, .int .u32 0, .int .u32 0, .int .u32 0, .int .u32 0, .int .u32 0, .int .u32 0, .int .u32 0, .int .u32 0, .int .u32 0, .int .u32 0, .int .u32 0, .int .u32 0, .int .u32 0, .int .u32 0, .int .u32 0, .int .u32 0, .int .u32 0, .int .u32 0, .int .u32 0, .int .u32 0, .int .u32 0, .int .u32 0, .int .u32 0, .int .u32 0, .int .u32 0, .int .u32 0, .int .u32 0, .int .u32 0] 34) = v0 at *
  refine wp_region_list ?_
  refine wpList_build rfl _ _ rfl (by kernel_rfl) ?_
  refine wpList_store_arr rfl 34 _ _ rfl w.heap.size rfl (kSha) (by kernel_rfl) (List.replicate 64 0) 34 Z.out (by kernel_rfl) (by decide) ?_
  go_wp2_with fail
  refine bodyPost_ret (results_arr rfl arr64 _ _ _ rfl (Z.out.row (kSha)) (by kernel_rfl)) rfl ?_
  exact ⟨rfl, below_setRow B.out (Nat.le_refl _) _⟩
end Go.Proofs.Ytkfcjlegeccgjaa
