/-
  JoinMerges: the reference's three trees, laid in any order.
-/
import Derived.Test.YtbmbelnjgnahhaaJoinMgP
import Derived.Test.YtbmbelnjgnahhaaLayMore
namespace Go.Proofs.Ytbmbelnjgnahhaa
open Go.RowKit
set_option linter.unusedVariables false
set_option linter.unusedSimpArgs false

def mjMem : Nat → Bool := fun i => decide (i ∈ ([6, 7, 8] : List Nat))
structure mjJ (o a b : TV) (B : Nat) (w0 : World) (l : Array Bool) (v0 v1 v2 v3 v4 v5 v6 v7 v8 : Value) (r : Nat → Nat) (w : World) : Prop where
  bk : Bk B w0 mjMem l r w
  f0 : l.getD 0 false = true → v0 = o.val
  f1 : l.getD 1 false = true → v1 = o.val
  f2 : l.getD 2 false = true → v2 = a.val
  f3 : l.getD 3 false = true → v3 = a.val
  f4 : l.getD 4 false = true → v4 = b.val
  f5 : l.getD 5 false = true → v5 = b.val
  f6 : l.getD 6 false = true → v6 = Value.pointer (some ⟨r 6, 0, Option.none⟩)
  f7 : l.getD 7 false = true → v7 = Value.pointer (some ⟨r 7, 0, Option.none⟩)
  f8 : l.getD 8 false = true → v8 = Value.pointer (some ⟨r 8, 0, Option.none⟩)
  m6 : l.getD 6 false = true → w.heap[r 6]? = some (.cells (if l.getD 9 false = true then (treeC o) else nulC) 30)
  m7 : l.getD 7 false = true → w.heap[r 7]? = some (.cells (if l.getD 10 false = true then (treeC a) else nulC) 30)
  m8 : l.getD 8 false = true → w.heap[r 8]? = some (.cells (if l.getD 11 false = true then (treeC b) else nulC) 30)
  s9 : l.getD 9 false = true → l.getD 6 false = true ∧ l.getD 1 false = true
  s10 : l.getD 10 false = true → l.getD 7 false = true ∧ l.getD 3 false = true
  s11 : l.getD 11 false = true → l.getD 8 false = true ∧ l.getD 5 false = true
theorem mjJ.start (o a b : TV) (w : World) (v0 v1 v2 v3 v4 v5 v6 v7 v8 : Value) (r : Nat → Nat) : mjJ o a b w.heap.size w (Array.replicate 12 false) v0 v1 v2 v3 v4 v5 v6 v7 v8 r w.drew := by
  have hz : ∀ i, (Array.replicate 12 false).getD i false = false := fun i => by
    by_cases h : i < 12 <;> simp [h]
  constructor
  · exact Bk.start w _ _ r
  all_goals (intro h; rw [hz] at h; exact absurd h (by decide))
set_option maxHeartbeats 1000000 in
theorem mjJ.op0 {o a b : TV} {B : Nat} {w0 w : World} {l : Array Bool} {v0 v1 v2 v3 v4 v5 v6 v7 v8 : Value} {r : Nat → Nat} (h : mjJ o a b B w0 l v0 v1 v2 v3 v4 v5 v6 v7 v8 r w) : mjJ o a b B w0 (l.setIfInBounds 0 true) (o.val) v1 v2 v3 v4 v5 v6 v7 v8 r w := by
  constructor
  · exact h.bk.pure 0 (by decide)
  · intro _; rfl
  · intro e; rw [setB_ne (by decide)] at e; exact h.f1 e
  · intro e; rw [setB_ne (by decide)] at e; exact h.f2 e
  · intro e; rw [setB_ne (by decide)] at e; exact h.f3 e
  · intro e; rw [setB_ne (by decide)] at e; exact h.f4 e
  · intro e; rw [setB_ne (by decide)] at e; exact h.f5 e
  · intro e; rw [setB_ne (by decide)] at e; exact h.f6 e
  · intro e; rw [setB_ne (by decide)] at e; exact h.f7 e
  · intro e; rw [setB_ne (by decide)] at e; exact h.f8 e
  · intro e; rw [setB_ne (by decide)] at e; rw [setB_ne (by decide)]; exact h.m6 e
  · intro e; rw [setB_ne (by decide)] at e; rw [setB_ne (by decide)]; exact h.m7 e
  · intro e; rw [setB_ne (by decide)] at e; rw [setB_ne (by decide)]; exact h.m8 e
  · intro e; rw [setB_ne (by decide)] at e; have hu := h.s9 e; exact ⟨setB_keep hu.1, setB_keep hu.2⟩
  · intro e; rw [setB_ne (by decide)] at e; have hu := h.s10 e; exact ⟨setB_keep hu.1, setB_keep hu.2⟩
  · intro e; rw [setB_ne (by decide)] at e; have hu := h.s11 e; exact ⟨setB_keep hu.1, setB_keep hu.2⟩
set_option maxHeartbeats 1000000 in
theorem mjJ.op1 {o a b : TV} {B : Nat} {w0 w w' : World} {l : Array Bool} {v0 v1 v2 v3 v4 v5 v6 v7 v8 : Value} {r : Nat → Nat} (h : mjJ o a b B w0 l v0 v1 v2 v3 v4 v5 v6 v7 v8 r w) (d0 : l.getD 0 false = true) (hg : Below w.heap.size w w') : mjJ o a b B w0 (l.setIfInBounds 1 true) v0 (o.val) v2 v3 v4 v5 v6 v7 v8 r w' := by
  constructor
  · exact (h.bk.pure 1 (by decide)).grow hg
  · intro e; rw [setB_ne (by decide)] at e; exact h.f0 e
  · intro _; rfl
  · intro e; rw [setB_ne (by decide)] at e; exact h.f2 e
  · intro e; rw [setB_ne (by decide)] at e; exact h.f3 e
  · intro e; rw [setB_ne (by decide)] at e; exact h.f4 e
  · intro e; rw [setB_ne (by decide)] at e; exact h.f5 e
  · intro e; rw [setB_ne (by decide)] at e; exact h.f6 e
  · intro e; rw [setB_ne (by decide)] at e; exact h.f7 e
  · intro e; rw [setB_ne (by decide)] at e; exact h.f8 e
  · intro e; rw [setB_ne (by decide)] at e; rw [setB_ne (by decide)]; exact heap_grow hg (h.m6 e) (h.bk.low 6 (by decide) e).2
  · intro e; rw [setB_ne (by decide)] at e; rw [setB_ne (by decide)]; exact heap_grow hg (h.m7 e) (h.bk.low 7 (by decide) e).2
  · intro e; rw [setB_ne (by decide)] at e; rw [setB_ne (by decide)]; exact heap_grow hg (h.m8 e) (h.bk.low 8 (by decide) e).2
  · intro e; rw [setB_ne (by decide)] at e; have hu := h.s9 e; exact ⟨setB_keep hu.1, setB_keep hu.2⟩
  · intro e; rw [setB_ne (by decide)] at e; have hu := h.s10 e; exact ⟨setB_keep hu.1, setB_keep hu.2⟩
  · intro e; rw [setB_ne (by decide)] at e; have hu := h.s11 e; exact ⟨setB_keep hu.1, setB_keep hu.2⟩
set_option maxHeartbeats 1000000 in
theorem mjJ.op2 {o a b : TV} {B : Nat} {w0 w : World} {l : Array Bool} {v0 v1 v2 v3 v4 v5 v6 v7 v8 : Value} {r : Nat → Nat} (h : mjJ o a b B w0 l v0 v1 v2 v3 v4 v5 v6 v7 v8 r w) : mjJ o a b B w0 (l.setIfInBounds 2 true) v0 v1 (a.val) v3 v4 v5 v6 v7 v8 r w := by
  constructor
  · exact h.bk.pure 2 (by decide)
  · intro e; rw [setB_ne (by decide)] at e; exact h.f0 e
  · intro e; rw [setB_ne (by decide)] at e; exact h.f1 e
  · intro _; rfl
  · intro e; rw [setB_ne (by decide)] at e; exact h.f3 e
  · intro e; rw [setB_ne (by decide)] at e; exact h.f4 e
  · intro e; rw [setB_ne (by decide)] at e; exact h.f5 e
  · intro e; rw [setB_ne (by decide)] at e; exact h.f6 e
  · intro e; rw [setB_ne (by decide)] at e; exact h.f7 e
  · intro e; rw [setB_ne (by decide)] at e; exact h.f8 e
  · intro e; rw [setB_ne (by decide)] at e; rw [setB_ne (by decide)]; exact h.m6 e
  · intro e; rw [setB_ne (by decide)] at e; rw [setB_ne (by decide)]; exact h.m7 e
  · intro e; rw [setB_ne (by decide)] at e; rw [setB_ne (by decide)]; exact h.m8 e
  · intro e; rw [setB_ne (by decide)] at e; have hu := h.s9 e; exact ⟨setB_keep hu.1, setB_keep hu.2⟩
  · intro e; rw [setB_ne (by decide)] at e; have hu := h.s10 e; exact ⟨setB_keep hu.1, setB_keep hu.2⟩
  · intro e; rw [setB_ne (by decide)] at e; have hu := h.s11 e; exact ⟨setB_keep hu.1, setB_keep hu.2⟩
set_option maxHeartbeats 1000000 in
theorem mjJ.op3 {o a b : TV} {B : Nat} {w0 w w' : World} {l : Array Bool} {v0 v1 v2 v3 v4 v5 v6 v7 v8 : Value} {r : Nat → Nat} (h : mjJ o a b B w0 l v0 v1 v2 v3 v4 v5 v6 v7 v8 r w) (d2 : l.getD 2 false = true) (hg : Below w.heap.size w w') : mjJ o a b B w0 (l.setIfInBounds 3 true) v0 v1 v2 (a.val) v4 v5 v6 v7 v8 r w' := by
  constructor
  · exact (h.bk.pure 3 (by decide)).grow hg
  · intro e; rw [setB_ne (by decide)] at e; exact h.f0 e
  · intro e; rw [setB_ne (by decide)] at e; exact h.f1 e
  · intro e; rw [setB_ne (by decide)] at e; exact h.f2 e
  · intro _; rfl
  · intro e; rw [setB_ne (by decide)] at e; exact h.f4 e
  · intro e; rw [setB_ne (by decide)] at e; exact h.f5 e
  · intro e; rw [setB_ne (by decide)] at e; exact h.f6 e
  · intro e; rw [setB_ne (by decide)] at e; exact h.f7 e
  · intro e; rw [setB_ne (by decide)] at e; exact h.f8 e
  · intro e; rw [setB_ne (by decide)] at e; rw [setB_ne (by decide)]; exact heap_grow hg (h.m6 e) (h.bk.low 6 (by decide) e).2
  · intro e; rw [setB_ne (by decide)] at e; rw [setB_ne (by decide)]; exact heap_grow hg (h.m7 e) (h.bk.low 7 (by decide) e).2
  · intro e; rw [setB_ne (by decide)] at e; rw [setB_ne (by decide)]; exact heap_grow hg (h.m8 e) (h.bk.low 8 (by decide) e).2
  · intro e; rw [setB_ne (by decide)] at e; have hu := h.s9 e; exact ⟨setB_keep hu.1, setB_keep hu.2⟩
  · intro e; rw [setB_ne (by decide)] at e; have hu := h.s10 e; exact ⟨setB_keep hu.1, setB_keep hu.2⟩
  · intro e; rw [setB_ne (by decide)] at e; have hu := h.s11 e; exact ⟨setB_keep hu.1, setB_keep hu.2⟩
set_option maxHeartbeats 1000000 in
theorem mjJ.op4 {o a b : TV} {B : Nat} {w0 w : World} {l : Array Bool} {v0 v1 v2 v3 v4 v5 v6 v7 v8 : Value} {r : Nat → Nat} (h : mjJ o a b B w0 l v0 v1 v2 v3 v4 v5 v6 v7 v8 r w) : mjJ o a b B w0 (l.setIfInBounds 4 true) v0 v1 v2 v3 (b.val) v5 v6 v7 v8 r w := by
  constructor
  · exact h.bk.pure 4 (by decide)
  · intro e; rw [setB_ne (by decide)] at e; exact h.f0 e
  · intro e; rw [setB_ne (by decide)] at e; exact h.f1 e
  · intro e; rw [setB_ne (by decide)] at e; exact h.f2 e
  · intro e; rw [setB_ne (by decide)] at e; exact h.f3 e
  · intro _; rfl
  · intro e; rw [setB_ne (by decide)] at e; exact h.f5 e
  · intro e; rw [setB_ne (by decide)] at e; exact h.f6 e
  · intro e; rw [setB_ne (by decide)] at e; exact h.f7 e
  · intro e; rw [setB_ne (by decide)] at e; exact h.f8 e
  · intro e; rw [setB_ne (by decide)] at e; rw [setB_ne (by decide)]; exact h.m6 e
  · intro e; rw [setB_ne (by decide)] at e; rw [setB_ne (by decide)]; exact h.m7 e
  · intro e; rw [setB_ne (by decide)] at e; rw [setB_ne (by decide)]; exact h.m8 e
  · intro e; rw [setB_ne (by decide)] at e; have hu := h.s9 e; exact ⟨setB_keep hu.1, setB_keep hu.2⟩
  · intro e; rw [setB_ne (by decide)] at e; have hu := h.s10 e; exact ⟨setB_keep hu.1, setB_keep hu.2⟩
  · intro e; rw [setB_ne (by decide)] at e; have hu := h.s11 e; exact ⟨setB_keep hu.1, setB_keep hu.2⟩
set_option maxHeartbeats 1000000 in
theorem mjJ.op5 {o a b : TV} {B : Nat} {w0 w w' : World} {l : Array Bool} {v0 v1 v2 v3 v4 v5 v6 v7 v8 : Value} {r : Nat → Nat} (h : mjJ o a b B w0 l v0 v1 v2 v3 v4 v5 v6 v7 v8 r w) (d4 : l.getD 4 false = true) (hg : Below w.heap.size w w') : mjJ o a b B w0 (l.setIfInBounds 5 true) v0 v1 v2 v3 v4 (b.val) v6 v7 v8 r w' := by
  constructor
  · exact (h.bk.pure 5 (by decide)).grow hg
  · intro e; rw [setB_ne (by decide)] at e; exact h.f0 e
  · intro e; rw [setB_ne (by decide)] at e; exact h.f1 e
  · intro e; rw [setB_ne (by decide)] at e; exact h.f2 e
  · intro e; rw [setB_ne (by decide)] at e; exact h.f3 e
  · intro e; rw [setB_ne (by decide)] at e; exact h.f4 e
  · intro _; rfl
  · intro e; rw [setB_ne (by decide)] at e; exact h.f6 e
  · intro e; rw [setB_ne (by decide)] at e; exact h.f7 e
  · intro e; rw [setB_ne (by decide)] at e; exact h.f8 e
  · intro e; rw [setB_ne (by decide)] at e; rw [setB_ne (by decide)]; exact heap_grow hg (h.m6 e) (h.bk.low 6 (by decide) e).2
  · intro e; rw [setB_ne (by decide)] at e; rw [setB_ne (by decide)]; exact heap_grow hg (h.m7 e) (h.bk.low 7 (by decide) e).2
  · intro e; rw [setB_ne (by decide)] at e; rw [setB_ne (by decide)]; exact heap_grow hg (h.m8 e) (h.bk.low 8 (by decide) e).2
  · intro e; rw [setB_ne (by decide)] at e; have hu := h.s9 e; exact ⟨setB_keep hu.1, setB_keep hu.2⟩
  · intro e; rw [setB_ne (by decide)] at e; have hu := h.s10 e; exact ⟨setB_keep hu.1, setB_keep hu.2⟩
  · intro e; rw [setB_ne (by decide)] at e; have hu := h.s11 e; exact ⟨setB_keep hu.1, setB_keep hu.2⟩
set_option maxHeartbeats 1000000 in
theorem mjJ.op6 {o a b : TV} {B : Nat} {w0 w : World} {l : Array Bool} {v0 v1 v2 v3 v4 v5 v6 v7 v8 : Value} {r : Nat → Nat} (h : mjJ o a b B w0 l v0 v1 v2 v3 v4 v5 v6 v7 v8 r w) (h0 : l.getD 6 false = false) : mjJ o a b B w0 (l.setIfInBounds 6 true) v0 v1 v2 v3 v4 v5 (Value.pointer (some ⟨w.heap.size, 0, Option.none⟩)) v7 v8 (rup r 6 w.heap.size) (w.alloc (.cells nulC 30)) := by
  constructor
  · exact h.bk.lay 6 _
  · intro e; rw [setB_ne (by decide)] at e; exact h.f0 e
  · intro e; rw [setB_ne (by decide)] at e; exact h.f1 e
  · intro e; rw [setB_ne (by decide)] at e; exact h.f2 e
  · intro e; rw [setB_ne (by decide)] at e; exact h.f3 e
  · intro e; rw [setB_ne (by decide)] at e; exact h.f4 e
  · intro e; rw [setB_ne (by decide)] at e; exact h.f5 e
  · intro _; show _ = _; simp [rup]
  · intro e; rw [setB_ne (by decide)] at e; exact h.f7 e
  · intro e; rw [setB_ne (by decide)] at e; exact h.f8 e
  · intro e; rw [setB_ne (by decide)]; cases hs : l.getD 9 false
    · show (w.alloc _).heap[w.heap.size]? = _; rw [heap_new]; simp
    · have := h.s9 hs; simp only [h0, Bool.false_eq_true, and_false, false_and] at this
  · intro e; rw [setB_ne (by decide)] at e; rw [setB_ne (by decide)]; exact heap_lay (h.m7 e)
  · intro e; rw [setB_ne (by decide)] at e; rw [setB_ne (by decide)]; exact heap_lay (h.m8 e)
  · intro e; rw [setB_ne (by decide)] at e; have hu := h.s9 e; exact ⟨setB_keep hu.1, setB_keep hu.2⟩
  · intro e; rw [setB_ne (by decide)] at e; have hu := h.s10 e; exact ⟨setB_keep hu.1, setB_keep hu.2⟩
  · intro e; rw [setB_ne (by decide)] at e; have hu := h.s11 e; exact ⟨setB_keep hu.1, setB_keep hu.2⟩
set_option maxHeartbeats 1000000 in
theorem mjJ.op7 {o a b : TV} {B : Nat} {w0 w : World} {l : Array Bool} {v0 v1 v2 v3 v4 v5 v6 v7 v8 : Value} {r : Nat → Nat} (h : mjJ o a b B w0 l v0 v1 v2 v3 v4 v5 v6 v7 v8 r w) (h0 : l.getD 7 false = false) : mjJ o a b B w0 (l.setIfInBounds 7 true) v0 v1 v2 v3 v4 v5 v6 (Value.pointer (some ⟨w.heap.size, 0, Option.none⟩)) v8 (rup r 7 w.heap.size) (w.alloc (.cells nulC 30)) := by
  constructor
  · exact h.bk.lay 7 _
  · intro e; rw [setB_ne (by decide)] at e; exact h.f0 e
  · intro e; rw [setB_ne (by decide)] at e; exact h.f1 e
  · intro e; rw [setB_ne (by decide)] at e; exact h.f2 e
  · intro e; rw [setB_ne (by decide)] at e; exact h.f3 e
  · intro e; rw [setB_ne (by decide)] at e; exact h.f4 e
  · intro e; rw [setB_ne (by decide)] at e; exact h.f5 e
  · intro e; rw [setB_ne (by decide)] at e; exact h.f6 e
  · intro _; show _ = _; simp [rup]
  · intro e; rw [setB_ne (by decide)] at e; exact h.f8 e
  · intro e; rw [setB_ne (by decide)] at e; rw [setB_ne (by decide)]; exact heap_lay (h.m6 e)
  · intro e; rw [setB_ne (by decide)]; cases hs : l.getD 10 false
    · show (w.alloc _).heap[w.heap.size]? = _; rw [heap_new]; simp
    · have := h.s10 hs; simp only [h0, Bool.false_eq_true, and_false, false_and] at this
  · intro e; rw [setB_ne (by decide)] at e; rw [setB_ne (by decide)]; exact heap_lay (h.m8 e)
  · intro e; rw [setB_ne (by decide)] at e; have hu := h.s9 e; exact ⟨setB_keep hu.1, setB_keep hu.2⟩
  · intro e; rw [setB_ne (by decide)] at e; have hu := h.s10 e; exact ⟨setB_keep hu.1, setB_keep hu.2⟩
  · intro e; rw [setB_ne (by decide)] at e; have hu := h.s11 e; exact ⟨setB_keep hu.1, setB_keep hu.2⟩
set_option maxHeartbeats 1000000 in
theorem mjJ.op8 {o a b : TV} {B : Nat} {w0 w : World} {l : Array Bool} {v0 v1 v2 v3 v4 v5 v6 v7 v8 : Value} {r : Nat → Nat} (h : mjJ o a b B w0 l v0 v1 v2 v3 v4 v5 v6 v7 v8 r w) (h0 : l.getD 8 false = false) : mjJ o a b B w0 (l.setIfInBounds 8 true) v0 v1 v2 v3 v4 v5 v6 v7 (Value.pointer (some ⟨w.heap.size, 0, Option.none⟩)) (rup r 8 w.heap.size) (w.alloc (.cells nulC 30)) := by
  constructor
  · exact h.bk.lay 8 _
  · intro e; rw [setB_ne (by decide)] at e; exact h.f0 e
  · intro e; rw [setB_ne (by decide)] at e; exact h.f1 e
  · intro e; rw [setB_ne (by decide)] at e; exact h.f2 e
  · intro e; rw [setB_ne (by decide)] at e; exact h.f3 e
  · intro e; rw [setB_ne (by decide)] at e; exact h.f4 e
  · intro e; rw [setB_ne (by decide)] at e; exact h.f5 e
  · intro e; rw [setB_ne (by decide)] at e; exact h.f6 e
  · intro e; rw [setB_ne (by decide)] at e; exact h.f7 e
  · intro _; show _ = _; simp [rup]
  · intro e; rw [setB_ne (by decide)] at e; rw [setB_ne (by decide)]; exact heap_lay (h.m6 e)
  · intro e; rw [setB_ne (by decide)] at e; rw [setB_ne (by decide)]; exact heap_lay (h.m7 e)
  · intro e; rw [setB_ne (by decide)]; cases hs : l.getD 11 false
    · show (w.alloc _).heap[w.heap.size]? = _; rw [heap_new]; simp
    · have := h.s11 hs; simp only [h0, Bool.false_eq_true, and_false, false_and] at this
  · intro e; rw [setB_ne (by decide)] at e; have hu := h.s9 e; exact ⟨setB_keep hu.1, setB_keep hu.2⟩
  · intro e; rw [setB_ne (by decide)] at e; have hu := h.s10 e; exact ⟨setB_keep hu.1, setB_keep hu.2⟩
  · intro e; rw [setB_ne (by decide)] at e; have hu := h.s11 e; exact ⟨setB_keep hu.1, setB_keep hu.2⟩
set_option maxHeartbeats 1000000 in
theorem mjJ.op9 {o a b : TV} {B : Nat} {w0 w : World} {l : Array Bool} {v0 v1 v2 v3 v4 v5 v6 v7 v8 : Value} {r : Nat → Nat} (h : mjJ o a b B w0 l v0 v1 v2 v3 v4 v5 v6 v7 v8 r w) (hsz : l.size = 12) (h0 : l.getD 9 false = false) (d6 : l.getD 6 false = true) (d1 : l.getD 1 false = true) : mjJ o a b B w0 (l.setIfInBounds 9 true) v0 v1 v2 v3 v4 v5 v6 v7 v8 r (((((w.setCell ⟨r 6, 0, Option.none⟩ (.int .i64 o.W)).setCell ⟨r 6, 1, Option.none⟩ (.int .i64 o.H)).setCell ⟨r 6, 2, Option.none⟩ (.int .i64 o.C)).setCell ⟨r 6, 3, Option.none⟩ (.int .i64 o.D)).setCell ⟨r 6, 4, Option.none⟩ (.slice o.a o.n o.cap)) := by
  have hlow := (h.bk.low 6 (by decide) d6).1
  constructor
  · exact h.bk.store 9 (by decide) (by simp) (h.bk.bel|>.setCell hlow _|>.setCell hlow _|>.setCell hlow _|>.setCell hlow _|>.setCell hlow _)
  · intro e; rw [setB_ne (by decide)] at e; exact h.f0 e
  · intro e; rw [setB_ne (by decide)] at e; exact h.f1 e
  · intro e; rw [setB_ne (by decide)] at e; exact h.f2 e
  · intro e; rw [setB_ne (by decide)] at e; exact h.f3 e
  · intro e; rw [setB_ne (by decide)] at e; exact h.f4 e
  · intro e; rw [setB_ne (by decide)] at e; exact h.f5 e
  · intro e; rw [setB_ne (by decide)] at e; exact h.f6 e
  · intro e; rw [setB_ne (by decide)] at e; exact h.f7 e
  · intro e; rw [setB_ne (by decide)] at e; exact h.f8 e
  · intro e; rw [setB_ne (by decide)] at e; have hm := h.m6 e; rw [h0] at hm; simp only [Bool.false_eq_true, if_false] at hm; have hm2 := heap_set (i := 4) (v := (.slice o.a o.n o.cap)) (heap_set (i := 3) (v := (.int .i64 o.D)) (heap_set (i := 2) (v := (.int .i64 o.C)) (heap_set (i := 1) (v := (.int .i64 o.H)) (heap_set (i := 0) (v := (.int .i64 o.W)) (hm))))); have hl := setB_self l 9 (by omega)
    rw [hl, if_pos rfl]; exact hm2
  · intro e; rw [setB_ne (by decide)] at e; have hne := h.bk.inj 6 7 (by decide) (by decide) d6 e (by decide); rw [setB_ne (by decide)]; exact heap_far (heap_far (heap_far (heap_far (heap_far (h.m7 e) hne) hne) hne) hne) hne
  · intro e; rw [setB_ne (by decide)] at e; have hne := h.bk.inj 6 8 (by decide) (by decide) d6 e (by decide); rw [setB_ne (by decide)]; exact heap_far (heap_far (heap_far (heap_far (heap_far (h.m8 e) hne) hne) hne) hne) hne
  · intro _; exact ⟨by rw [setB_ne (by decide)]; exact d6, by rw [setB_ne (by decide)]; exact d1⟩
  · intro e; rw [setB_ne (by decide)] at e; have hu := h.s10 e; exact ⟨setB_keep hu.1, setB_keep hu.2⟩
  · intro e; rw [setB_ne (by decide)] at e; have hu := h.s11 e; exact ⟨setB_keep hu.1, setB_keep hu.2⟩
set_option maxHeartbeats 1000000 in
theorem mjJ.op10 {o a b : TV} {B : Nat} {w0 w : World} {l : Array Bool} {v0 v1 v2 v3 v4 v5 v6 v7 v8 : Value} {r : Nat → Nat} (h : mjJ o a b B w0 l v0 v1 v2 v3 v4 v5 v6 v7 v8 r w) (hsz : l.size = 12) (h0 : l.getD 10 false = false) (d7 : l.getD 7 false = true) (d3 : l.getD 3 false = true) : mjJ o a b B w0 (l.setIfInBounds 10 true) v0 v1 v2 v3 v4 v5 v6 v7 v8 r (((((w.setCell ⟨r 7, 0, Option.none⟩ (.int .i64 a.W)).setCell ⟨r 7, 1, Option.none⟩ (.int .i64 a.H)).setCell ⟨r 7, 2, Option.none⟩ (.int .i64 a.C)).setCell ⟨r 7, 3, Option.none⟩ (.int .i64 a.D)).setCell ⟨r 7, 4, Option.none⟩ (.slice a.a a.n a.cap)) := by
  have hlow := (h.bk.low 7 (by decide) d7).1
  constructor
  · exact h.bk.store 10 (by decide) (by simp) (h.bk.bel|>.setCell hlow _|>.setCell hlow _|>.setCell hlow _|>.setCell hlow _|>.setCell hlow _)
  · intro e; rw [setB_ne (by decide)] at e; exact h.f0 e
  · intro e; rw [setB_ne (by decide)] at e; exact h.f1 e
  · intro e; rw [setB_ne (by decide)] at e; exact h.f2 e
  · intro e; rw [setB_ne (by decide)] at e; exact h.f3 e
  · intro e; rw [setB_ne (by decide)] at e; exact h.f4 e
  · intro e; rw [setB_ne (by decide)] at e; exact h.f5 e
  · intro e; rw [setB_ne (by decide)] at e; exact h.f6 e
  · intro e; rw [setB_ne (by decide)] at e; exact h.f7 e
  · intro e; rw [setB_ne (by decide)] at e; exact h.f8 e
  · intro e; rw [setB_ne (by decide)] at e; have hne := h.bk.inj 7 6 (by decide) (by decide) d7 e (by decide); rw [setB_ne (by decide)]; exact heap_far (heap_far (heap_far (heap_far (heap_far (h.m6 e) hne) hne) hne) hne) hne
  · intro e; rw [setB_ne (by decide)] at e; have hm := h.m7 e; rw [h0] at hm; simp only [Bool.false_eq_true, if_false] at hm; have hm2 := heap_set (i := 4) (v := (.slice a.a a.n a.cap)) (heap_set (i := 3) (v := (.int .i64 a.D)) (heap_set (i := 2) (v := (.int .i64 a.C)) (heap_set (i := 1) (v := (.int .i64 a.H)) (heap_set (i := 0) (v := (.int .i64 a.W)) (hm))))); have hl := setB_self l 10 (by omega)
    rw [hl, if_pos rfl]; exact hm2
  · intro e; rw [setB_ne (by decide)] at e; have hne := h.bk.inj 7 8 (by decide) (by decide) d7 e (by decide); rw [setB_ne (by decide)]; exact heap_far (heap_far (heap_far (heap_far (heap_far (h.m8 e) hne) hne) hne) hne) hne
  · intro e; rw [setB_ne (by decide)] at e; have hu := h.s9 e; exact ⟨setB_keep hu.1, setB_keep hu.2⟩
  · intro _; exact ⟨by rw [setB_ne (by decide)]; exact d7, by rw [setB_ne (by decide)]; exact d3⟩
  · intro e; rw [setB_ne (by decide)] at e; have hu := h.s11 e; exact ⟨setB_keep hu.1, setB_keep hu.2⟩
set_option maxHeartbeats 1000000 in
theorem mjJ.op11 {o a b : TV} {B : Nat} {w0 w : World} {l : Array Bool} {v0 v1 v2 v3 v4 v5 v6 v7 v8 : Value} {r : Nat → Nat} (h : mjJ o a b B w0 l v0 v1 v2 v3 v4 v5 v6 v7 v8 r w) (hsz : l.size = 12) (h0 : l.getD 11 false = false) (d8 : l.getD 8 false = true) (d5 : l.getD 5 false = true) : mjJ o a b B w0 (l.setIfInBounds 11 true) v0 v1 v2 v3 v4 v5 v6 v7 v8 r (((((w.setCell ⟨r 8, 0, Option.none⟩ (.int .i64 b.W)).setCell ⟨r 8, 1, Option.none⟩ (.int .i64 b.H)).setCell ⟨r 8, 2, Option.none⟩ (.int .i64 b.C)).setCell ⟨r 8, 3, Option.none⟩ (.int .i64 b.D)).setCell ⟨r 8, 4, Option.none⟩ (.slice b.a b.n b.cap)) := by
  have hlow := (h.bk.low 8 (by decide) d8).1
  constructor
  · exact h.bk.store 11 (by decide) (by simp) (h.bk.bel|>.setCell hlow _|>.setCell hlow _|>.setCell hlow _|>.setCell hlow _|>.setCell hlow _)
  · intro e; rw [setB_ne (by decide)] at e; exact h.f0 e
  · intro e; rw [setB_ne (by decide)] at e; exact h.f1 e
  · intro e; rw [setB_ne (by decide)] at e; exact h.f2 e
  · intro e; rw [setB_ne (by decide)] at e; exact h.f3 e
  · intro e; rw [setB_ne (by decide)] at e; exact h.f4 e
  · intro e; rw [setB_ne (by decide)] at e; exact h.f5 e
  · intro e; rw [setB_ne (by decide)] at e; exact h.f6 e
  · intro e; rw [setB_ne (by decide)] at e; exact h.f7 e
  · intro e; rw [setB_ne (by decide)] at e; exact h.f8 e
  · intro e; rw [setB_ne (by decide)] at e; have hne := h.bk.inj 8 6 (by decide) (by decide) d8 e (by decide); rw [setB_ne (by decide)]; exact heap_far (heap_far (heap_far (heap_far (heap_far (h.m6 e) hne) hne) hne) hne) hne
  · intro e; rw [setB_ne (by decide)] at e; have hne := h.bk.inj 8 7 (by decide) (by decide) d8 e (by decide); rw [setB_ne (by decide)]; exact heap_far (heap_far (heap_far (heap_far (heap_far (h.m7 e) hne) hne) hne) hne) hne
  · intro e; rw [setB_ne (by decide)] at e; have hm := h.m8 e; rw [h0] at hm; simp only [Bool.false_eq_true, if_false] at hm; have hm2 := heap_set (i := 4) (v := (.slice b.a b.n b.cap)) (heap_set (i := 3) (v := (.int .i64 b.D)) (heap_set (i := 2) (v := (.int .i64 b.C)) (heap_set (i := 1) (v := (.int .i64 b.H)) (heap_set (i := 0) (v := (.int .i64 b.W)) (hm))))); have hl := setB_self l 11 (by omega)
    rw [hl, if_pos rfl]; exact hm2
  · intro e; rw [setB_ne (by decide)] at e; have hu := h.s9 e; exact ⟨setB_keep hu.1, setB_keep hu.2⟩
  · intro e; rw [setB_ne (by decide)] at e; have hu := h.s10 e; exact ⟨setB_keep hu.1, setB_keep hu.2⟩
  · intro _; exact ⟨by rw [setB_ne (by decide)]; exact d8, by rw [setB_ne (by decide)]; exact d5⟩
end Go.Proofs.Ytbmbelnjgnahhaa
