/-
  The statements' own first function of chapter 23: three trees laid in any order.
-/
import Derived.Test.YtbmbelnjgnahhaaJoinAux
import Derived.Test.YtbmbelnjgnahhaaLayAny
namespace Go.Proofs.Ytbmbelnjgnahhaa
open Go.RowKit

def jfMem : Nat → Bool := fun i => decide (i ∈ ([2, 8, 14, 16, 17, 18] : List Nat))
structure jfJ (k kc k1 k2 : ByteArray) (B : Nat) (w0 : World) (l : Array Bool) (v0 v1 v2 v3 v4 v5 v6 v7 v8 v9 v10 v11 v12 v13 v14 v15 v16 v17 v18 : Value) (r : Nat → Nat) (w : World) : Prop where
  bk : Bk B w0 jfMem l r w
  f0 : l.getD 0 false = true → v0 = Value.agg #[.int .i64 1, .int .i64 1, .int .i64 1, .int .i64 8]
  f1 : l.getD 1 false = true → v1 = Value.string k
  f2 : l.getD 2 false = true → v2 = Value.slice (some ⟨r 2, 0, Option.none⟩) 1 1
  f3 : l.getD 3 false = true → v3 = ras 1 1 1 8 (some ⟨r 2, 0, Option.none⟩) 1 1
  f4 : l.getD 4 false = true → v4 = Value.agg #[.int .i64 1, .int .i64 1, .int .i64 1, .int .i64 8]
  f5 : l.getD 5 false = true → v5 = Value.string k
  f6 : l.getD 6 false = true → v6 = Value.string kc
  f7 : l.getD 7 false = true → v7 = Value.string k1
  f8 : l.getD 8 false = true → v8 = Value.slice (some ⟨r 8, 0, Option.none⟩) 1 1
  f9 : l.getD 9 false = true → v9 = ras 1 1 1 8 (some ⟨r 8, 0, Option.none⟩) 1 1
  f10 : l.getD 10 false = true → v10 = Value.agg #[.int .i64 1, .int .i64 1, .int .i64 1, .int .i64 8]
  f11 : l.getD 11 false = true → v11 = Value.string k
  f12 : l.getD 12 false = true → v12 = Value.string kc
  f13 : l.getD 13 false = true → v13 = Value.string k2
  f14 : l.getD 14 false = true → v14 = Value.slice (some ⟨r 14, 0, Option.none⟩) 1 1
  f15 : l.getD 15 false = true → v15 = ras 1 1 1 8 (some ⟨r 14, 0, Option.none⟩) 1 1
  f16 : l.getD 16 false = true → v16 = Value.pointer (some ⟨r 16, 0, Option.none⟩)
  f17 : l.getD 17 false = true → v17 = Value.pointer (some ⟨r 17, 0, Option.none⟩)
  f18 : l.getD 18 false = true → v18 = Value.pointer (some ⟨r 18, 0, Option.none⟩)
  m2 : l.getD 2 false = true → w.heap[r 2]? = some (.cells #[Value.string k] 9)
  m8 : l.getD 8 false = true → w.heap[r 8]? = some (.cells #[Value.string k1] 9)
  m14 : l.getD 14 false = true → w.heap[r 14]? = some (.cells #[Value.string k2] 9)
  m16 : l.getD 16 false = true → w.heap[r 16]? = some (.cells (if l.getD 19 false = true then #[Value.int .i64 1, Value.int .i64 1, Value.int .i64 1, Value.int .i64 8, Value.slice (some ⟨r 2, 0, Option.none⟩) 1 1] else nulC) 26)
  m17 : l.getD 17 false = true → w.heap[r 17]? = some (.cells (if l.getD 20 false = true then #[Value.int .i64 1, Value.int .i64 1, Value.int .i64 1, Value.int .i64 8, Value.slice (some ⟨r 8, 0, Option.none⟩) 1 1] else nulC) 26)
  m18 : l.getD 18 false = true → w.heap[r 18]? = some (.cells (if l.getD 21 false = true then #[Value.int .i64 1, Value.int .i64 1, Value.int .i64 1, Value.int .i64 8, Value.slice (some ⟨r 14, 0, Option.none⟩) 1 1] else nulC) 26)
  s19 : l.getD 19 false = true → l.getD 16 false = true ∧ l.getD 3 false = true ∧ l.getD 2 false = true
  s20 : l.getD 20 false = true → l.getD 17 false = true ∧ l.getD 9 false = true ∧ l.getD 8 false = true
  s21 : l.getD 21 false = true → l.getD 18 false = true ∧ l.getD 15 false = true ∧ l.getD 14 false = true
  u3 : l.getD 3 false = true → l.getD 2 false = true
  u9 : l.getD 9 false = true → l.getD 8 false = true
  u15 : l.getD 15 false = true → l.getD 14 false = true
theorem jfJ.start (k kc k1 k2 : ByteArray) (w : World) (v0 v1 v2 v3 v4 v5 v6 v7 v8 v9 v10 v11 v12 v13 v14 v15 v16 v17 v18 : Value) (r : Nat → Nat) : jfJ k kc k1 k2 w.heap.size w (Array.replicate 22 false) v0 v1 v2 v3 v4 v5 v6 v7 v8 v9 v10 v11 v12 v13 v14 v15 v16 v17 v18 r w.drew := by
  have hz : ∀ i, (Array.replicate 22 false).getD i false = false := fun i => by
    by_cases h : i < 22 <;> simp [h]
  constructor
  · exact Bk.start w _ _ r
  all_goals (intro h; rw [hz] at h; exact absurd h (by decide))
set_option maxHeartbeats 1000000 in
theorem jfJ.op0 {k kc k1 k2 : ByteArray} {B : Nat} {w0 w : World} {l : Array Bool} {v0 v1 v2 v3 v4 v5 v6 v7 v8 v9 v10 v11 v12 v13 v14 v15 v16 v17 v18 : Value} {r : Nat → Nat} (h : jfJ k kc k1 k2 B w0 l v0 v1 v2 v3 v4 v5 v6 v7 v8 v9 v10 v11 v12 v13 v14 v15 v16 v17 v18 r w) : jfJ k kc k1 k2 B w0 (l.setIfInBounds 0 true) (Value.agg #[.int .i64 1, .int .i64 1, .int .i64 1, .int .i64 8]) v1 v2 v3 v4 v5 v6 v7 v8 v9 v10 v11 v12 v13 v14 v15 v16 v17 v18 r w := by
  constructor
  · exact h.bk.pure 0 (by decide)
  · intro _; rfl
  · intro e; rw [setB_ne (by decide)] at e; exact h.f1 e
  · intro e; rw [setB_ne (by decide)] at e; exact h.f2 e
  · intro e; rw [setB_ne (by decide)] at e; exact h.f3 e
  · intro e; rw [setB_ne (by decide)] at e; exact h.f4 e
  · intro e; rw [setB_ne (by decide)] at e; exact h.f5 e
  · intro e; rw [setB_ne (by decide)] at e; exact h.f6 e
  · intro e; rw [setB_ne (by decide)] at e; exact h.f7 e
  · intro e; rw [setB_ne (by decide)] at e; exact h.f8 e
  · intro e; rw [setB_ne (by decide)] at e; exact h.f9 e
  · intro e; rw [setB_ne (by decide)] at e; exact h.f10 e
  · intro e; rw [setB_ne (by decide)] at e; exact h.f11 e
  · intro e; rw [setB_ne (by decide)] at e; exact h.f12 e
  · intro e; rw [setB_ne (by decide)] at e; exact h.f13 e
  · intro e; rw [setB_ne (by decide)] at e; exact h.f14 e
  · intro e; rw [setB_ne (by decide)] at e; exact h.f15 e
  · intro e; rw [setB_ne (by decide)] at e; exact h.f16 e
  · intro e; rw [setB_ne (by decide)] at e; exact h.f17 e
  · intro e; rw [setB_ne (by decide)] at e; exact h.f18 e
  · intro e; rw [setB_ne (by decide)] at e; exact h.m2 e
  · intro e; rw [setB_ne (by decide)] at e; exact h.m8 e
  · intro e; rw [setB_ne (by decide)] at e; exact h.m14 e
  · intro e; rw [setB_ne (by decide)] at e; rw [setB_ne (by decide)]; exact h.m16 e
  · intro e; rw [setB_ne (by decide)] at e; rw [setB_ne (by decide)]; exact h.m17 e
  · intro e; rw [setB_ne (by decide)] at e; rw [setB_ne (by decide)]; exact h.m18 e
  · intro e; rw [setB_ne (by decide)] at e; have hu := h.s19 e; exact ⟨setB_keep hu.1, setB_keep hu.2.1, setB_keep hu.2.2⟩
  · intro e; rw [setB_ne (by decide)] at e; have hu := h.s20 e; exact ⟨setB_keep hu.1, setB_keep hu.2.1, setB_keep hu.2.2⟩
  · intro e; rw [setB_ne (by decide)] at e; have hu := h.s21 e; exact ⟨setB_keep hu.1, setB_keep hu.2.1, setB_keep hu.2.2⟩
  · intro e; rw [setB_ne (by decide)] at e; have hu := h.u3 e; exact setB_keep hu
  · intro e; rw [setB_ne (by decide)] at e; have hu := h.u9 e; exact setB_keep hu
  · intro e; rw [setB_ne (by decide)] at e; have hu := h.u15 e; exact setB_keep hu
set_option maxHeartbeats 1000000 in
theorem jfJ.op1 {k kc k1 k2 : ByteArray} {B : Nat} {w0 w : World} {l : Array Bool} {v0 v1 v2 v3 v4 v5 v6 v7 v8 v9 v10 v11 v12 v13 v14 v15 v16 v17 v18 : Value} {r : Nat → Nat} (h : jfJ k kc k1 k2 B w0 l v0 v1 v2 v3 v4 v5 v6 v7 v8 v9 v10 v11 v12 v13 v14 v15 v16 v17 v18 r w) : jfJ k kc k1 k2 B w0 (l.setIfInBounds 1 true) v0 (Value.string k) v2 v3 v4 v5 v6 v7 v8 v9 v10 v11 v12 v13 v14 v15 v16 v17 v18 r w := by
  constructor
  · exact h.bk.pure 1 (by decide)
  · intro e; rw [setB_ne (by decide)] at e; exact h.f0 e
  · intro _; rfl
  · intro e; rw [setB_ne (by decide)] at e; exact h.f2 e
  · intro e; rw [setB_ne (by decide)] at e; exact h.f3 e
  · intro e; rw [setB_ne (by decide)] at e; exact h.f4 e
  · intro e; rw [setB_ne (by decide)] at e; exact h.f5 e
  · intro e; rw [setB_ne (by decide)] at e; exact h.f6 e
  · intro e; rw [setB_ne (by decide)] at e; exact h.f7 e
  · intro e; rw [setB_ne (by decide)] at e; exact h.f8 e
  · intro e; rw [setB_ne (by decide)] at e; exact h.f9 e
  · intro e; rw [setB_ne (by decide)] at e; exact h.f10 e
  · intro e; rw [setB_ne (by decide)] at e; exact h.f11 e
  · intro e; rw [setB_ne (by decide)] at e; exact h.f12 e
  · intro e; rw [setB_ne (by decide)] at e; exact h.f13 e
  · intro e; rw [setB_ne (by decide)] at e; exact h.f14 e
  · intro e; rw [setB_ne (by decide)] at e; exact h.f15 e
  · intro e; rw [setB_ne (by decide)] at e; exact h.f16 e
  · intro e; rw [setB_ne (by decide)] at e; exact h.f17 e
  · intro e; rw [setB_ne (by decide)] at e; exact h.f18 e
  · intro e; rw [setB_ne (by decide)] at e; exact h.m2 e
  · intro e; rw [setB_ne (by decide)] at e; exact h.m8 e
  · intro e; rw [setB_ne (by decide)] at e; exact h.m14 e
  · intro e; rw [setB_ne (by decide)] at e; rw [setB_ne (by decide)]; exact h.m16 e
  · intro e; rw [setB_ne (by decide)] at e; rw [setB_ne (by decide)]; exact h.m17 e
  · intro e; rw [setB_ne (by decide)] at e; rw [setB_ne (by decide)]; exact h.m18 e
  · intro e; rw [setB_ne (by decide)] at e; have hu := h.s19 e; exact ⟨setB_keep hu.1, setB_keep hu.2.1, setB_keep hu.2.2⟩
  · intro e; rw [setB_ne (by decide)] at e; have hu := h.s20 e; exact ⟨setB_keep hu.1, setB_keep hu.2.1, setB_keep hu.2.2⟩
  · intro e; rw [setB_ne (by decide)] at e; have hu := h.s21 e; exact ⟨setB_keep hu.1, setB_keep hu.2.1, setB_keep hu.2.2⟩
  · intro e; rw [setB_ne (by decide)] at e; have hu := h.u3 e; exact setB_keep hu
  · intro e; rw [setB_ne (by decide)] at e; have hu := h.u9 e; exact setB_keep hu
  · intro e; rw [setB_ne (by decide)] at e; have hu := h.u15 e; exact setB_keep hu
set_option maxHeartbeats 1000000 in
theorem jfJ.op2 {k kc k1 k2 : ByteArray} {B : Nat} {w0 w : World} {l : Array Bool} {v0 v1 v2 v3 v4 v5 v6 v7 v8 v9 v10 v11 v12 v13 v14 v15 v16 v17 v18 : Value} {r : Nat → Nat} (h : jfJ k kc k1 k2 B w0 l v0 v1 v2 v3 v4 v5 v6 v7 v8 v9 v10 v11 v12 v13 v14 v15 v16 v17 v18 r w) (h0 : l.getD 2 false = false) (d1 : l.getD 1 false = true) : jfJ k kc k1 k2 B w0 (l.setIfInBounds 2 true) v0 v1 (Value.slice (some ⟨w.heap.size, 0, Option.none⟩) 1 1) v3 v4 v5 v6 v7 v8 v9 v10 v11 v12 v13 v14 v15 v16 v17 v18 (rup r 2 w.heap.size) (w.alloc (.cells #[Value.string k] 9)) := by
  constructor
  · exact h.bk.lay 2 _
  · intro e; rw [setB_ne (by decide)] at e; exact h.f0 e
  · intro e; rw [setB_ne (by decide)] at e; exact h.f1 e
  · intro _; show _ = _; simp [rup]
  · intro e; rw [setB_ne (by decide)] at e; have hu := h.u3 e; simp only [h0, Bool.false_eq_true, and_false, false_and] at hu
  · intro e; rw [setB_ne (by decide)] at e; exact h.f4 e
  · intro e; rw [setB_ne (by decide)] at e; exact h.f5 e
  · intro e; rw [setB_ne (by decide)] at e; exact h.f6 e
  · intro e; rw [setB_ne (by decide)] at e; exact h.f7 e
  · intro e; rw [setB_ne (by decide)] at e; exact h.f8 e
  · intro e; rw [setB_ne (by decide)] at e; exact h.f9 e
  · intro e; rw [setB_ne (by decide)] at e; exact h.f10 e
  · intro e; rw [setB_ne (by decide)] at e; exact h.f11 e
  · intro e; rw [setB_ne (by decide)] at e; exact h.f12 e
  · intro e; rw [setB_ne (by decide)] at e; exact h.f13 e
  · intro e; rw [setB_ne (by decide)] at e; exact h.f14 e
  · intro e; rw [setB_ne (by decide)] at e; exact h.f15 e
  · intro e; rw [setB_ne (by decide)] at e; exact h.f16 e
  · intro e; rw [setB_ne (by decide)] at e; exact h.f17 e
  · intro e; rw [setB_ne (by decide)] at e; exact h.f18 e
  · intro e; exact heap_new w _
  · intro e; rw [setB_ne (by decide)] at e; exact heap_lay (h.m8 e)
  · intro e; rw [setB_ne (by decide)] at e; exact heap_lay (h.m14 e)
  · intro e; rw [setB_ne (by decide)] at e; have hm := heap_lay (ob' := .cells #[Value.string k] 9) (h.m16 e); rw [setB_ne (by decide)]; cases hs : l.getD 19 false
    · rw [hs] at hm; exact hm
    · have := h.s19 hs; simp only [h0, Bool.false_eq_true, and_false, false_and] at this
  · intro e; rw [setB_ne (by decide)] at e; rw [setB_ne (by decide)]; exact heap_lay (h.m17 e)
  · intro e; rw [setB_ne (by decide)] at e; rw [setB_ne (by decide)]; exact heap_lay (h.m18 e)
  · intro e; rw [setB_ne (by decide)] at e; have hu := h.s19 e; exact ⟨setB_keep hu.1, setB_keep hu.2.1, setB_keep hu.2.2⟩
  · intro e; rw [setB_ne (by decide)] at e; have hu := h.s20 e; exact ⟨setB_keep hu.1, setB_keep hu.2.1, setB_keep hu.2.2⟩
  · intro e; rw [setB_ne (by decide)] at e; have hu := h.s21 e; exact ⟨setB_keep hu.1, setB_keep hu.2.1, setB_keep hu.2.2⟩
  · intro e; rw [setB_ne (by decide)] at e; have hu := h.u3 e; exact setB_keep hu
  · intro e; rw [setB_ne (by decide)] at e; have hu := h.u9 e; exact setB_keep hu
  · intro e; rw [setB_ne (by decide)] at e; have hu := h.u15 e; exact setB_keep hu
set_option maxHeartbeats 1000000 in
theorem jfJ.op3 {k kc k1 k2 : ByteArray} {B : Nat} {w0 w : World} {l : Array Bool} {v0 v1 v2 v3 v4 v5 v6 v7 v8 v9 v10 v11 v12 v13 v14 v15 v16 v17 v18 : Value} {r : Nat → Nat} (h : jfJ k kc k1 k2 B w0 l v0 v1 v2 v3 v4 v5 v6 v7 v8 v9 v10 v11 v12 v13 v14 v15 v16 v17 v18 r w) (d0 : l.getD 0 false = true) (d2 : l.getD 2 false = true) : jfJ k kc k1 k2 B w0 (l.setIfInBounds 3 true) v0 v1 v2 (ras 1 1 1 8 (some ⟨r 2, 0, Option.none⟩) 1 1) v4 v5 v6 v7 v8 v9 v10 v11 v12 v13 v14 v15 v16 v17 v18 r w := by
  constructor
  · exact h.bk.pure 3 (by decide)
  · intro e; rw [setB_ne (by decide)] at e; exact h.f0 e
  · intro e; rw [setB_ne (by decide)] at e; exact h.f1 e
  · intro e; rw [setB_ne (by decide)] at e; exact h.f2 e
  · intro _; rfl
  · intro e; rw [setB_ne (by decide)] at e; exact h.f4 e
  · intro e; rw [setB_ne (by decide)] at e; exact h.f5 e
  · intro e; rw [setB_ne (by decide)] at e; exact h.f6 e
  · intro e; rw [setB_ne (by decide)] at e; exact h.f7 e
  · intro e; rw [setB_ne (by decide)] at e; exact h.f8 e
  · intro e; rw [setB_ne (by decide)] at e; exact h.f9 e
  · intro e; rw [setB_ne (by decide)] at e; exact h.f10 e
  · intro e; rw [setB_ne (by decide)] at e; exact h.f11 e
  · intro e; rw [setB_ne (by decide)] at e; exact h.f12 e
  · intro e; rw [setB_ne (by decide)] at e; exact h.f13 e
  · intro e; rw [setB_ne (by decide)] at e; exact h.f14 e
  · intro e; rw [setB_ne (by decide)] at e; exact h.f15 e
  · intro e; rw [setB_ne (by decide)] at e; exact h.f16 e
  · intro e; rw [setB_ne (by decide)] at e; exact h.f17 e
  · intro e; rw [setB_ne (by decide)] at e; exact h.f18 e
  · intro e; rw [setB_ne (by decide)] at e; exact h.m2 e
  · intro e; rw [setB_ne (by decide)] at e; exact h.m8 e
  · intro e; rw [setB_ne (by decide)] at e; exact h.m14 e
  · intro e; rw [setB_ne (by decide)] at e; rw [setB_ne (by decide)]; exact h.m16 e
  · intro e; rw [setB_ne (by decide)] at e; rw [setB_ne (by decide)]; exact h.m17 e
  · intro e; rw [setB_ne (by decide)] at e; rw [setB_ne (by decide)]; exact h.m18 e
  · intro e; rw [setB_ne (by decide)] at e; have hu := h.s19 e; exact ⟨setB_keep hu.1, setB_keep hu.2.1, setB_keep hu.2.2⟩
  · intro e; rw [setB_ne (by decide)] at e; have hu := h.s20 e; exact ⟨setB_keep hu.1, setB_keep hu.2.1, setB_keep hu.2.2⟩
  · intro e; rw [setB_ne (by decide)] at e; have hu := h.s21 e; exact ⟨setB_keep hu.1, setB_keep hu.2.1, setB_keep hu.2.2⟩
  · intro _; rw [setB_ne (by decide)]; exact d2
  · intro e; rw [setB_ne (by decide)] at e; have hu := h.u9 e; exact setB_keep hu
  · intro e; rw [setB_ne (by decide)] at e; have hu := h.u15 e; exact setB_keep hu
set_option maxHeartbeats 1000000 in
theorem jfJ.op4 {k kc k1 k2 : ByteArray} {B : Nat} {w0 w : World} {l : Array Bool} {v0 v1 v2 v3 v4 v5 v6 v7 v8 v9 v10 v11 v12 v13 v14 v15 v16 v17 v18 : Value} {r : Nat → Nat} (h : jfJ k kc k1 k2 B w0 l v0 v1 v2 v3 v4 v5 v6 v7 v8 v9 v10 v11 v12 v13 v14 v15 v16 v17 v18 r w) : jfJ k kc k1 k2 B w0 (l.setIfInBounds 4 true) v0 v1 v2 v3 (Value.agg #[.int .i64 1, .int .i64 1, .int .i64 1, .int .i64 8]) v5 v6 v7 v8 v9 v10 v11 v12 v13 v14 v15 v16 v17 v18 r w := by
  constructor
  · exact h.bk.pure 4 (by decide)
  · intro e; rw [setB_ne (by decide)] at e; exact h.f0 e
  · intro e; rw [setB_ne (by decide)] at e; exact h.f1 e
  · intro e; rw [setB_ne (by decide)] at e; exact h.f2 e
  · intro e; rw [setB_ne (by decide)] at e; exact h.f3 e
  · intro _; rfl
  · intro e; rw [setB_ne (by decide)] at e; exact h.f5 e
  · intro e; rw [setB_ne (by decide)] at e; exact h.f6 e
  · intro e; rw [setB_ne (by decide)] at e; exact h.f7 e
  · intro e; rw [setB_ne (by decide)] at e; exact h.f8 e
  · intro e; rw [setB_ne (by decide)] at e; exact h.f9 e
  · intro e; rw [setB_ne (by decide)] at e; exact h.f10 e
  · intro e; rw [setB_ne (by decide)] at e; exact h.f11 e
  · intro e; rw [setB_ne (by decide)] at e; exact h.f12 e
  · intro e; rw [setB_ne (by decide)] at e; exact h.f13 e
  · intro e; rw [setB_ne (by decide)] at e; exact h.f14 e
  · intro e; rw [setB_ne (by decide)] at e; exact h.f15 e
  · intro e; rw [setB_ne (by decide)] at e; exact h.f16 e
  · intro e; rw [setB_ne (by decide)] at e; exact h.f17 e
  · intro e; rw [setB_ne (by decide)] at e; exact h.f18 e
  · intro e; rw [setB_ne (by decide)] at e; exact h.m2 e
  · intro e; rw [setB_ne (by decide)] at e; exact h.m8 e
  · intro e; rw [setB_ne (by decide)] at e; exact h.m14 e
  · intro e; rw [setB_ne (by decide)] at e; rw [setB_ne (by decide)]; exact h.m16 e
  · intro e; rw [setB_ne (by decide)] at e; rw [setB_ne (by decide)]; exact h.m17 e
  · intro e; rw [setB_ne (by decide)] at e; rw [setB_ne (by decide)]; exact h.m18 e
  · intro e; rw [setB_ne (by decide)] at e; have hu := h.s19 e; exact ⟨setB_keep hu.1, setB_keep hu.2.1, setB_keep hu.2.2⟩
  · intro e; rw [setB_ne (by decide)] at e; have hu := h.s20 e; exact ⟨setB_keep hu.1, setB_keep hu.2.1, setB_keep hu.2.2⟩
  · intro e; rw [setB_ne (by decide)] at e; have hu := h.s21 e; exact ⟨setB_keep hu.1, setB_keep hu.2.1, setB_keep hu.2.2⟩
  · intro e; rw [setB_ne (by decide)] at e; have hu := h.u3 e; exact setB_keep hu
  · intro e; rw [setB_ne (by decide)] at e; have hu := h.u9 e; exact setB_keep hu
  · intro e; rw [setB_ne (by decide)] at e; have hu := h.u15 e; exact setB_keep hu
set_option maxHeartbeats 1000000 in
theorem jfJ.op5 {k kc k1 k2 : ByteArray} {B : Nat} {w0 w : World} {l : Array Bool} {v0 v1 v2 v3 v4 v5 v6 v7 v8 v9 v10 v11 v12 v13 v14 v15 v16 v17 v18 : Value} {r : Nat → Nat} (h : jfJ k kc k1 k2 B w0 l v0 v1 v2 v3 v4 v5 v6 v7 v8 v9 v10 v11 v12 v13 v14 v15 v16 v17 v18 r w) : jfJ k kc k1 k2 B w0 (l.setIfInBounds 5 true) v0 v1 v2 v3 v4 (Value.string k) v6 v7 v8 v9 v10 v11 v12 v13 v14 v15 v16 v17 v18 r w := by
  constructor
  · exact h.bk.pure 5 (by decide)
  · intro e; rw [setB_ne (by decide)] at e; exact h.f0 e
  · intro e; rw [setB_ne (by decide)] at e; exact h.f1 e
  · intro e; rw [setB_ne (by decide)] at e; exact h.f2 e
  · intro e; rw [setB_ne (by decide)] at e; exact h.f3 e
  · intro e; rw [setB_ne (by decide)] at e; exact h.f4 e
  · intro _; rfl
  · intro e; rw [setB_ne (by decide)] at e; exact h.f6 e
  · intro e; rw [setB_ne (by decide)] at e; exact h.f7 e
  · intro e; rw [setB_ne (by decide)] at e; exact h.f8 e
  · intro e; rw [setB_ne (by decide)] at e; exact h.f9 e
  · intro e; rw [setB_ne (by decide)] at e; exact h.f10 e
  · intro e; rw [setB_ne (by decide)] at e; exact h.f11 e
  · intro e; rw [setB_ne (by decide)] at e; exact h.f12 e
  · intro e; rw [setB_ne (by decide)] at e; exact h.f13 e
  · intro e; rw [setB_ne (by decide)] at e; exact h.f14 e
  · intro e; rw [setB_ne (by decide)] at e; exact h.f15 e
  · intro e; rw [setB_ne (by decide)] at e; exact h.f16 e
  · intro e; rw [setB_ne (by decide)] at e; exact h.f17 e
  · intro e; rw [setB_ne (by decide)] at e; exact h.f18 e
  · intro e; rw [setB_ne (by decide)] at e; exact h.m2 e
  · intro e; rw [setB_ne (by decide)] at e; exact h.m8 e
  · intro e; rw [setB_ne (by decide)] at e; exact h.m14 e
  · intro e; rw [setB_ne (by decide)] at e; rw [setB_ne (by decide)]; exact h.m16 e
  · intro e; rw [setB_ne (by decide)] at e; rw [setB_ne (by decide)]; exact h.m17 e
  · intro e; rw [setB_ne (by decide)] at e; rw [setB_ne (by decide)]; exact h.m18 e
  · intro e; rw [setB_ne (by decide)] at e; have hu := h.s19 e; exact ⟨setB_keep hu.1, setB_keep hu.2.1, setB_keep hu.2.2⟩
  · intro e; rw [setB_ne (by decide)] at e; have hu := h.s20 e; exact ⟨setB_keep hu.1, setB_keep hu.2.1, setB_keep hu.2.2⟩
  · intro e; rw [setB_ne (by decide)] at e; have hu := h.s21 e; exact ⟨setB_keep hu.1, setB_keep hu.2.1, setB_keep hu.2.2⟩
  · intro e; rw [setB_ne (by decide)] at e; have hu := h.u3 e; exact setB_keep hu
  · intro e; rw [setB_ne (by decide)] at e; have hu := h.u9 e; exact setB_keep hu
  · intro e; rw [setB_ne (by decide)] at e; have hu := h.u15 e; exact setB_keep hu
set_option maxHeartbeats 1000000 in
theorem jfJ.op6 {k kc k1 k2 : ByteArray} {B : Nat} {w0 w : World} {l : Array Bool} {v0 v1 v2 v3 v4 v5 v6 v7 v8 v9 v10 v11 v12 v13 v14 v15 v16 v17 v18 : Value} {r : Nat → Nat} (h : jfJ k kc k1 k2 B w0 l v0 v1 v2 v3 v4 v5 v6 v7 v8 v9 v10 v11 v12 v13 v14 v15 v16 v17 v18 r w) (d5 : l.getD 5 false = true) : jfJ k kc k1 k2 B w0 (l.setIfInBounds 6 true) v0 v1 v2 v3 v4 v5 (Value.string kc) v7 v8 v9 v10 v11 v12 v13 v14 v15 v16 v17 v18 r w := by
  constructor
  · exact h.bk.pure 6 (by decide)
  · intro e; rw [setB_ne (by decide)] at e; exact h.f0 e
  · intro e; rw [setB_ne (by decide)] at e; exact h.f1 e
  · intro e; rw [setB_ne (by decide)] at e; exact h.f2 e
  · intro e; rw [setB_ne (by decide)] at e; exact h.f3 e
  · intro e; rw [setB_ne (by decide)] at e; exact h.f4 e
  · intro e; rw [setB_ne (by decide)] at e; exact h.f5 e
  · intro _; rfl
  · intro e; rw [setB_ne (by decide)] at e; exact h.f7 e
  · intro e; rw [setB_ne (by decide)] at e; exact h.f8 e
  · intro e; rw [setB_ne (by decide)] at e; exact h.f9 e
  · intro e; rw [setB_ne (by decide)] at e; exact h.f10 e
  · intro e; rw [setB_ne (by decide)] at e; exact h.f11 e
  · intro e; rw [setB_ne (by decide)] at e; exact h.f12 e
  · intro e; rw [setB_ne (by decide)] at e; exact h.f13 e
  · intro e; rw [setB_ne (by decide)] at e; exact h.f14 e
  · intro e; rw [setB_ne (by decide)] at e; exact h.f15 e
  · intro e; rw [setB_ne (by decide)] at e; exact h.f16 e
  · intro e; rw [setB_ne (by decide)] at e; exact h.f17 e
  · intro e; rw [setB_ne (by decide)] at e; exact h.f18 e
  · intro e; rw [setB_ne (by decide)] at e; exact h.m2 e
  · intro e; rw [setB_ne (by decide)] at e; exact h.m8 e
  · intro e; rw [setB_ne (by decide)] at e; exact h.m14 e
  · intro e; rw [setB_ne (by decide)] at e; rw [setB_ne (by decide)]; exact h.m16 e
  · intro e; rw [setB_ne (by decide)] at e; rw [setB_ne (by decide)]; exact h.m17 e
  · intro e; rw [setB_ne (by decide)] at e; rw [setB_ne (by decide)]; exact h.m18 e
  · intro e; rw [setB_ne (by decide)] at e; have hu := h.s19 e; exact ⟨setB_keep hu.1, setB_keep hu.2.1, setB_keep hu.2.2⟩
  · intro e; rw [setB_ne (by decide)] at e; have hu := h.s20 e; exact ⟨setB_keep hu.1, setB_keep hu.2.1, setB_keep hu.2.2⟩
  · intro e; rw [setB_ne (by decide)] at e; have hu := h.s21 e; exact ⟨setB_keep hu.1, setB_keep hu.2.1, setB_keep hu.2.2⟩
  · intro e; rw [setB_ne (by decide)] at e; have hu := h.u3 e; exact setB_keep hu
  · intro e; rw [setB_ne (by decide)] at e; have hu := h.u9 e; exact setB_keep hu
  · intro e; rw [setB_ne (by decide)] at e; have hu := h.u15 e; exact setB_keep hu
set_option maxHeartbeats 1000000 in
theorem jfJ.op7 {k kc k1 k2 : ByteArray} {B : Nat} {w0 w : World} {l : Array Bool} {v0 v1 v2 v3 v4 v5 v6 v7 v8 v9 v10 v11 v12 v13 v14 v15 v16 v17 v18 : Value} {r : Nat → Nat} (h : jfJ k kc k1 k2 B w0 l v0 v1 v2 v3 v4 v5 v6 v7 v8 v9 v10 v11 v12 v13 v14 v15 v16 v17 v18 r w) (d6 : l.getD 6 false = true) : jfJ k kc k1 k2 B w0 (l.setIfInBounds 7 true) v0 v1 v2 v3 v4 v5 v6 (Value.string k1) v8 v9 v10 v11 v12 v13 v14 v15 v16 v17 v18 r w := by
  constructor
  · exact h.bk.pure 7 (by decide)
  · intro e; rw [setB_ne (by decide)] at e; exact h.f0 e
  · intro e; rw [setB_ne (by decide)] at e; exact h.f1 e
  · intro e; rw [setB_ne (by decide)] at e; exact h.f2 e
  · intro e; rw [setB_ne (by decide)] at e; exact h.f3 e
  · intro e; rw [setB_ne (by decide)] at e; exact h.f4 e
  · intro e; rw [setB_ne (by decide)] at e; exact h.f5 e
  · intro e; rw [setB_ne (by decide)] at e; exact h.f6 e
  · intro _; rfl
  · intro e; rw [setB_ne (by decide)] at e; exact h.f8 e
  · intro e; rw [setB_ne (by decide)] at e; exact h.f9 e
  · intro e; rw [setB_ne (by decide)] at e; exact h.f10 e
  · intro e; rw [setB_ne (by decide)] at e; exact h.f11 e
  · intro e; rw [setB_ne (by decide)] at e; exact h.f12 e
  · intro e; rw [setB_ne (by decide)] at e; exact h.f13 e
  · intro e; rw [setB_ne (by decide)] at e; exact h.f14 e
  · intro e; rw [setB_ne (by decide)] at e; exact h.f15 e
  · intro e; rw [setB_ne (by decide)] at e; exact h.f16 e
  · intro e; rw [setB_ne (by decide)] at e; exact h.f17 e
  · intro e; rw [setB_ne (by decide)] at e; exact h.f18 e
  · intro e; rw [setB_ne (by decide)] at e; exact h.m2 e
  · intro e; rw [setB_ne (by decide)] at e; exact h.m8 e
  · intro e; rw [setB_ne (by decide)] at e; exact h.m14 e
  · intro e; rw [setB_ne (by decide)] at e; rw [setB_ne (by decide)]; exact h.m16 e
  · intro e; rw [setB_ne (by decide)] at e; rw [setB_ne (by decide)]; exact h.m17 e
  · intro e; rw [setB_ne (by decide)] at e; rw [setB_ne (by decide)]; exact h.m18 e
  · intro e; rw [setB_ne (by decide)] at e; have hu := h.s19 e; exact ⟨setB_keep hu.1, setB_keep hu.2.1, setB_keep hu.2.2⟩
  · intro e; rw [setB_ne (by decide)] at e; have hu := h.s20 e; exact ⟨setB_keep hu.1, setB_keep hu.2.1, setB_keep hu.2.2⟩
  · intro e; rw [setB_ne (by decide)] at e; have hu := h.s21 e; exact ⟨setB_keep hu.1, setB_keep hu.2.1, setB_keep hu.2.2⟩
  · intro e; rw [setB_ne (by decide)] at e; have hu := h.u3 e; exact setB_keep hu
  · intro e; rw [setB_ne (by decide)] at e; have hu := h.u9 e; exact setB_keep hu
  · intro e; rw [setB_ne (by decide)] at e; have hu := h.u15 e; exact setB_keep hu
set_option maxHeartbeats 1000000 in
theorem jfJ.op8 {k kc k1 k2 : ByteArray} {B : Nat} {w0 w : World} {l : Array Bool} {v0 v1 v2 v3 v4 v5 v6 v7 v8 v9 v10 v11 v12 v13 v14 v15 v16 v17 v18 : Value} {r : Nat → Nat} (h : jfJ k kc k1 k2 B w0 l v0 v1 v2 v3 v4 v5 v6 v7 v8 v9 v10 v11 v12 v13 v14 v15 v16 v17 v18 r w) (h0 : l.getD 8 false = false) (d7 : l.getD 7 false = true) : jfJ k kc k1 k2 B w0 (l.setIfInBounds 8 true) v0 v1 v2 v3 v4 v5 v6 v7 (Value.slice (some ⟨w.heap.size, 0, Option.none⟩) 1 1) v9 v10 v11 v12 v13 v14 v15 v16 v17 v18 (rup r 8 w.heap.size) (w.alloc (.cells #[Value.string k1] 9)) := by
  constructor
  · exact h.bk.lay 8 _
  · intro e; rw [setB_ne (by decide)] at e; exact h.f0 e
  · intro e; rw [setB_ne (by decide)] at e; exact h.f1 e
  · intro e; rw [setB_ne (by decide)] at e; exact h.f2 e
  · intro e; rw [setB_ne (by decide)] at e; exact h.f3 e
  · intro e; rw [setB_ne (by decide)] at e; exact h.f4 e
  · intro e; rw [setB_ne (by decide)] at e; exact h.f5 e
  · intro e; rw [setB_ne (by decide)] at e; exact h.f6 e
  · intro e; rw [setB_ne (by decide)] at e; exact h.f7 e
  · intro _; show _ = _; simp [rup]
  · intro e; rw [setB_ne (by decide)] at e; have hu := h.u9 e; simp only [h0, Bool.false_eq_true, and_false, false_and] at hu
  · intro e; rw [setB_ne (by decide)] at e; exact h.f10 e
  · intro e; rw [setB_ne (by decide)] at e; exact h.f11 e
  · intro e; rw [setB_ne (by decide)] at e; exact h.f12 e
  · intro e; rw [setB_ne (by decide)] at e; exact h.f13 e
  · intro e; rw [setB_ne (by decide)] at e; exact h.f14 e
  · intro e; rw [setB_ne (by decide)] at e; exact h.f15 e
  · intro e; rw [setB_ne (by decide)] at e; exact h.f16 e
  · intro e; rw [setB_ne (by decide)] at e; exact h.f17 e
  · intro e; rw [setB_ne (by decide)] at e; exact h.f18 e
  · intro e; rw [setB_ne (by decide)] at e; exact heap_lay (h.m2 e)
  · intro e; exact heap_new w _
  · intro e; rw [setB_ne (by decide)] at e; exact heap_lay (h.m14 e)
  · intro e; rw [setB_ne (by decide)] at e; rw [setB_ne (by decide)]; exact heap_lay (h.m16 e)
  · intro e; rw [setB_ne (by decide)] at e; have hm := heap_lay (ob' := .cells #[Value.string k1] 9) (h.m17 e); rw [setB_ne (by decide)]; cases hs : l.getD 20 false
    · rw [hs] at hm; exact hm
    · have := h.s20 hs; simp only [h0, Bool.false_eq_true, and_false, false_and] at this
  · intro e; rw [setB_ne (by decide)] at e; rw [setB_ne (by decide)]; exact heap_lay (h.m18 e)
  · intro e; rw [setB_ne (by decide)] at e; have hu := h.s19 e; exact ⟨setB_keep hu.1, setB_keep hu.2.1, setB_keep hu.2.2⟩
  · intro e; rw [setB_ne (by decide)] at e; have hu := h.s20 e; exact ⟨setB_keep hu.1, setB_keep hu.2.1, setB_keep hu.2.2⟩
  · intro e; rw [setB_ne (by decide)] at e; have hu := h.s21 e; exact ⟨setB_keep hu.1, setB_keep hu.2.1, setB_keep hu.2.2⟩
  · intro e; rw [setB_ne (by decide)] at e; have hu := h.u3 e; exact setB_keep hu
  · intro e; rw [setB_ne (by decide)] at e; have hu := h.u9 e; exact setB_keep hu
  · intro e; rw [setB_ne (by decide)] at e; have hu := h.u15 e; exact setB_keep hu
set_option maxHeartbeats 1000000 in
theorem jfJ.op9 {k kc k1 k2 : ByteArray} {B : Nat} {w0 w : World} {l : Array Bool} {v0 v1 v2 v3 v4 v5 v6 v7 v8 v9 v10 v11 v12 v13 v14 v15 v16 v17 v18 : Value} {r : Nat → Nat} (h : jfJ k kc k1 k2 B w0 l v0 v1 v2 v3 v4 v5 v6 v7 v8 v9 v10 v11 v12 v13 v14 v15 v16 v17 v18 r w) (d4 : l.getD 4 false = true) (d8 : l.getD 8 false = true) : jfJ k kc k1 k2 B w0 (l.setIfInBounds 9 true) v0 v1 v2 v3 v4 v5 v6 v7 v8 (ras 1 1 1 8 (some ⟨r 8, 0, Option.none⟩) 1 1) v10 v11 v12 v13 v14 v15 v16 v17 v18 r w := by
  constructor
  · exact h.bk.pure 9 (by decide)
  · intro e; rw [setB_ne (by decide)] at e; exact h.f0 e
  · intro e; rw [setB_ne (by decide)] at e; exact h.f1 e
  · intro e; rw [setB_ne (by decide)] at e; exact h.f2 e
  · intro e; rw [setB_ne (by decide)] at e; exact h.f3 e
  · intro e; rw [setB_ne (by decide)] at e; exact h.f4 e
  · intro e; rw [setB_ne (by decide)] at e; exact h.f5 e
  · intro e; rw [setB_ne (by decide)] at e; exact h.f6 e
  · intro e; rw [setB_ne (by decide)] at e; exact h.f7 e
  · intro e; rw [setB_ne (by decide)] at e; exact h.f8 e
  · intro _; rfl
  · intro e; rw [setB_ne (by decide)] at e; exact h.f10 e
  · intro e; rw [setB_ne (by decide)] at e; exact h.f11 e
  · intro e; rw [setB_ne (by decide)] at e; exact h.f12 e
  · intro e; rw [setB_ne (by decide)] at e; exact h.f13 e
  · intro e; rw [setB_ne (by decide)] at e; exact h.f14 e
  · intro e; rw [setB_ne (by decide)] at e; exact h.f15 e
  · intro e; rw [setB_ne (by decide)] at e; exact h.f16 e
  · intro e; rw [setB_ne (by decide)] at e; exact h.f17 e
  · intro e; rw [setB_ne (by decide)] at e; exact h.f18 e
  · intro e; rw [setB_ne (by decide)] at e; exact h.m2 e
  · intro e; rw [setB_ne (by decide)] at e; exact h.m8 e
  · intro e; rw [setB_ne (by decide)] at e; exact h.m14 e
  · intro e; rw [setB_ne (by decide)] at e; rw [setB_ne (by decide)]; exact h.m16 e
  · intro e; rw [setB_ne (by decide)] at e; rw [setB_ne (by decide)]; exact h.m17 e
  · intro e; rw [setB_ne (by decide)] at e; rw [setB_ne (by decide)]; exact h.m18 e
  · intro e; rw [setB_ne (by decide)] at e; have hu := h.s19 e; exact ⟨setB_keep hu.1, setB_keep hu.2.1, setB_keep hu.2.2⟩
  · intro e; rw [setB_ne (by decide)] at e; have hu := h.s20 e; exact ⟨setB_keep hu.1, setB_keep hu.2.1, setB_keep hu.2.2⟩
  · intro e; rw [setB_ne (by decide)] at e; have hu := h.s21 e; exact ⟨setB_keep hu.1, setB_keep hu.2.1, setB_keep hu.2.2⟩
  · intro e; rw [setB_ne (by decide)] at e; have hu := h.u3 e; exact setB_keep hu
  · intro _; rw [setB_ne (by decide)]; exact d8
  · intro e; rw [setB_ne (by decide)] at e; have hu := h.u15 e; exact setB_keep hu
set_option maxHeartbeats 1000000 in
theorem jfJ.op10 {k kc k1 k2 : ByteArray} {B : Nat} {w0 w : World} {l : Array Bool} {v0 v1 v2 v3 v4 v5 v6 v7 v8 v9 v10 v11 v12 v13 v14 v15 v16 v17 v18 : Value} {r : Nat → Nat} (h : jfJ k kc k1 k2 B w0 l v0 v1 v2 v3 v4 v5 v6 v7 v8 v9 v10 v11 v12 v13 v14 v15 v16 v17 v18 r w) : jfJ k kc k1 k2 B w0 (l.setIfInBounds 10 true) v0 v1 v2 v3 v4 v5 v6 v7 v8 v9 (Value.agg #[.int .i64 1, .int .i64 1, .int .i64 1, .int .i64 8]) v11 v12 v13 v14 v15 v16 v17 v18 r w := by
  constructor
  · exact h.bk.pure 10 (by decide)
  · intro e; rw [setB_ne (by decide)] at e; exact h.f0 e
  · intro e; rw [setB_ne (by decide)] at e; exact h.f1 e
  · intro e; rw [setB_ne (by decide)] at e; exact h.f2 e
  · intro e; rw [setB_ne (by decide)] at e; exact h.f3 e
  · intro e; rw [setB_ne (by decide)] at e; exact h.f4 e
  · intro e; rw [setB_ne (by decide)] at e; exact h.f5 e
  · intro e; rw [setB_ne (by decide)] at e; exact h.f6 e
  · intro e; rw [setB_ne (by decide)] at e; exact h.f7 e
  · intro e; rw [setB_ne (by decide)] at e; exact h.f8 e
  · intro e; rw [setB_ne (by decide)] at e; exact h.f9 e
  · intro _; rfl
  · intro e; rw [setB_ne (by decide)] at e; exact h.f11 e
  · intro e; rw [setB_ne (by decide)] at e; exact h.f12 e
  · intro e; rw [setB_ne (by decide)] at e; exact h.f13 e
  · intro e; rw [setB_ne (by decide)] at e; exact h.f14 e
  · intro e; rw [setB_ne (by decide)] at e; exact h.f15 e
  · intro e; rw [setB_ne (by decide)] at e; exact h.f16 e
  · intro e; rw [setB_ne (by decide)] at e; exact h.f17 e
  · intro e; rw [setB_ne (by decide)] at e; exact h.f18 e
  · intro e; rw [setB_ne (by decide)] at e; exact h.m2 e
  · intro e; rw [setB_ne (by decide)] at e; exact h.m8 e
  · intro e; rw [setB_ne (by decide)] at e; exact h.m14 e
  · intro e; rw [setB_ne (by decide)] at e; rw [setB_ne (by decide)]; exact h.m16 e
  · intro e; rw [setB_ne (by decide)] at e; rw [setB_ne (by decide)]; exact h.m17 e
  · intro e; rw [setB_ne (by decide)] at e; rw [setB_ne (by decide)]; exact h.m18 e
  · intro e; rw [setB_ne (by decide)] at e; have hu := h.s19 e; exact ⟨setB_keep hu.1, setB_keep hu.2.1, setB_keep hu.2.2⟩
  · intro e; rw [setB_ne (by decide)] at e; have hu := h.s20 e; exact ⟨setB_keep hu.1, setB_keep hu.2.1, setB_keep hu.2.2⟩
  · intro e; rw [setB_ne (by decide)] at e; have hu := h.s21 e; exact ⟨setB_keep hu.1, setB_keep hu.2.1, setB_keep hu.2.2⟩
  · intro e; rw [setB_ne (by decide)] at e; have hu := h.u3 e; exact setB_keep hu
  · intro e; rw [setB_ne (by decide)] at e; have hu := h.u9 e; exact setB_keep hu
  · intro e; rw [setB_ne (by decide)] at e; have hu := h.u15 e; exact setB_keep hu
set_option maxHeartbeats 1000000 in
theorem jfJ.op11 {k kc k1 k2 : ByteArray} {B : Nat} {w0 w : World} {l : Array Bool} {v0 v1 v2 v3 v4 v5 v6 v7 v8 v9 v10 v11 v12 v13 v14 v15 v16 v17 v18 : Value} {r : Nat → Nat} (h : jfJ k kc k1 k2 B w0 l v0 v1 v2 v3 v4 v5 v6 v7 v8 v9 v10 v11 v12 v13 v14 v15 v16 v17 v18 r w) : jfJ k kc k1 k2 B w0 (l.setIfInBounds 11 true) v0 v1 v2 v3 v4 v5 v6 v7 v8 v9 v10 (Value.string k) v12 v13 v14 v15 v16 v17 v18 r w := by
  constructor
  · exact h.bk.pure 11 (by decide)
  · intro e; rw [setB_ne (by decide)] at e; exact h.f0 e
  · intro e; rw [setB_ne (by decide)] at e; exact h.f1 e
  · intro e; rw [setB_ne (by decide)] at e; exact h.f2 e
  · intro e; rw [setB_ne (by decide)] at e; exact h.f3 e
  · intro e; rw [setB_ne (by decide)] at e; exact h.f4 e
  · intro e; rw [setB_ne (by decide)] at e; exact h.f5 e
  · intro e; rw [setB_ne (by decide)] at e; exact h.f6 e
  · intro e; rw [setB_ne (by decide)] at e; exact h.f7 e
  · intro e; rw [setB_ne (by decide)] at e; exact h.f8 e
  · intro e; rw [setB_ne (by decide)] at e; exact h.f9 e
  · intro e; rw [setB_ne (by decide)] at e; exact h.f10 e
  · intro _; rfl
  · intro e; rw [setB_ne (by decide)] at e; exact h.f12 e
  · intro e; rw [setB_ne (by decide)] at e; exact h.f13 e
  · intro e; rw [setB_ne (by decide)] at e; exact h.f14 e
  · intro e; rw [setB_ne (by decide)] at e; exact h.f15 e
  · intro e; rw [setB_ne (by decide)] at e; exact h.f16 e
  · intro e; rw [setB_ne (by decide)] at e; exact h.f17 e
  · intro e; rw [setB_ne (by decide)] at e; exact h.f18 e
  · intro e; rw [setB_ne (by decide)] at e; exact h.m2 e
  · intro e; rw [setB_ne (by decide)] at e; exact h.m8 e
  · intro e; rw [setB_ne (by decide)] at e; exact h.m14 e
  · intro e; rw [setB_ne (by decide)] at e; rw [setB_ne (by decide)]; exact h.m16 e
  · intro e; rw [setB_ne (by decide)] at e; rw [setB_ne (by decide)]; exact h.m17 e
  · intro e; rw [setB_ne (by decide)] at e; rw [setB_ne (by decide)]; exact h.m18 e
  · intro e; rw [setB_ne (by decide)] at e; have hu := h.s19 e; exact ⟨setB_keep hu.1, setB_keep hu.2.1, setB_keep hu.2.2⟩
  · intro e; rw [setB_ne (by decide)] at e; have hu := h.s20 e; exact ⟨setB_keep hu.1, setB_keep hu.2.1, setB_keep hu.2.2⟩
  · intro e; rw [setB_ne (by decide)] at e; have hu := h.s21 e; exact ⟨setB_keep hu.1, setB_keep hu.2.1, setB_keep hu.2.2⟩
  · intro e; rw [setB_ne (by decide)] at e; have hu := h.u3 e; exact setB_keep hu
  · intro e; rw [setB_ne (by decide)] at e; have hu := h.u9 e; exact setB_keep hu
  · intro e; rw [setB_ne (by decide)] at e; have hu := h.u15 e; exact setB_keep hu
set_option maxHeartbeats 1000000 in
theorem jfJ.op12 {k kc k1 k2 : ByteArray} {B : Nat} {w0 w : World} {l : Array Bool} {v0 v1 v2 v3 v4 v5 v6 v7 v8 v9 v10 v11 v12 v13 v14 v15 v16 v17 v18 : Value} {r : Nat → Nat} (h : jfJ k kc k1 k2 B w0 l v0 v1 v2 v3 v4 v5 v6 v7 v8 v9 v10 v11 v12 v13 v14 v15 v16 v17 v18 r w) (d11 : l.getD 11 false = true) : jfJ k kc k1 k2 B w0 (l.setIfInBounds 12 true) v0 v1 v2 v3 v4 v5 v6 v7 v8 v9 v10 v11 (Value.string kc) v13 v14 v15 v16 v17 v18 r w := by
  constructor
  · exact h.bk.pure 12 (by decide)
  · intro e; rw [setB_ne (by decide)] at e; exact h.f0 e
  · intro e; rw [setB_ne (by decide)] at e; exact h.f1 e
  · intro e; rw [setB_ne (by decide)] at e; exact h.f2 e
  · intro e; rw [setB_ne (by decide)] at e; exact h.f3 e
  · intro e; rw [setB_ne (by decide)] at e; exact h.f4 e
  · intro e; rw [setB_ne (by decide)] at e; exact h.f5 e
  · intro e; rw [setB_ne (by decide)] at e; exact h.f6 e
  · intro e; rw [setB_ne (by decide)] at e; exact h.f7 e
  · intro e; rw [setB_ne (by decide)] at e; exact h.f8 e
  · intro e; rw [setB_ne (by decide)] at e; exact h.f9 e
  · intro e; rw [setB_ne (by decide)] at e; exact h.f10 e
  · intro e; rw [setB_ne (by decide)] at e; exact h.f11 e
  · intro _; rfl
  · intro e; rw [setB_ne (by decide)] at e; exact h.f13 e
  · intro e; rw [setB_ne (by decide)] at e; exact h.f14 e
  · intro e; rw [setB_ne (by decide)] at e; exact h.f15 e
  · intro e; rw [setB_ne (by decide)] at e; exact h.f16 e
  · intro e; rw [setB_ne (by decide)] at e; exact h.f17 e
  · intro e; rw [setB_ne (by decide)] at e; exact h.f18 e
  · intro e; rw [setB_ne (by decide)] at e; exact h.m2 e
  · intro e; rw [setB_ne (by decide)] at e; exact h.m8 e
  · intro e; rw [setB_ne (by decide)] at e; exact h.m14 e
  · intro e; rw [setB_ne (by decide)] at e; rw [setB_ne (by decide)]; exact h.m16 e
  · intro e; rw [setB_ne (by decide)] at e; rw [setB_ne (by decide)]; exact h.m17 e
  · intro e; rw [setB_ne (by decide)] at e; rw [setB_ne (by decide)]; exact h.m18 e
  · intro e; rw [setB_ne (by decide)] at e; have hu := h.s19 e; exact ⟨setB_keep hu.1, setB_keep hu.2.1, setB_keep hu.2.2⟩
  · intro e; rw [setB_ne (by decide)] at e; have hu := h.s20 e; exact ⟨setB_keep hu.1, setB_keep hu.2.1, setB_keep hu.2.2⟩
  · intro e; rw [setB_ne (by decide)] at e; have hu := h.s21 e; exact ⟨setB_keep hu.1, setB_keep hu.2.1, setB_keep hu.2.2⟩
  · intro e; rw [setB_ne (by decide)] at e; have hu := h.u3 e; exact setB_keep hu
  · intro e; rw [setB_ne (by decide)] at e; have hu := h.u9 e; exact setB_keep hu
  · intro e; rw [setB_ne (by decide)] at e; have hu := h.u15 e; exact setB_keep hu
set_option maxHeartbeats 1000000 in
theorem jfJ.op13 {k kc k1 k2 : ByteArray} {B : Nat} {w0 w : World} {l : Array Bool} {v0 v1 v2 v3 v4 v5 v6 v7 v8 v9 v10 v11 v12 v13 v14 v15 v16 v17 v18 : Value} {r : Nat → Nat} (h : jfJ k kc k1 k2 B w0 l v0 v1 v2 v3 v4 v5 v6 v7 v8 v9 v10 v11 v12 v13 v14 v15 v16 v17 v18 r w) (d12 : l.getD 12 false = true) : jfJ k kc k1 k2 B w0 (l.setIfInBounds 13 true) v0 v1 v2 v3 v4 v5 v6 v7 v8 v9 v10 v11 v12 (Value.string k2) v14 v15 v16 v17 v18 r w := by
  constructor
  · exact h.bk.pure 13 (by decide)
  · intro e; rw [setB_ne (by decide)] at e; exact h.f0 e
  · intro e; rw [setB_ne (by decide)] at e; exact h.f1 e
  · intro e; rw [setB_ne (by decide)] at e; exact h.f2 e
  · intro e; rw [setB_ne (by decide)] at e; exact h.f3 e
  · intro e; rw [setB_ne (by decide)] at e; exact h.f4 e
  · intro e; rw [setB_ne (by decide)] at e; exact h.f5 e
  · intro e; rw [setB_ne (by decide)] at e; exact h.f6 e
  · intro e; rw [setB_ne (by decide)] at e; exact h.f7 e
  · intro e; rw [setB_ne (by decide)] at e; exact h.f8 e
  · intro e; rw [setB_ne (by decide)] at e; exact h.f9 e
  · intro e; rw [setB_ne (by decide)] at e; exact h.f10 e
  · intro e; rw [setB_ne (by decide)] at e; exact h.f11 e
  · intro e; rw [setB_ne (by decide)] at e; exact h.f12 e
  · intro _; rfl
  · intro e; rw [setB_ne (by decide)] at e; exact h.f14 e
  · intro e; rw [setB_ne (by decide)] at e; exact h.f15 e
  · intro e; rw [setB_ne (by decide)] at e; exact h.f16 e
  · intro e; rw [setB_ne (by decide)] at e; exact h.f17 e
  · intro e; rw [setB_ne (by decide)] at e; exact h.f18 e
  · intro e; rw [setB_ne (by decide)] at e; exact h.m2 e
  · intro e; rw [setB_ne (by decide)] at e; exact h.m8 e
  · intro e; rw [setB_ne (by decide)] at e; exact h.m14 e
  · intro e; rw [setB_ne (by decide)] at e; rw [setB_ne (by decide)]; exact h.m16 e
  · intro e; rw [setB_ne (by decide)] at e; rw [setB_ne (by decide)]; exact h.m17 e
  · intro e; rw [setB_ne (by decide)] at e; rw [setB_ne (by decide)]; exact h.m18 e
  · intro e; rw [setB_ne (by decide)] at e; have hu := h.s19 e; exact ⟨setB_keep hu.1, setB_keep hu.2.1, setB_keep hu.2.2⟩
  · intro e; rw [setB_ne (by decide)] at e; have hu := h.s20 e; exact ⟨setB_keep hu.1, setB_keep hu.2.1, setB_keep hu.2.2⟩
  · intro e; rw [setB_ne (by decide)] at e; have hu := h.s21 e; exact ⟨setB_keep hu.1, setB_keep hu.2.1, setB_keep hu.2.2⟩
  · intro e; rw [setB_ne (by decide)] at e; have hu := h.u3 e; exact setB_keep hu
  · intro e; rw [setB_ne (by decide)] at e; have hu := h.u9 e; exact setB_keep hu
  · intro e; rw [setB_ne (by decide)] at e; have hu := h.u15 e; exact setB_keep hu
set_option maxHeartbeats 1000000 in
theorem jfJ.op14 {k kc k1 k2 : ByteArray} {B : Nat} {w0 w : World} {l : Array Bool} {v0 v1 v2 v3 v4 v5 v6 v7 v8 v9 v10 v11 v12 v13 v14 v15 v16 v17 v18 : Value} {r : Nat → Nat} (h : jfJ k kc k1 k2 B w0 l v0 v1 v2 v3 v4 v5 v6 v7 v8 v9 v10 v11 v12 v13 v14 v15 v16 v17 v18 r w) (h0 : l.getD 14 false = false) (d13 : l.getD 13 false = true) : jfJ k kc k1 k2 B w0 (l.setIfInBounds 14 true) v0 v1 v2 v3 v4 v5 v6 v7 v8 v9 v10 v11 v12 v13 (Value.slice (some ⟨w.heap.size, 0, Option.none⟩) 1 1) v15 v16 v17 v18 (rup r 14 w.heap.size) (w.alloc (.cells #[Value.string k2] 9)) := by
  constructor
  · exact h.bk.lay 14 _
  · intro e; rw [setB_ne (by decide)] at e; exact h.f0 e
  · intro e; rw [setB_ne (by decide)] at e; exact h.f1 e
  · intro e; rw [setB_ne (by decide)] at e; exact h.f2 e
  · intro e; rw [setB_ne (by decide)] at e; exact h.f3 e
  · intro e; rw [setB_ne (by decide)] at e; exact h.f4 e
  · intro e; rw [setB_ne (by decide)] at e; exact h.f5 e
  · intro e; rw [setB_ne (by decide)] at e; exact h.f6 e
  · intro e; rw [setB_ne (by decide)] at e; exact h.f7 e
  · intro e; rw [setB_ne (by decide)] at e; exact h.f8 e
  · intro e; rw [setB_ne (by decide)] at e; exact h.f9 e
  · intro e; rw [setB_ne (by decide)] at e; exact h.f10 e
  · intro e; rw [setB_ne (by decide)] at e; exact h.f11 e
  · intro e; rw [setB_ne (by decide)] at e; exact h.f12 e
  · intro e; rw [setB_ne (by decide)] at e; exact h.f13 e
  · intro _; show _ = _; simp [rup]
  · intro e; rw [setB_ne (by decide)] at e; have hu := h.u15 e; simp only [h0, Bool.false_eq_true, and_false, false_and] at hu
  · intro e; rw [setB_ne (by decide)] at e; exact h.f16 e
  · intro e; rw [setB_ne (by decide)] at e; exact h.f17 e
  · intro e; rw [setB_ne (by decide)] at e; exact h.f18 e
  · intro e; rw [setB_ne (by decide)] at e; exact heap_lay (h.m2 e)
  · intro e; rw [setB_ne (by decide)] at e; exact heap_lay (h.m8 e)
  · intro e; exact heap_new w _
  · intro e; rw [setB_ne (by decide)] at e; rw [setB_ne (by decide)]; exact heap_lay (h.m16 e)
  · intro e; rw [setB_ne (by decide)] at e; rw [setB_ne (by decide)]; exact heap_lay (h.m17 e)
  · intro e; rw [setB_ne (by decide)] at e; have hm := heap_lay (ob' := .cells #[Value.string k2] 9) (h.m18 e); rw [setB_ne (by decide)]; cases hs : l.getD 21 false
    · rw [hs] at hm; exact hm
    · have := h.s21 hs; simp only [h0, Bool.false_eq_true, and_false, false_and] at this
  · intro e; rw [setB_ne (by decide)] at e; have hu := h.s19 e; exact ⟨setB_keep hu.1, setB_keep hu.2.1, setB_keep hu.2.2⟩
  · intro e; rw [setB_ne (by decide)] at e; have hu := h.s20 e; exact ⟨setB_keep hu.1, setB_keep hu.2.1, setB_keep hu.2.2⟩
  · intro e; rw [setB_ne (by decide)] at e; have hu := h.s21 e; exact ⟨setB_keep hu.1, setB_keep hu.2.1, setB_keep hu.2.2⟩
  · intro e; rw [setB_ne (by decide)] at e; have hu := h.u3 e; exact setB_keep hu
  · intro e; rw [setB_ne (by decide)] at e; have hu := h.u9 e; exact setB_keep hu
  · intro e; rw [setB_ne (by decide)] at e; have hu := h.u15 e; exact setB_keep hu
set_option maxHeartbeats 1000000 in
theorem jfJ.op15 {k kc k1 k2 : ByteArray} {B : Nat} {w0 w : World} {l : Array Bool} {v0 v1 v2 v3 v4 v5 v6 v7 v8 v9 v10 v11 v12 v13 v14 v15 v16 v17 v18 : Value} {r : Nat → Nat} (h : jfJ k kc k1 k2 B w0 l v0 v1 v2 v3 v4 v5 v6 v7 v8 v9 v10 v11 v12 v13 v14 v15 v16 v17 v18 r w) (d10 : l.getD 10 false = true) (d14 : l.getD 14 false = true) : jfJ k kc k1 k2 B w0 (l.setIfInBounds 15 true) v0 v1 v2 v3 v4 v5 v6 v7 v8 v9 v10 v11 v12 v13 v14 (ras 1 1 1 8 (some ⟨r 14, 0, Option.none⟩) 1 1) v16 v17 v18 r w := by
  constructor
  · exact h.bk.pure 15 (by decide)
  · intro e; rw [setB_ne (by decide)] at e; exact h.f0 e
  · intro e; rw [setB_ne (by decide)] at e; exact h.f1 e
  · intro e; rw [setB_ne (by decide)] at e; exact h.f2 e
  · intro e; rw [setB_ne (by decide)] at e; exact h.f3 e
  · intro e; rw [setB_ne (by decide)] at e; exact h.f4 e
  · intro e; rw [setB_ne (by decide)] at e; exact h.f5 e
  · intro e; rw [setB_ne (by decide)] at e; exact h.f6 e
  · intro e; rw [setB_ne (by decide)] at e; exact h.f7 e
  · intro e; rw [setB_ne (by decide)] at e; exact h.f8 e
  · intro e; rw [setB_ne (by decide)] at e; exact h.f9 e
  · intro e; rw [setB_ne (by decide)] at e; exact h.f10 e
  · intro e; rw [setB_ne (by decide)] at e; exact h.f11 e
  · intro e; rw [setB_ne (by decide)] at e; exact h.f12 e
  · intro e; rw [setB_ne (by decide)] at e; exact h.f13 e
  · intro e; rw [setB_ne (by decide)] at e; exact h.f14 e
  · intro _; rfl
  · intro e; rw [setB_ne (by decide)] at e; exact h.f16 e
  · intro e; rw [setB_ne (by decide)] at e; exact h.f17 e
  · intro e; rw [setB_ne (by decide)] at e; exact h.f18 e
  · intro e; rw [setB_ne (by decide)] at e; exact h.m2 e
  · intro e; rw [setB_ne (by decide)] at e; exact h.m8 e
  · intro e; rw [setB_ne (by decide)] at e; exact h.m14 e
  · intro e; rw [setB_ne (by decide)] at e; rw [setB_ne (by decide)]; exact h.m16 e
  · intro e; rw [setB_ne (by decide)] at e; rw [setB_ne (by decide)]; exact h.m17 e
  · intro e; rw [setB_ne (by decide)] at e; rw [setB_ne (by decide)]; exact h.m18 e
  · intro e; rw [setB_ne (by decide)] at e; have hu := h.s19 e; exact ⟨setB_keep hu.1, setB_keep hu.2.1, setB_keep hu.2.2⟩
  · intro e; rw [setB_ne (by decide)] at e; have hu := h.s20 e; exact ⟨setB_keep hu.1, setB_keep hu.2.1, setB_keep hu.2.2⟩
  · intro e; rw [setB_ne (by decide)] at e; have hu := h.s21 e; exact ⟨setB_keep hu.1, setB_keep hu.2.1, setB_keep hu.2.2⟩
  · intro e; rw [setB_ne (by decide)] at e; have hu := h.u3 e; exact setB_keep hu
  · intro e; rw [setB_ne (by decide)] at e; have hu := h.u9 e; exact setB_keep hu
  · intro _; rw [setB_ne (by decide)]; exact d14
set_option maxHeartbeats 1000000 in
theorem jfJ.op16 {k kc k1 k2 : ByteArray} {B : Nat} {w0 w : World} {l : Array Bool} {v0 v1 v2 v3 v4 v5 v6 v7 v8 v9 v10 v11 v12 v13 v14 v15 v16 v17 v18 : Value} {r : Nat → Nat} (h : jfJ k kc k1 k2 B w0 l v0 v1 v2 v3 v4 v5 v6 v7 v8 v9 v10 v11 v12 v13 v14 v15 v16 v17 v18 r w) (h0 : l.getD 16 false = false) : jfJ k kc k1 k2 B w0 (l.setIfInBounds 16 true) v0 v1 v2 v3 v4 v5 v6 v7 v8 v9 v10 v11 v12 v13 v14 v15 (Value.pointer (some ⟨w.heap.size, 0, Option.none⟩)) v17 v18 (rup r 16 w.heap.size) (w.alloc (.cells nulC 26)) := by
  constructor
  · exact h.bk.lay 16 _
  · intro e; rw [setB_ne (by decide)] at e; exact h.f0 e
  · intro e; rw [setB_ne (by decide)] at e; exact h.f1 e
  · intro e; rw [setB_ne (by decide)] at e; exact h.f2 e
  · intro e; rw [setB_ne (by decide)] at e; exact h.f3 e
  · intro e; rw [setB_ne (by decide)] at e; exact h.f4 e
  · intro e; rw [setB_ne (by decide)] at e; exact h.f5 e
  · intro e; rw [setB_ne (by decide)] at e; exact h.f6 e
  · intro e; rw [setB_ne (by decide)] at e; exact h.f7 e
  · intro e; rw [setB_ne (by decide)] at e; exact h.f8 e
  · intro e; rw [setB_ne (by decide)] at e; exact h.f9 e
  · intro e; rw [setB_ne (by decide)] at e; exact h.f10 e
  · intro e; rw [setB_ne (by decide)] at e; exact h.f11 e
  · intro e; rw [setB_ne (by decide)] at e; exact h.f12 e
  · intro e; rw [setB_ne (by decide)] at e; exact h.f13 e
  · intro e; rw [setB_ne (by decide)] at e; exact h.f14 e
  · intro e; rw [setB_ne (by decide)] at e; exact h.f15 e
  · intro _; show _ = _; simp [rup]
  · intro e; rw [setB_ne (by decide)] at e; exact h.f17 e
  · intro e; rw [setB_ne (by decide)] at e; exact h.f18 e
  · intro e; rw [setB_ne (by decide)] at e; exact heap_lay (h.m2 e)
  · intro e; rw [setB_ne (by decide)] at e; exact heap_lay (h.m8 e)
  · intro e; rw [setB_ne (by decide)] at e; exact heap_lay (h.m14 e)
  · intro e; rw [setB_ne (by decide)]; cases hs : l.getD 19 false
    · show (w.alloc _).heap[w.heap.size]? = _; rw [heap_new]; simp
    · have := h.s19 hs; simp only [h0, Bool.false_eq_true, and_false, false_and] at this
  · intro e; rw [setB_ne (by decide)] at e; rw [setB_ne (by decide)]; exact heap_lay (h.m17 e)
  · intro e; rw [setB_ne (by decide)] at e; rw [setB_ne (by decide)]; exact heap_lay (h.m18 e)
  · intro e; rw [setB_ne (by decide)] at e; have hu := h.s19 e; exact ⟨setB_keep hu.1, setB_keep hu.2.1, setB_keep hu.2.2⟩
  · intro e; rw [setB_ne (by decide)] at e; have hu := h.s20 e; exact ⟨setB_keep hu.1, setB_keep hu.2.1, setB_keep hu.2.2⟩
  · intro e; rw [setB_ne (by decide)] at e; have hu := h.s21 e; exact ⟨setB_keep hu.1, setB_keep hu.2.1, setB_keep hu.2.2⟩
  · intro e; rw [setB_ne (by decide)] at e; have hu := h.u3 e; exact setB_keep hu
  · intro e; rw [setB_ne (by decide)] at e; have hu := h.u9 e; exact setB_keep hu
  · intro e; rw [setB_ne (by decide)] at e; have hu := h.u15 e; exact setB_keep hu
set_option maxHeartbeats 1000000 in
theorem jfJ.op17 {k kc k1 k2 : ByteArray} {B : Nat} {w0 w : World} {l : Array Bool} {v0 v1 v2 v3 v4 v5 v6 v7 v8 v9 v10 v11 v12 v13 v14 v15 v16 v17 v18 : Value} {r : Nat → Nat} (h : jfJ k kc k1 k2 B w0 l v0 v1 v2 v3 v4 v5 v6 v7 v8 v9 v10 v11 v12 v13 v14 v15 v16 v17 v18 r w) (h0 : l.getD 17 false = false) : jfJ k kc k1 k2 B w0 (l.setIfInBounds 17 true) v0 v1 v2 v3 v4 v5 v6 v7 v8 v9 v10 v11 v12 v13 v14 v15 v16 (Value.pointer (some ⟨w.heap.size, 0, Option.none⟩)) v18 (rup r 17 w.heap.size) (w.alloc (.cells nulC 26)) := by
  constructor
  · exact h.bk.lay 17 _
  · intro e; rw [setB_ne (by decide)] at e; exact h.f0 e
  · intro e; rw [setB_ne (by decide)] at e; exact h.f1 e
  · intro e; rw [setB_ne (by decide)] at e; exact h.f2 e
  · intro e; rw [setB_ne (by decide)] at e; exact h.f3 e
  · intro e; rw [setB_ne (by decide)] at e; exact h.f4 e
  · intro e; rw [setB_ne (by decide)] at e; exact h.f5 e
  · intro e; rw [setB_ne (by decide)] at e; exact h.f6 e
  · intro e; rw [setB_ne (by decide)] at e; exact h.f7 e
  · intro e; rw [setB_ne (by decide)] at e; exact h.f8 e
  · intro e; rw [setB_ne (by decide)] at e; exact h.f9 e
  · intro e; rw [setB_ne (by decide)] at e; exact h.f10 e
  · intro e; rw [setB_ne (by decide)] at e; exact h.f11 e
  · intro e; rw [setB_ne (by decide)] at e; exact h.f12 e
  · intro e; rw [setB_ne (by decide)] at e; exact h.f13 e
  · intro e; rw [setB_ne (by decide)] at e; exact h.f14 e
  · intro e; rw [setB_ne (by decide)] at e; exact h.f15 e
  · intro e; rw [setB_ne (by decide)] at e; exact h.f16 e
  · intro _; show _ = _; simp [rup]
  · intro e; rw [setB_ne (by decide)] at e; exact h.f18 e
  · intro e; rw [setB_ne (by decide)] at e; exact heap_lay (h.m2 e)
  · intro e; rw [setB_ne (by decide)] at e; exact heap_lay (h.m8 e)
  · intro e; rw [setB_ne (by decide)] at e; exact heap_lay (h.m14 e)
  · intro e; rw [setB_ne (by decide)] at e; rw [setB_ne (by decide)]; exact heap_lay (h.m16 e)
  · intro e; rw [setB_ne (by decide)]; cases hs : l.getD 20 false
    · show (w.alloc _).heap[w.heap.size]? = _; rw [heap_new]; simp
    · have := h.s20 hs; simp only [h0, Bool.false_eq_true, and_false, false_and] at this
  · intro e; rw [setB_ne (by decide)] at e; rw [setB_ne (by decide)]; exact heap_lay (h.m18 e)
  · intro e; rw [setB_ne (by decide)] at e; have hu := h.s19 e; exact ⟨setB_keep hu.1, setB_keep hu.2.1, setB_keep hu.2.2⟩
  · intro e; rw [setB_ne (by decide)] at e; have hu := h.s20 e; exact ⟨setB_keep hu.1, setB_keep hu.2.1, setB_keep hu.2.2⟩
  · intro e; rw [setB_ne (by decide)] at e; have hu := h.s21 e; exact ⟨setB_keep hu.1, setB_keep hu.2.1, setB_keep hu.2.2⟩
  · intro e; rw [setB_ne (by decide)] at e; have hu := h.u3 e; exact setB_keep hu
  · intro e; rw [setB_ne (by decide)] at e; have hu := h.u9 e; exact setB_keep hu
  · intro e; rw [setB_ne (by decide)] at e; have hu := h.u15 e; exact setB_keep hu
set_option maxHeartbeats 1000000 in
theorem jfJ.op18 {k kc k1 k2 : ByteArray} {B : Nat} {w0 w : World} {l : Array Bool} {v0 v1 v2 v3 v4 v5 v6 v7 v8 v9 v10 v11 v12 v13 v14 v15 v16 v17 v18 : Value} {r : Nat → Nat} (h : jfJ k kc k1 k2 B w0 l v0 v1 v2 v3 v4 v5 v6 v7 v8 v9 v10 v11 v12 v13 v14 v15 v16 v17 v18 r w) (h0 : l.getD 18 false = false) : jfJ k kc k1 k2 B w0 (l.setIfInBounds 18 true) v0 v1 v2 v3 v4 v5 v6 v7 v8 v9 v10 v11 v12 v13 v14 v15 v16 v17 (Value.pointer (some ⟨w.heap.size, 0, Option.none⟩)) (rup r 18 w.heap.size) (w.alloc (.cells nulC 26)) := by
  constructor
  · exact h.bk.lay 18 _
  · intro e; rw [setB_ne (by decide)] at e; exact h.f0 e
  · intro e; rw [setB_ne (by decide)] at e; exact h.f1 e
  · intro e; rw [setB_ne (by decide)] at e; exact h.f2 e
  · intro e; rw [setB_ne (by decide)] at e; exact h.f3 e
  · intro e; rw [setB_ne (by decide)] at e; exact h.f4 e
  · intro e; rw [setB_ne (by decide)] at e; exact h.f5 e
  · intro e; rw [setB_ne (by decide)] at e; exact h.f6 e
  · intro e; rw [setB_ne (by decide)] at e; exact h.f7 e
  · intro e; rw [setB_ne (by decide)] at e; exact h.f8 e
  · intro e; rw [setB_ne (by decide)] at e; exact h.f9 e
  · intro e; rw [setB_ne (by decide)] at e; exact h.f10 e
  · intro e; rw [setB_ne (by decide)] at e; exact h.f11 e
  · intro e; rw [setB_ne (by decide)] at e; exact h.f12 e
  · intro e; rw [setB_ne (by decide)] at e; exact h.f13 e
  · intro e; rw [setB_ne (by decide)] at e; exact h.f14 e
  · intro e; rw [setB_ne (by decide)] at e; exact h.f15 e
  · intro e; rw [setB_ne (by decide)] at e; exact h.f16 e
  · intro e; rw [setB_ne (by decide)] at e; exact h.f17 e
  · intro _; show _ = _; simp [rup]
  · intro e; rw [setB_ne (by decide)] at e; exact heap_lay (h.m2 e)
  · intro e; rw [setB_ne (by decide)] at e; exact heap_lay (h.m8 e)
  · intro e; rw [setB_ne (by decide)] at e; exact heap_lay (h.m14 e)
  · intro e; rw [setB_ne (by decide)] at e; rw [setB_ne (by decide)]; exact heap_lay (h.m16 e)
  · intro e; rw [setB_ne (by decide)] at e; rw [setB_ne (by decide)]; exact heap_lay (h.m17 e)
  · intro e; rw [setB_ne (by decide)]; cases hs : l.getD 21 false
    · show (w.alloc _).heap[w.heap.size]? = _; rw [heap_new]; simp
    · have := h.s21 hs; simp only [h0, Bool.false_eq_true, and_false, false_and] at this
  · intro e; rw [setB_ne (by decide)] at e; have hu := h.s19 e; exact ⟨setB_keep hu.1, setB_keep hu.2.1, setB_keep hu.2.2⟩
  · intro e; rw [setB_ne (by decide)] at e; have hu := h.s20 e; exact ⟨setB_keep hu.1, setB_keep hu.2.1, setB_keep hu.2.2⟩
  · intro e; rw [setB_ne (by decide)] at e; have hu := h.s21 e; exact ⟨setB_keep hu.1, setB_keep hu.2.1, setB_keep hu.2.2⟩
  · intro e; rw [setB_ne (by decide)] at e; have hu := h.u3 e; exact setB_keep hu
  · intro e; rw [setB_ne (by decide)] at e; have hu := h.u9 e; exact setB_keep hu
  · intro e; rw [setB_ne (by decide)] at e; have hu := h.u15 e; exact setB_keep hu
set_option maxHeartbeats 1000000 in
theorem jfJ.op19 {k kc k1 k2 : ByteArray} {B : Nat} {w0 w : World} {l : Array Bool} {v0 v1 v2 v3 v4 v5 v6 v7 v8 v9 v10 v11 v12 v13 v14 v15 v16 v17 v18 : Value} {r : Nat → Nat} (h : jfJ k kc k1 k2 B w0 l v0 v1 v2 v3 v4 v5 v6 v7 v8 v9 v10 v11 v12 v13 v14 v15 v16 v17 v18 r w) (hsz : l.size = 22) (h0 : l.getD 19 false = false) (d16 : l.getD 16 false = true) (d3 : l.getD 3 false = true) (d2 : l.getD 2 false = true) : jfJ k kc k1 k2 B w0 (l.setIfInBounds 19 true) v0 v1 v2 v3 v4 v5 v6 v7 v8 v9 v10 v11 v12 v13 v14 v15 v16 v17 v18 r (((((w.setCell ⟨r 16, 0, Option.none⟩ (.int .i64 1)).setCell ⟨r 16, 1, Option.none⟩ (.int .i64 1)).setCell ⟨r 16, 2, Option.none⟩ (.int .i64 1)).setCell ⟨r 16, 3, Option.none⟩ (.int .i64 8)).setCell ⟨r 16, 4, Option.none⟩ (.slice (some ⟨r 2, 0, Option.none⟩) 1 1)) := by
  have hlow := (h.bk.low 16 (by decide) d16).1
  constructor
  · exact h.bk.store 19 (by decide) (by simp) (h.bk.bel|>.setCell hlow _|>.setCell hlow _|>.setCell hlow _|>.setCell hlow _|>.setCell hlow _)
  · intro e; rw [setB_ne (by decide)] at e; exact h.f0 e
  · intro e; rw [setB_ne (by decide)] at e; exact h.f1 e
  · intro e; rw [setB_ne (by decide)] at e; exact h.f2 e
  · intro e; rw [setB_ne (by decide)] at e; exact h.f3 e
  · intro e; rw [setB_ne (by decide)] at e; exact h.f4 e
  · intro e; rw [setB_ne (by decide)] at e; exact h.f5 e
  · intro e; rw [setB_ne (by decide)] at e; exact h.f6 e
  · intro e; rw [setB_ne (by decide)] at e; exact h.f7 e
  · intro e; rw [setB_ne (by decide)] at e; exact h.f8 e
  · intro e; rw [setB_ne (by decide)] at e; exact h.f9 e
  · intro e; rw [setB_ne (by decide)] at e; exact h.f10 e
  · intro e; rw [setB_ne (by decide)] at e; exact h.f11 e
  · intro e; rw [setB_ne (by decide)] at e; exact h.f12 e
  · intro e; rw [setB_ne (by decide)] at e; exact h.f13 e
  · intro e; rw [setB_ne (by decide)] at e; exact h.f14 e
  · intro e; rw [setB_ne (by decide)] at e; exact h.f15 e
  · intro e; rw [setB_ne (by decide)] at e; exact h.f16 e
  · intro e; rw [setB_ne (by decide)] at e; exact h.f17 e
  · intro e; rw [setB_ne (by decide)] at e; exact h.f18 e
  · intro e; rw [setB_ne (by decide)] at e; have hne := h.bk.inj 16 2 (by decide) (by decide) d16 e (by decide); exact heap_far (heap_far (heap_far (heap_far (heap_far (h.m2 e) hne) hne) hne) hne) hne
  · intro e; rw [setB_ne (by decide)] at e; have hne := h.bk.inj 16 8 (by decide) (by decide) d16 e (by decide); exact heap_far (heap_far (heap_far (heap_far (heap_far (h.m8 e) hne) hne) hne) hne) hne
  · intro e; rw [setB_ne (by decide)] at e; have hne := h.bk.inj 16 14 (by decide) (by decide) d16 e (by decide); exact heap_far (heap_far (heap_far (heap_far (heap_far (h.m14 e) hne) hne) hne) hne) hne
  · intro e; rw [setB_ne (by decide)] at e; have hm := h.m16 e; rw [h0] at hm; simp only [Bool.false_eq_true, if_false] at hm; have hm2 := heap_set (i := 4) (v := (.slice (some ⟨r 2, 0, Option.none⟩) 1 1)) (heap_set (i := 3) (v := (.int .i64 8)) (heap_set (i := 2) (v := (.int .i64 1)) (heap_set (i := 1) (v := (.int .i64 1)) (heap_set (i := 0) (v := (.int .i64 1)) (hm))))); have hl := setB_self l 19 (by omega)
    rw [hl, if_pos rfl]; exact hm2
  · intro e; rw [setB_ne (by decide)] at e; have hne := h.bk.inj 16 17 (by decide) (by decide) d16 e (by decide); rw [setB_ne (by decide)]; exact heap_far (heap_far (heap_far (heap_far (heap_far (h.m17 e) hne) hne) hne) hne) hne
  · intro e; rw [setB_ne (by decide)] at e; have hne := h.bk.inj 16 18 (by decide) (by decide) d16 e (by decide); rw [setB_ne (by decide)]; exact heap_far (heap_far (heap_far (heap_far (heap_far (h.m18 e) hne) hne) hne) hne) hne
  · intro _; exact ⟨by rw [setB_ne (by decide)]; exact d16, by rw [setB_ne (by decide)]; exact d3, by rw [setB_ne (by decide)]; exact d2⟩
  · intro e; rw [setB_ne (by decide)] at e; have hu := h.s20 e; exact ⟨setB_keep hu.1, setB_keep hu.2.1, setB_keep hu.2.2⟩
  · intro e; rw [setB_ne (by decide)] at e; have hu := h.s21 e; exact ⟨setB_keep hu.1, setB_keep hu.2.1, setB_keep hu.2.2⟩
  · intro e; rw [setB_ne (by decide)] at e; have hu := h.u3 e; exact setB_keep hu
  · intro e; rw [setB_ne (by decide)] at e; have hu := h.u9 e; exact setB_keep hu
  · intro e; rw [setB_ne (by decide)] at e; have hu := h.u15 e; exact setB_keep hu
set_option maxHeartbeats 1000000 in
theorem jfJ.op20 {k kc k1 k2 : ByteArray} {B : Nat} {w0 w : World} {l : Array Bool} {v0 v1 v2 v3 v4 v5 v6 v7 v8 v9 v10 v11 v12 v13 v14 v15 v16 v17 v18 : Value} {r : Nat → Nat} (h : jfJ k kc k1 k2 B w0 l v0 v1 v2 v3 v4 v5 v6 v7 v8 v9 v10 v11 v12 v13 v14 v15 v16 v17 v18 r w) (hsz : l.size = 22) (h0 : l.getD 20 false = false) (d17 : l.getD 17 false = true) (d9 : l.getD 9 false = true) (d8 : l.getD 8 false = true) : jfJ k kc k1 k2 B w0 (l.setIfInBounds 20 true) v0 v1 v2 v3 v4 v5 v6 v7 v8 v9 v10 v11 v12 v13 v14 v15 v16 v17 v18 r (((((w.setCell ⟨r 17, 0, Option.none⟩ (.int .i64 1)).setCell ⟨r 17, 1, Option.none⟩ (.int .i64 1)).setCell ⟨r 17, 2, Option.none⟩ (.int .i64 1)).setCell ⟨r 17, 3, Option.none⟩ (.int .i64 8)).setCell ⟨r 17, 4, Option.none⟩ (.slice (some ⟨r 8, 0, Option.none⟩) 1 1)) := by
  have hlow := (h.bk.low 17 (by decide) d17).1
  constructor
  · exact h.bk.store 20 (by decide) (by simp) (h.bk.bel|>.setCell hlow _|>.setCell hlow _|>.setCell hlow _|>.setCell hlow _|>.setCell hlow _)
  · intro e; rw [setB_ne (by decide)] at e; exact h.f0 e
  · intro e; rw [setB_ne (by decide)] at e; exact h.f1 e
  · intro e; rw [setB_ne (by decide)] at e; exact h.f2 e
  · intro e; rw [setB_ne (by decide)] at e; exact h.f3 e
  · intro e; rw [setB_ne (by decide)] at e; exact h.f4 e
  · intro e; rw [setB_ne (by decide)] at e; exact h.f5 e
  · intro e; rw [setB_ne (by decide)] at e; exact h.f6 e
  · intro e; rw [setB_ne (by decide)] at e; exact h.f7 e
  · intro e; rw [setB_ne (by decide)] at e; exact h.f8 e
  · intro e; rw [setB_ne (by decide)] at e; exact h.f9 e
  · intro e; rw [setB_ne (by decide)] at e; exact h.f10 e
  · intro e; rw [setB_ne (by decide)] at e; exact h.f11 e
  · intro e; rw [setB_ne (by decide)] at e; exact h.f12 e
  · intro e; rw [setB_ne (by decide)] at e; exact h.f13 e
  · intro e; rw [setB_ne (by decide)] at e; exact h.f14 e
  · intro e; rw [setB_ne (by decide)] at e; exact h.f15 e
  · intro e; rw [setB_ne (by decide)] at e; exact h.f16 e
  · intro e; rw [setB_ne (by decide)] at e; exact h.f17 e
  · intro e; rw [setB_ne (by decide)] at e; exact h.f18 e
  · intro e; rw [setB_ne (by decide)] at e; have hne := h.bk.inj 17 2 (by decide) (by decide) d17 e (by decide); exact heap_far (heap_far (heap_far (heap_far (heap_far (h.m2 e) hne) hne) hne) hne) hne
  · intro e; rw [setB_ne (by decide)] at e; have hne := h.bk.inj 17 8 (by decide) (by decide) d17 e (by decide); exact heap_far (heap_far (heap_far (heap_far (heap_far (h.m8 e) hne) hne) hne) hne) hne
  · intro e; rw [setB_ne (by decide)] at e; have hne := h.bk.inj 17 14 (by decide) (by decide) d17 e (by decide); exact heap_far (heap_far (heap_far (heap_far (heap_far (h.m14 e) hne) hne) hne) hne) hne
  · intro e; rw [setB_ne (by decide)] at e; have hne := h.bk.inj 17 16 (by decide) (by decide) d17 e (by decide); rw [setB_ne (by decide)]; exact heap_far (heap_far (heap_far (heap_far (heap_far (h.m16 e) hne) hne) hne) hne) hne
  · intro e; rw [setB_ne (by decide)] at e; have hm := h.m17 e; rw [h0] at hm; simp only [Bool.false_eq_true, if_false] at hm; have hm2 := heap_set (i := 4) (v := (.slice (some ⟨r 8, 0, Option.none⟩) 1 1)) (heap_set (i := 3) (v := (.int .i64 8)) (heap_set (i := 2) (v := (.int .i64 1)) (heap_set (i := 1) (v := (.int .i64 1)) (heap_set (i := 0) (v := (.int .i64 1)) (hm))))); have hl := setB_self l 20 (by omega)
    rw [hl, if_pos rfl]; exact hm2
  · intro e; rw [setB_ne (by decide)] at e; have hne := h.bk.inj 17 18 (by decide) (by decide) d17 e (by decide); rw [setB_ne (by decide)]; exact heap_far (heap_far (heap_far (heap_far (heap_far (h.m18 e) hne) hne) hne) hne) hne
  · intro e; rw [setB_ne (by decide)] at e; have hu := h.s19 e; exact ⟨setB_keep hu.1, setB_keep hu.2.1, setB_keep hu.2.2⟩
  · intro _; exact ⟨by rw [setB_ne (by decide)]; exact d17, by rw [setB_ne (by decide)]; exact d9, by rw [setB_ne (by decide)]; exact d8⟩
  · intro e; rw [setB_ne (by decide)] at e; have hu := h.s21 e; exact ⟨setB_keep hu.1, setB_keep hu.2.1, setB_keep hu.2.2⟩
  · intro e; rw [setB_ne (by decide)] at e; have hu := h.u3 e; exact setB_keep hu
  · intro e; rw [setB_ne (by decide)] at e; have hu := h.u9 e; exact setB_keep hu
  · intro e; rw [setB_ne (by decide)] at e; have hu := h.u15 e; exact setB_keep hu
set_option maxHeartbeats 1000000 in
theorem jfJ.op21 {k kc k1 k2 : ByteArray} {B : Nat} {w0 w : World} {l : Array Bool} {v0 v1 v2 v3 v4 v5 v6 v7 v8 v9 v10 v11 v12 v13 v14 v15 v16 v17 v18 : Value} {r : Nat → Nat} (h : jfJ k kc k1 k2 B w0 l v0 v1 v2 v3 v4 v5 v6 v7 v8 v9 v10 v11 v12 v13 v14 v15 v16 v17 v18 r w) (hsz : l.size = 22) (h0 : l.getD 21 false = false) (d18 : l.getD 18 false = true) (d15 : l.getD 15 false = true) (d14 : l.getD 14 false = true) : jfJ k kc k1 k2 B w0 (l.setIfInBounds 21 true) v0 v1 v2 v3 v4 v5 v6 v7 v8 v9 v10 v11 v12 v13 v14 v15 v16 v17 v18 r (((((w.setCell ⟨r 18, 0, Option.none⟩ (.int .i64 1)).setCell ⟨r 18, 1, Option.none⟩ (.int .i64 1)).setCell ⟨r 18, 2, Option.none⟩ (.int .i64 1)).setCell ⟨r 18, 3, Option.none⟩ (.int .i64 8)).setCell ⟨r 18, 4, Option.none⟩ (.slice (some ⟨r 14, 0, Option.none⟩) 1 1)) := by
  have hlow := (h.bk.low 18 (by decide) d18).1
  constructor
  · exact h.bk.store 21 (by decide) (by simp) (h.bk.bel|>.setCell hlow _|>.setCell hlow _|>.setCell hlow _|>.setCell hlow _|>.setCell hlow _)
  · intro e; rw [setB_ne (by decide)] at e; exact h.f0 e
  · intro e; rw [setB_ne (by decide)] at e; exact h.f1 e
  · intro e; rw [setB_ne (by decide)] at e; exact h.f2 e
  · intro e; rw [setB_ne (by decide)] at e; exact h.f3 e
  · intro e; rw [setB_ne (by decide)] at e; exact h.f4 e
  · intro e; rw [setB_ne (by decide)] at e; exact h.f5 e
  · intro e; rw [setB_ne (by decide)] at e; exact h.f6 e
  · intro e; rw [setB_ne (by decide)] at e; exact h.f7 e
  · intro e; rw [setB_ne (by decide)] at e; exact h.f8 e
  · intro e; rw [setB_ne (by decide)] at e; exact h.f9 e
  · intro e; rw [setB_ne (by decide)] at e; exact h.f10 e
  · intro e; rw [setB_ne (by decide)] at e; exact h.f11 e
  · intro e; rw [setB_ne (by decide)] at e; exact h.f12 e
  · intro e; rw [setB_ne (by decide)] at e; exact h.f13 e
  · intro e; rw [setB_ne (by decide)] at e; exact h.f14 e
  · intro e; rw [setB_ne (by decide)] at e; exact h.f15 e
  · intro e; rw [setB_ne (by decide)] at e; exact h.f16 e
  · intro e; rw [setB_ne (by decide)] at e; exact h.f17 e
  · intro e; rw [setB_ne (by decide)] at e; exact h.f18 e
  · intro e; rw [setB_ne (by decide)] at e; have hne := h.bk.inj 18 2 (by decide) (by decide) d18 e (by decide); exact heap_far (heap_far (heap_far (heap_far (heap_far (h.m2 e) hne) hne) hne) hne) hne
  · intro e; rw [setB_ne (by decide)] at e; have hne := h.bk.inj 18 8 (by decide) (by decide) d18 e (by decide); exact heap_far (heap_far (heap_far (heap_far (heap_far (h.m8 e) hne) hne) hne) hne) hne
  · intro e; rw [setB_ne (by decide)] at e; have hne := h.bk.inj 18 14 (by decide) (by decide) d18 e (by decide); exact heap_far (heap_far (heap_far (heap_far (heap_far (h.m14 e) hne) hne) hne) hne) hne
  · intro e; rw [setB_ne (by decide)] at e; have hne := h.bk.inj 18 16 (by decide) (by decide) d18 e (by decide); rw [setB_ne (by decide)]; exact heap_far (heap_far (heap_far (heap_far (heap_far (h.m16 e) hne) hne) hne) hne) hne
  · intro e; rw [setB_ne (by decide)] at e; have hne := h.bk.inj 18 17 (by decide) (by decide) d18 e (by decide); rw [setB_ne (by decide)]; exact heap_far (heap_far (heap_far (heap_far (heap_far (h.m17 e) hne) hne) hne) hne) hne
  · intro e; rw [setB_ne (by decide)] at e; have hm := h.m18 e; rw [h0] at hm; simp only [Bool.false_eq_true, if_false] at hm; have hm2 := heap_set (i := 4) (v := (.slice (some ⟨r 14, 0, Option.none⟩) 1 1)) (heap_set (i := 3) (v := (.int .i64 8)) (heap_set (i := 2) (v := (.int .i64 1)) (heap_set (i := 1) (v := (.int .i64 1)) (heap_set (i := 0) (v := (.int .i64 1)) (hm))))); have hl := setB_self l 21 (by omega)
    rw [hl, if_pos rfl]; exact hm2
  · intro e; rw [setB_ne (by decide)] at e; have hu := h.s19 e; exact ⟨setB_keep hu.1, setB_keep hu.2.1, setB_keep hu.2.2⟩
  · intro e; rw [setB_ne (by decide)] at e; have hu := h.s20 e; exact ⟨setB_keep hu.1, setB_keep hu.2.1, setB_keep hu.2.2⟩
  · intro _; exact ⟨by rw [setB_ne (by decide)]; exact d18, by rw [setB_ne (by decide)]; exact d15, by rw [setB_ne (by decide)]; exact d14⟩
  · intro e; rw [setB_ne (by decide)] at e; have hu := h.u3 e; exact setB_keep hu
  · intro e; rw [setB_ne (by decide)] at e; have hu := h.u9 e; exact setB_keep hu
  · intro e; rw [setB_ne (by decide)] at e; have hu := h.u15 e; exact setB_keep hu
end Go.Proofs.Ytbmbelnjgnahhaa
