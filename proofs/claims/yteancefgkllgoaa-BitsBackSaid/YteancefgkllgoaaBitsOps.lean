/-
  A list of calls of a writer or a reader: what its cells hold.
-/
import Derived.Test.YteancefgkllgoaaLib
namespace Go.Proofs.Yteancefgkllgoaa
open Go.RowKit

/-- The list (a, n, cap) of calls: call i has the kind kd i, the count ct i, the number nm i. -/
structure Ops (w : World) (a : Option Addr) (n cap : Nat) (kd ct nm : Nat → Int) : Prop where
  le : n ≤ cap
  max : cap ≤ maxLen
  cells : 0 < n → ∃ b off, a = some ⟨b, off, Option.none⟩ ∧ b < w.heap.size ∧ ∀ i, i < n → w.cell? ⟨b, off + i * 3, Option.none⟩ = some (.int .i64 (kd i)) ∧ w.cell? ⟨b, off + i * 3 + 1, Option.none⟩ = some (.int .i64 (ct i)) ∧ w.cell? ⟨b, off + i * 3 + 2, Option.none⟩ = some (.int .u32 (nm i))
  bd : ∀ i, i < n → (-9223372036854775808 ≤ kd i ∧ kd i ≤ 9223372036854775807) ∧ (-9223372036854775808 ≤ ct i ∧ ct i ≤ 9223372036854775807) ∧ (0 ≤ nm i ∧ nm i < 4294967296)

section
variable {w w' : World} {a : Option Addr} {n cap : Nat} {kd ct nm : Nat → Int}
theorem Ops.below (h : Ops w a n cap kd ct nm) (hb : Below w.heap.size w w') : Ops w' a n cap kd ct nm :=
  ⟨h.le, h.max, fun hn => by
    obtain ⟨b, off, e, hl, hc⟩ := h.cells hn
    exact ⟨b, off, e, Nat.lt_of_lt_of_le hl hb.size, fun i hi => ⟨(hb.cell (p := ⟨b, off + i * 3, Option.none⟩) hl).trans (hc i hi).1, (hb.cell (p := ⟨b, off + i * 3 + 1, Option.none⟩) hl).trans (hc i hi).2.1, (hb.cell (p := ⟨b, off + i * 3 + 2, Option.none⟩) hl).trans (hc i hi).2.2⟩⟩, h.bd⟩
theorem Ops.n63 (h : Ops w a n cap kd ct nm) : n ≤ 9223372036854775807 := by
  have h1 := h.le; have h2 := h.max; unfold maxLen at h2; omega
theorem Ops.at (h : Ops w a n cap kd ct nm) (i : Nat) (hi : i < n) : ∃ b off, a = some ⟨b, off, Option.none⟩ ∧ b < w.heap.size ∧ w.cell? ⟨b, off + i * 3, Option.none⟩ = some (.int .i64 (kd i)) ∧ w.cell? ⟨b, off + i * 3 + 1, Option.none⟩ = some (.int .i64 (ct i)) ∧ w.cell? ⟨b, off + i * 3 + 2, Option.none⟩ = some (.int .u32 (nm i)) := by
  obtain ⟨b, off, e, hl, hc⟩ := h.cells (by omega)
  exact ⟨b, off, e, hl, (hc i hi).1, (hc i hi).2.1, (hc i hi).2.2⟩
end
end Go.Proofs.Yteancefgkllgoaa
