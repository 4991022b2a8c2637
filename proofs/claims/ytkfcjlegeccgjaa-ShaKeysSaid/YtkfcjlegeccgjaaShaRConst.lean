/-
  aquref1.constants; what stays where another block is written; a block of a message.
-/
import Derived.Test.YtkfcjlegeccgjaaShaSum
namespace Go.Proofs.Ytkfcjlegeccgjaa
open Go.RowKit

set_option maxRecDepth 100000 in
theorem rconst_any (w : World) : Calls Try.prog 19 #[] w
    fun e w' => e = .returned (.slice (some ⟨w.heap.size, 0, Option.none⟩) 64 64) ∧ ABox w' w.heap.size 31 kSha ∧ Below w.heap.size w w' := by
  go_enter Try.func19, Try.ntmps19
  go_wp2_with fail
  go_ret
  exact ⟨rfl, ABox.new _ _ kSha _ rfl, (Below.refl _ _).alloc (Nat.le_refl _) _⟩

section
variable {k : IntKind} {w w' : World} {g o n cap : Nat} {xs : List Int}
theorem Reads.low {B : Nat} (h : Reads k w (some ⟨g, o, Option.none⟩) n cap xs) (hb : Below B w w') (hg : g < B) : Reads k w' (some ⟨g, o, Option.none⟩) n cap xs :=
  ⟨h.len, h.le, h.max, h.nil, fun hn => by
    obtain ⟨b, off, e, hl, hc⟩ := h.cells hn
    cases e
    exact ⟨_, _, rfl, Nat.lt_of_lt_of_le hl hb.size, fun i hi => (hb.cell (p := ⟨g, o + i, Option.none⟩) hg).trans (hc i hi)⟩⟩
theorem Reads.far (h : Reads k w (some ⟨g, o, Option.none⟩) n cap xs) (b i : Nat) (v : Value) (hb : b ≠ g) : Reads k (w.setCell ⟨b, i, Option.none⟩ v) (some ⟨g, o, Option.none⟩) n cap xs :=
  ⟨h.len, h.le, h.max, h.nil, fun hn => by
    obtain ⟨b', off, e, hl, hc⟩ := h.cells hn
    cases e
    exact ⟨_, _, rfl, by simpa using hl, fun j hj => (World.cell?_of_block (a := ⟨g, o + j, Option.none⟩) (Below.heap_setCell w ⟨b, i, Option.none⟩ v g (fun e => hb e.symm))).trans (hc j hj)⟩⟩
end
theorem blk_getD (m : List Int) (k j : Nat) (h : j < 64) : (blk m k).getD j 0 = m.getD (64 * k + j) 0 := by
  unfold blk
  simp [List.getD, h]
theorem wWord_blk (m : List Int) (k i : Nat) (h : i < 16) : wWord (blk m k) i = word4 (m.getD (64 * k + 4 * i) 0) (m.getD (64 * k + 4 * i + 1) 0) (m.getD (64 * k + 4 * i + 2) 0) (m.getD (64 * k + 4 * i + 3) 0) := by
  unfold wWord
  rw [blk_getD m k _ (by omega), blk_getD m k _ (by omega), blk_getD m k _ (by omega), blk_getD m k _ (by omega)]
  rfl
end Go.Proofs.Ytkfcjlegeccgjaa
