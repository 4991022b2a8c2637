/-
  Contracts of bits.Writer: what is put is a number's bits.
-/
import Derived.Test.YtmdkinhbfndoeaaBitsPure
import Derived.Test.YtmdkinhbfndoeaaClone
import Derived.BigRegion
import Derived.Deep.QuietTactic
import Derived.BigQuiet
import Derived.StillTailTactics
import Derived.WalkLawsBesides
namespace Go.Proofs.Ytmdkinhbfndoeaa
open Go.RowKit

/-- Blocks in S apart, what was there stands. -/
structure Apart (S : Nat → Prop) (w w' : World) : Prop where
  os : w'.os = w.os
  tape : w'.tape = w.tape
  output : w'.output = w.output
  size : w.heap.size ≤ w'.heap.size
  block : ∀ k, k < w.heap.size → ¬ S k → w'.heap[k]? = w.heap[k]?

/-- A writer at block g, its bytes in block o: the number N, c bits. -/
def Wrt (w : World) (g : Nat) (o : Option Nat) (N c : Nat) : Prop :=
  ∃ (a : Option Addr) (n cap : Nat) (xs : List Int), (Value.slice a n cap).ownBlock = o ∧ g < w.heap.size ∧ w.cell? ⟨g, 0, Option.none⟩ = some (.slice a n cap) ∧ w.cell? ⟨g, 1, Option.none⟩ = some (.int .i64 c) ∧
    w.frozen? ⟨g, 0, Option.none⟩ = false ∧ w.frozen? ⟨g, 1, Option.none⟩ = false ∧ w.ownsRow (g + 1) 5 1 (.slice a n cap) n (xs.map (Value.int .u8)) ∧ n = (c + 7) / 8 ∧ isB xs ∧ rlit xs = (N : Int) ∧ N < 2 ^ c

theorem grownBy_setCell (w : World) (p : Addr) (v : Value) : w.grownBy (w.setCell p v) (some p.block) :=
  ⟨rfl, rfl, rfl, by simp, fun k _ hne => Below.heap_setCell w p v k (fun h => hne (by rw [h]))⟩
theorem grown_block {wr w2 : World} {o : Obj} {row : Option Nat} (hg : (wr.alloc o).grownBy w2 row) {b : Nat} (hlt : b < wr.heap.size) (hne : some b ≠ row) : w2.heap[b]? = wr.heap[b]? :=
  (hg.block b (by simp; omega) hne).trans (Below.heap_alloc _ _ _ hlt)
theorem owns_ne {w : World} {g T : Nat} {v : Value} {n : Nat} {ws : List Value} (h : w.ownsRow (g + 1) T 1 v n ws) : some g ≠ v.ownBlock := fun e => by
  have := (h.lt g e.symm).1; omega

def fitB (n k : Int) : Bool := decide (0 ≤ k ∧ k ≤ 24 ∧ n / 2 ^ k.toNat = 0)

set_option maxHeartbeats 400000 in
theorem fits_any (n : Nat) (k : Int) (w : World) (hn : n < 4294967296) (hk : -9223372036854775808 ≤ k ∧ k ≤ 9223372036854775807) :
    Calls Try.prog 39 #[.int .u32 n, .int .i64 k] w fun e w' => e = .returned (.bool (fitB n k)) ∧ w' = w := by
  have HB := fun b h => Lib.hid (show b = fitB n k from (Bool.eq_iff_iff.2 (by rw [fitB, decide_eq_true_iff]; exact h)))
  generalize fitB n k = r at *
  by_cases h1 : 0 ≤ k
  · obtain ⟨m, rfl⟩ := Int.eq_ofNat_of_zero_le h1
    by_cases h2 : (m : Int) ≤ 24
    · go_enter Try.func39, Try.ntmps39
      go_wp2
      go_ret
      refine ⟨ret_bool ((HB _ ?_).out), rfl⟩
      simp
      omega
    · go_enter Try.func39, Try.ntmps39
      go_wp2
      go_ret
      refine ⟨ret_bool ((HB _ ?_).out), rfl⟩
      simp
      omega
  · go_enter Try.func39, Try.ntmps39
    go_wp2
    go_ret
    refine ⟨ret_bool ((HB _ ?_).out), rfl⟩
    simp
    omega

end Go.Proofs.Ytmdkinhbfndoeaa
