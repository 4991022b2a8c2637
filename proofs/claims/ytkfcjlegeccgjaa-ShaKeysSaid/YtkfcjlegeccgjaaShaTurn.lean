/-
  Words of 32 bits turned round.
-/
import Derived.Test.YtkfcjlegeccgjaaNumBase
import Derived.Test.YtkfcjlegeccgjaaGrowTail
import Derived.Deep.QuietTactic
namespace Go.Proofs.Ytkfcjlegeccgjaa
open Go.RowKit

/-- A word. -/
abbrev isW (x : Int) : Prop := 0 ≤ x ∧ x < 4294967296
def isWs (xs : List Int) : Prop := ∀ x ∈ xs, isW x
theorem isWs.get {xs : List Int} (h : isWs xs) (i : Nat) (hi : i < xs.length) : isW (xs.getD i 0) := by
  have : xs.getD i 0 = xs[i] := by simp [List.getD, hi]
  rw [this]; exact h _ (List.getElem_mem hi)
theorem wrap_isW (x : Int) : isW (IntKind.u32.wrap x) := by rw [IntKind.wrap_u32]; unfold isW; omega
theorem mod_isW (x : Int) : isW (x % 4294967296) := by unfold isW; omega
theorem bits_isW (op : BinOp) (a b : Int) : isW (bits op .u32 a b) := by
  unfold bits
  exact wrap_isW _

def rot (x : Int) (n : Nat) : Int := bits .or .u32 (x * 2 ^ (32 - n) % 4294967296) (x / 2 ^ n)
theorem rot_isW (x : Int) (n : Nat) : isW (rot x n) := bits_isW _ _ _

set_option maxHeartbeats 1000000 in
theorem rotl_any (x : Int) (n : Nat) (w : World) (hx : isW x) (h1 : 1 ≤ n) (h2 : n ≤ 31) :
    Calls Try.prog 27 #[.int .u32 x, .int .i64 (-(n : Int))] w fun e w' => e = .returned (.int .u32 (rot x n)) ∧ w = w' := by
  obtain ⟨a, b⟩ := hx
  have : n = 1 ∨ n = 2 ∨ n = 3 ∨ n = 4 ∨ n = 5 ∨ n = 6 ∨ n = 7 ∨ n = 8 ∨ n = 9 ∨ n = 10 ∨ n = 11 ∨ n = 12 ∨ n = 13 ∨ n = 14 ∨ n = 15 ∨ n = 16 ∨ n = 17 ∨ n = 18 ∨ n = 19 ∨ n = 20 ∨ n = 21 ∨ n = 22 ∨ n = 23 ∨ n = 24 ∨ n = 25 ∨ n = 26 ∨ n = 27 ∨ n = 28 ∨ n = 29 ∨ n = 30 ∨ n = 31 := by omega
  have hu : bits BinOp.and IntKind.u64 (IntKind.u64.wrap (-(n : Int))) 31 = ((32 - n : Nat) : Int) := by
    rcases this with h | h | h | h | h | h | h | h | h | h | h | h | h | h | h | h | h | h | h | h | h | h | h | h | h | h | h | h | h | h | h <;> subst h <;> decide
  have m1 : ((32 - n : Nat) : Int) < 32 := by omega
  have m2 : (0 : Int) ≤ ((32 - n : Nat) : Int) := by omega
  have m3 : (32 : Int) - ((32 - n : Nat) : Int) = (n : Int) := by omega
  have m4 : (n : Int) < 32 := by omega
  clear this
  go_enter Try.func27, Try.ntmps27
  go_wp2
  go_ret
  exact ⟨rfl, rfl⟩

theorem turn_any (x : Int) (n : Nat) (w : World) (hx : isW x) (h1 : 1 ≤ n) (h2 : n ≤ 31) :
    Calls Try.prog 25 #[.int .u32 x, .int .i64 n] w fun e w' => e = .returned (.int .u32 (rot x n)) ∧ w = w' := by
  go_enter Try.func25, Try.ntmps25
  go_wp2_with fail
  refine (rotl_any x n _ hx h1 h2).mono ?_; rintro e w1 ⟨rfl, rfl⟩
  go_wp2
  go_ret
  exact ⟨rfl, rfl⟩

theorem rturn_any (x : Int) (n : Nat) (w : World) (hx : isW x) (h1 : 1 ≤ n) (h2 : n ≤ 31) :
    Calls Try.prog 20 #[.int .u32 x, .int .i64 n] w fun e w' => e = .returned (.int .u32 (rot x n)) ∧ Below w.heap.size w w' := by
  obtain ⟨a, b⟩ := hx
  have HR := Lib.hid (show bits .or .u32 (x / 2 ^ n) (x * 2 ^ (32 - n) % 4294967296) = rot x n by unfold rot; rw [bits_or_comm])
  have m1 : (0 : Int) ≤ 32 - (n : Int) := by omega
  have m2 : (32 : Int) - (n : Int) < 32 := by omega
  have m3 : ((32 : Int) - (n : Int)).toNat = 32 - n := by omega
  have m4 : (n : Int) < 32 := by omega
  have m5 : (0 : Int) ≤ (n : Int) := by omega
  go_enter Try.func20, Try.ntmps20
  go_wp2_with fail
  go_quiet (fail)
  go_wp2_with fail
  go_ret
  exact ⟨(show Ending.returned (Value.int .u32 (bits .or .u32 (x / 2 ^ n) (x * 2 ^ (32 - n) % 4294967296))) = Ending.returned (Value.int .u32 (rot x n)) by rw [HR.out]), below_drewN (Below.refl _ _) _⟩
end Go.Proofs.Ytkfcjlegeccgjaa
