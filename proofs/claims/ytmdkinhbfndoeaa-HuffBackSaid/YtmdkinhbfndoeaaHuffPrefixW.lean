/-
  The walk of HuffPrefix: where there are no codes.
-/
import Derived.Test.YtmdkinhbfndoeaaHuffFirst
import Derived.Test.YtmdkinhbfndoeaaHuffPrefixP
namespace Go.Proofs.Ytmdkinhbfndoeaa
open Go.RowKit

set_option maxRecDepth 100000 in
set_option maxHeartbeats 1000000 in
theorem hp_not (a : Option Addr) (n cap : Nat) (w : World) (_hn : n ≤ 9223372036854775807) (h : ¬ n ≤ 300) :
    Calls Try.prog 8 #[.slice a n cap] w fun e w' => e = .returned (.bool true) ∧ Below w.heap.size w w' := by
  have h1 : (300 : Int) < n := by omega
  clear h
  go_enter Try.func8, Try.ntmps8
  go_wp2_with fail
  refine (first_any w).mono ?_; rintro e w1 ⟨rfl, b1⟩
  go_wp2_with fail
  refine (first_any w1).mono ?_; rintro e w2 ⟨rfl, b2⟩
  go_wp2_with fail
  go_ret
  exact ⟨rfl, below_size b1 b2⟩

set_option maxRecDepth 100000 in
set_option maxHeartbeats 1000000 in
theorem hp_no1 (a : Option Addr) (n cap : Nat) (xs : List Int) (w : World) (hr : Reads .i64 w a n cap xs) (h64 : is64 xs) (hn : n ≤ 300) (hk : ¬ lensOk xs) :
    Calls Try.prog 8 #[.slice a n cap] w fun e w' => e = .returned (.bool true) ∧ Below w.heap.size w w' := by
  have HR := Lib.hid hr; have H64 := Lib.hid h64; have HK := Lib.hid hk
  have h300 : ¬ (300 : Int) < n := by omega
  clear hr h64 hk
  go_enter Try.func8, Try.ntmps8
  go_wp2_with fail
  refine (first_any w).mono ?_; rintro e w1 ⟨rfl, b1⟩
  go_wp2_with fail
  refine (codes_no1 a n cap xs w1 (HR.out.below b1) H64.out HK.out).mono ?_; rintro e w2 ⟨rfl, rfl⟩
  go_wp2_with fail
  refine (first_any _).mono ?_; rintro e w3 ⟨rfl, b3⟩
  go_wp2_with fail
  go_ret
  exact ⟨rfl, below_size b1 b3⟩

set_option maxRecDepth 100000 in
set_option maxHeartbeats 1000000 in
theorem hp_no4 (a : Option Addr) (n cap : Nat) (xs : List Int) (w : World) (hr : Reads .i64 w a n cap xs) (h64 : is64 xs) (hn : n ≤ 300) (hk : lensOk xs) (hf : 32768 < krS xs) :
    Calls Try.prog 8 #[.slice a n cap] w fun e w' => e = .returned (.bool true) ∧ Below w.heap.size w w' := by
  have HR := Lib.hid hr; have H64 := Lib.hid h64; have HK := Lib.hid hk
  have HF := Lib.hid hf
  clear hf
  have h300 : ¬ (300 : Int) < n := by omega
  clear hr h64 hk
  go_enter Try.func8, Try.ntmps8
  go_wp2_with fail
  refine (first_any w).mono ?_; rintro e w1 ⟨rfl, b1⟩
  go_wp2_with fail
  refine (codes_no4 a n cap xs w1 (HR.out.below b1) H64.out HK.out HF.out).mono ?_; rintro e w2 ⟨rfl, rfl⟩
  go_wp2_with fail
  refine (first_any _).mono ?_; rintro e w3 ⟨rfl, b3⟩
  go_wp2_with fail
  go_ret
  exact ⟨rfl, below_size b1 b3⟩

/-- A code's number and length by its place. -/
theorem codeAt_len (xs : List Int) (i : Nat) (h : 0 ≤ xs.getD i 0) : (codeAt xs i).2 = xs.getD i 0 := by
  unfold codeAt
  split
  · rfl
  · simp only; omega
theorem codeAt_zero (xs : List Int) (i : Nat) (h : xs.getD i 0 = 0) : codeAt xs i = (0, 0) := by
  unfold codeAt
  rw [if_neg (by omega)]
theorem codeAt_num (xs : List Int) (i n : Nat) (h : xs.getD i 0 = (n : Int)) (hn : 1 ≤ n) : codeAt xs i = ((codeN xs i : Int), (n : Int)) := by
  unfold codeAt
  rw [if_pos (by omega), h]
theorem code_fits (xs : List Int) (i n : Nat) (hi : i < xs.length) (h : xs.getD i 0 = (n : Int)) (hn : 1 ≤ n) (h15 : n ≤ 15) (hk : krS xs ≤ 32768) : codeN xs i < 2 ^ n := by
  have h1 := code_lt xs i n hi h
  have h2 := nextN_fits xs n hn h15 hk
  omega
end Go.Proofs.Ytmdkinhbfndoeaa
