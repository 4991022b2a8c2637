/-
  The walk of LzExpands.
-/
import Derived.Test.YtfolhckhedinhaaLzRef2
import Derived.Test.YtfolhckhedinhaaLzRexpand
import Derived.Test.YtfolhckhedinhaaBytes
namespace Go.Proofs.Ytfolhckhedinhaa
open Go.RowKit

theorem copyN_isB {out : List Int} (h : isB out) (d k : Nat) : isB (copyN out d k) := by
  induction k with
  | zero => exact h
  | succ k ih =>
    rw [copyN]
    refine ih.append (fun y hy => ?_)
    simp only [List.mem_singleton] at hy
    subst hy
    by_cases hi : (copyN out d k).length - d < (copyN out d k).length
    · exact ih.get _ hi
    · simp [List.getD, List.getElem?_eq_none (by omega : (copyN out d k).length ≤ (copyN out d k).length - d)]
theorem stepT_isB {out : List Int} (h : isB out) {t : Tok} (he : errT out t = 0) : isB (stepT out t) := by
  unfold stepT
  split
  · next h0 =>
    have hm : mayT t = true := by
      unfold errT at he
      split at he
      · omega
      · next hm => simpa using hm
    rw [mayT, decide_eq_true_iff] at hm
    exact h.append (fun y hy => by simp at hy; omega)
  · exact copyN_isB h _ _
theorem expT_isB : ∀ (ts : List Tok) {out : List Int}, isB out → isB (expT ts out).1
  | [], out, h => h
  | t :: ts, out, h => by
    rw [expT]
    split
    · exact isB.nil
    · next he => exact expT_isB ts (stepT_isB h (by simpa using he))

theorem expands_not (a : Option Addr) (n cap : Nat) (w : World) (hn : n ≤ 9223372036854775807) (h : ¬ n ≤ 2000) :
    Calls Try.prog 4 #[.slice a n cap] w fun e w' => e = .returned (.bool true) ∧ Below w.heap.size w w' := by
  have h1 : (2000 : Int) < n := by omega
  go_enter Try.func4, Try.ntmps4
  go_wp2_with fail
  refine (first_any w).mono ?_; rintro e w1 ⟨rfl, b1⟩
  go_wp2_with fail
  refine (first_any w1).mono ?_; rintro e w2 ⟨rfl, b2⟩
  go_wp2_with fail
  go_ret
  exact ⟨rfl, below_size b1 b2⟩

set_option maxRecDepth 100000 in
set_option maxHeartbeats 1000000 in
theorem expands_in (a : Option Addr) (n cap : Nat) (ts : List Tok) (w : World) (ht : Toks w a n cap ts) (hn : n ≤ 2000) :
    Calls Try.prog 4 #[.slice a n cap] w fun e w' => e = .returned (.bool true) ∧ Below w.heap.size w w' := by
  have HT := Lib.hid ht; have HL := Lib.hid ht.len
  have HX := Lib.hid (expT_isB ts isB.nil)
  have h1 : decide ((2000 : Int) < n) = false := by simp; omega
  clear ht
  go_enter Try.func4, Try.ntmps4
  go_wp2_with fail
  refine (first_any w).mono ?_; rintro e w1 ⟨rfl, bb⟩
  have B := Lib.hid bb
  replace HT := Lib.hid (HT.out.below bb)
  clear bb
  go_wp2_with fail
  refine (expand_any a n cap ts w1 HT.out).mono ?_; rintro e w2 ⟨ax, kx, rfl, ox, bb⟩
  have X := Lib.hid (reads_of_owns ox)
  replace B := Lib.hid (below_size B.out bb)
  replace HT := Lib.hid (HT.out.below bb)
  clear bb ox
  go_wp2_with fail
  refine (tokens_any a n cap ts w2 HT.out (by omega)).mono ?_; rintro e w3 ⟨az, kz, rfl, oz, bb⟩
  have Z := Lib.hid (toks_of_owns oz HL.out)
  replace B := Lib.hid (below_size B.out bb)
  replace X := Lib.hid (X.out.below bb)
  clear bb oz HT
  go_wp2_with fail
  refine (rexpand_any az n kz ts w3 Z.out).mono ?_; rintro e w4 ⟨ay, ky, rfl, oy, bb⟩
  have Y := Lib.hid (reads_of_owns oy)
  replace B := Lib.hid (below_size B.out bb)
  replace X := Lib.hid (X.out.below bb)
  clear bb oy Z
  generalize (expT ts []).1 = xs at *
  generalize (expT ts []).2 = E at *
  go_wp2_with fail
  refine (first_any _).mono ?_; rintro e w5 ⟨rfl, bb⟩
  replace B := Lib.hid (below_size B.out bb)
  replace X := Lib.hid (X.out.below bb)
  replace Y := Lib.hid (Y.out.below bb)
  clear bb
  go_wp2_with fail
  have q1 := bytes_any _ _ _ _ _ _ _ _ _ X.out Y.out HX.out HX.out
  rw [decide_eq_true rfl] at q1
  have Q1 := Lib.hid q1; clear q1
  refine Q1.out.mono ?_; rintro e w8 ⟨rfl, rfl⟩
  go_wp2_with fail
  go_ret
  exact ⟨rfl, B.out⟩

theorem walk_LzExpands (a : Option Addr) (n cap : Nat) (ts : List Tok) (w : World) (ht : Toks w a n cap ts) :
    Calls Try.prog 4 #[.slice a n cap] w fun e w' => e = .returned (.bool true) ∧ Below w.heap.size w w' := by
  by_cases h : n ≤ 2000
  · exact expands_in a n cap ts w ht h
  · exact expands_not a n cap w ht.n63 h
end Go.Proofs.Ytfolhckhedinhaa
