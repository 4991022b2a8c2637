/-
  The statements' own first function of chapter 12; filt.Weight; aquref9.Paeth.
-/
import Derived.Test.YtkbbnmcbekhioaaFilt
import Derived.Lib.SlBytesConst
namespace Go.Proofs.Ytkbbnmcbekhioaa
open Go.RowKit

/-- A byte's weight. -/
def wt1 (x : Int) : Int := if 127 < x then 256 - x else x
def wt (xs : List Int) : Int := xs.foldl (fun s x => s + wt1 x) 0
theorem wt_snoc (xs : List Int) (x : Int) : wt (xs ++ [x]) = wt xs + wt1 x := by simp [wt]
theorem wt_bd (xs : List Int) (h : isB xs) (k : Nat) (hk : k ≤ xs.length) : 0 ≤ wt (xs.take k) ∧ wt (xs.take k) ≤ 128 * (k : Int) := by
  induction k with
  | zero => simp [wt]
  | succ k ih =>
    have := ih (by omega)
    have hx := h.get k (by omega)
    rw [take_getD _ _ (by omega), wt_snoc]
    unfold wt1
    split <;> omega

set_option maxHeartbeats 400000 in
theorem weight_any (a : Option Addr) (n cap : Nat) (xs : List Int) (w : World) (hr : Reads .u8 w a n cap xs) (hb : isB xs) (hn : n ≤ 1000000) :
    Calls Try.prog 17 #[.slice a n cap] w fun e w' => e = .returned (.int .i64 (wt xs)) ∧ w' = w := by
  have Hl := Lib.hid hr.len
  go_enter Try.func17, Try.ntmps17
  go_wp2
  go_loop [3, 8] (fun s i => ∃ k : Nat, k ≤ n ∧ i = .int .i64 k ∧ s = .int .i64 (wt (xs.take k))) (fun _ i => n - (intOf i).toNat)
  case atStart => exact ⟨0, Nat.zero_le _, rfl, rfl⟩
  case round =>
    obtain ⟨k, hk, rfl, rfl⟩ := hrel
    have hd := wt_bd xs hb k (by rw [Hl.out]; exact hk)
    by_cases hlt : k < n
    · obtain ⟨b, off, rfl, hc⟩ := hr.cellAt k hlt
      have hx := hb.get k (by rw [Hl.out]; exact hlt)
      have HS : Hid (wt (xs.take (k + 1)) = wt (xs.take k) + wt1 (xs.getD k 0)) := by rw [take_getD xs k (by rw [Hl.out]; exact hlt), wt_snoc]; rfl
      generalize wt (xs.take k) = s at *
      generalize xs.getD k 0 = x at *
      clear hr hb
      go_wp2
      all_goals
        go_round
        case rel => exact ⟨k + 1, by omega, by go_num, by rw [HS.out]; unfold wt1; congr 1; split <;> omega⟩
        case measure => simp [intOf]; omega
    · obtain rfl : k = n := by omega
      go_wp2
      go_ret
      exact ⟨by rw [← Hl.out, List.take_length]; rfl, rfl⟩

set_option maxHeartbeats 400000 in
theorem first_any (w : World) :
    Calls Try.prog 8 #[] w fun e w' => e = .returned (.bool true) ∧ Below w.heap.size w w' := by
  go_enter Try.func8, Try.ntmps8
  go_wp2_with fail
  refine (do_yes 1 1 Option.none _ 0 0 3 3 [] [1, 2, 4] _ (Reads.none _ _) (by exact reads_alloc _ [1, 2, 4] _ _ _ rfl (by decide) _ rfl) isB.nil (isB_of_all _ (by decide)) (by decide) (by omega)).mono ?_
  rintro e w1 ⟨g1, c1, rfl, ho1, hb1⟩
  have e1 : doL 1 1 [] [1, 2, 4] = [1, 1, 2] := by decide
  rw [e1] at ho1 ⊢
  simp only [List.length_cons, List.length_nil, Nat.reduceAdd] at ho1 ⊢
  have s1 := run_bytes_string (reads_of_owns ho1) 22 5 Try.underlying22 Try.underlying5 9 Try.underlying9
  have q1 : ((strOfNums [1, 1, 2]).toList == [1, 1, 2]) = true := by rw [ByteArray.toList_eq]; decide
  go_wp2
  go_ret
  exact ⟨rfl, ((Below.refl _ _).alloc (Nat.le_refl _) _).trans (hb1.mono (by simp))⟩

set_option maxHeartbeats 1000000 in
theorem rpaeth_any (a b c : Int) (w : World) (ha : 0 ≤ a ∧ a ≤ 255) (hb : 0 ≤ b ∧ b ≤ 255) (hc : 0 ≤ c ∧ c ≤ 255) :
    Calls Try.prog 20 #[.int .i64 a, .int .i64 b, .int .i64 c] w fun e w' => e = .returned (.int .i64 (pae a b c)) ∧ w' = w := by
  have ha1 := ha.1; have ha2 := ha.2; have hb1 := hb.1; have hb2 := hb.2; have hc1 := hc.1; have hc2 := hc.2
  clear ha hb hc
  by_cases h1 : b < c <;> by_cases h2 : a < c <;> by_cases h3 : a + b < 2 * c
  all_goals
    go_enter Try.func20, Try.ntmps20
    go_wp2
  all_goals go_ret
  all_goals go_tidy
  all_goals refine ⟨ret_int ?_, rfl⟩
  all_goals try simp only [beq_iff_eq, beq_eq_false_iff_ne] at *
  all_goals simp only [pae, far]
  all_goals (repeat' split) <;> first | rfl | omega
end Go.Proofs.Ytkbbnmcbekhioaa
