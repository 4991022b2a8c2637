/-
  num.ReadBig (as in the seat of chapter 1).
-/
import Derived.Test.YtdmaoaclhaofbaaChecked
import Derived.Test.YtdmaoaclhaofbaaLib
import Derived.BigRegion
import Derived.Deep.QuietTactic
import Derived.BigQuiet
namespace Go.Proofs.Ytdmaoaclhaofbaa
open Go.RowKit

/-- The error of reading m bytes from at on out of len. -/
def rdErr (len at_ m : Int) : Int := if m < 1 ∨ 6 < m ∨ at_ < 0 ∨ len < at_ then 1 else if len - at_ < m then 2 else 0

theorem readable_any (a : Option Addr) (n cap : Nat) (p m : Int) (w : World) (hn : n ≤ 9223372036854775807) (h0 : -9223372036854775808 ≤ p ∧ p ≤ 9223372036854775807) (h1 : -9223372036854775808 ≤ m ∧ m ≤ 9223372036854775807) :
    Calls Try.prog 39 #[.slice a n cap, .int .i64 p, .int .i64 m] w fun e w' => e = .returned (.int .i64 (rdErr n p m)) ∧ w' = w := by
  unfold rdErr
  by_cases c1 : m < 1
  · rw [if_pos (.inl c1)]
    go_enter Try.func39, Try.ntmps39
    go_wp2
    go_ret
    exact ⟨rfl, rfl⟩
  · by_cases c2 : 6 < m
    · rw [if_pos (.inr (.inl c2))]
      go_enter Try.func39, Try.ntmps39
      go_wp2
      go_ret
      exact ⟨rfl, rfl⟩
    · by_cases c3 : p < 0
      · rw [if_pos (.inr (.inr (.inl c3)))]
        go_enter Try.func39, Try.ntmps39
        go_wp2
        go_ret
        exact ⟨rfl, rfl⟩
      · by_cases c4 : (n : Int) < p
        · rw [if_pos (.inr (.inr (.inr c4)))]
          go_enter Try.func39, Try.ntmps39
          go_wp2
          go_ret
          exact ⟨rfl, rfl⟩
        · rw [if_neg (by omega)]
          by_cases c5 : (n : Int) - p < m
          · rw [if_pos c5]
            go_enter Try.func39, Try.ntmps39
            go_wp2
            go_ret
            exact ⟨rfl, rfl⟩
          · rw [if_neg c5]
            go_enter Try.func39, Try.ntmps39
            go_wp2
            go_ret
            exact ⟨rfl, rfl⟩

/-- The number that bytes are, the greatest first. -/
def rbig (xs : List Int) : Int := xs.foldl (fun n x => n * 256 + x) 0
/-- The number that bytes are, the least first. -/
def rlit (xs : List Int) : Int := xs.foldr (fun x n => n * 256 + x) 0
theorem rbig_snoc (xs : List Int) (x : Int) : rbig (xs ++ [x]) = rbig xs * 256 + x := by simp [rbig]
theorem rbig_rev (xs : List Int) : rbig xs.reverse = rlit xs := by simp [rbig, rlit]
theorem rlit_append (xs ys : List Int) : rlit (xs ++ ys) = rlit xs + 256 ^ xs.length * rlit ys := by
  induction xs with
  | nil => simp [rlit]
  | cons x xs ih => simp only [rlit, List.cons_append, List.foldr_cons, List.length_cons] at ih ⊢; rw [ih, Int.pow_succ, Int.add_mul, Int.mul_right_comm]; omega
theorem rlit_snoc (xs : List Int) (x : Int) : rlit (xs ++ [x]) = rlit xs + 256 ^ xs.length * x := by rw [rlit_append]; simp [rlit]
theorem rlit_bd (xs : List Int) (h : isB xs) : 0 ≤ rlit xs ∧ rlit xs < 256 ^ xs.length := by
  induction xs with
  | nil => simp [rlit]
  | cons x xs ih =>
    have a := h x (by simp)
    have b := ih (fun y hy => h y (by simp [hy]))
    simp only [rlit, List.foldr_cons, List.length_cons] at b ⊢
    rw [Int.pow_succ]; omega
theorem rbig_bd (xs : List Int) (h : isB xs) : 0 ≤ rbig xs ∧ rbig xs < 256 ^ xs.length := by
  have := rlit_bd xs.reverse (fun x hx => h x (List.mem_reverse.1 hx))
  rw [← rbig_rev, List.reverse_reverse, List.length_reverse] at this
  exact this
theorem pow256_le (k : Nat) (h : k ≤ 6) : (256 : Int) ^ k ≤ 281474976710656 := by
  have : k = 0 ∨ k = 1 ∨ k = 2 ∨ k = 3 ∨ k = 4 ∨ k = 5 ∨ k = 6 := by omega
  rcases this with h | h | h | h | h | h | h <;> subst h <;> decide
theorem pow256_two (k : Nat) : (256 : Int) ^ k = 2 ^ (8 * k) := by rw [Int.pow_mul]; rfl
theorem sub_take (xs : List Int) (p k : Nat) (h : p + k < xs.length) : (xs.drop p).take (k + 1) = (xs.drop p).take k ++ [xs.getD (p + k) 0] := by
  rw [take_getD _ _ (by simp; omega)]; simp [List.getD, List.getElem?_drop]

theorem readBig_no (a : Option Addr) (n cap : Nat) (p m : Int) (w : World) (hn : n ≤ 9223372036854775807) (h0 : -9223372036854775808 ≤ p ∧ p ≤ 9223372036854775807) (h1 : -9223372036854775808 ≤ m ∧ m ≤ 9223372036854775807) (h : rdErr n p m ≠ 0) :
    Calls Try.prog 35 #[.slice a n cap, .int .i64 p, .int .i64 m] w fun e w' => e = .returned (.tuple #[.int .i64 0, .int .i64 (rdErr n p m)]) ∧ w' = w := by
  have hb : (rdErr n p m != 0) = true := by simpa using h
  go_enter Try.func35, Try.ntmps35
  go_wp2_with fail
  refine (readable_any a n cap p m w hn h0 h1).mono ?_; rintro e w1 ⟨rfl, rfl⟩
  go_wp2
  go_ret2
  exact ⟨rfl, rfl⟩

theorem rdErr_zero {n p m : Int} (h : rdErr n p m = 0) : 1 ≤ m ∧ m ≤ 6 ∧ 0 ≤ p ∧ p + m ≤ n := by
  unfold rdErr at h
  split at h
  · omega
  · split at h <;> omega

set_option maxHeartbeats 400000 in
theorem readBig_yes (a : Option Addr) (n cap : Nat) (xs : List Int) (p m : Nat) (w : World) (hr : Reads .u8 w a n cap xs) (hb : isB xs) (h : rdErr n p m = 0) :
    Calls Try.prog 35 #[.slice a n cap, .int .i64 p, .int .i64 m] w fun e w' => e = .returned (.tuple #[.int .i64 (rbig ((xs.drop p).take m)), .int .i64 0]) ∧ w' = w := by
  have hf := rdErr_zero h
  have hl := hr.n63
  have hxl := hr.len
  obtain ⟨b, off, rfl, hlt, hc⟩ := hr.cells (by omega)
  have Hl : Hid (xs.length = n) := hxl
  have Hc := Lib.hid hc
  clear hxl hr hc hlt
  have hf1 := hf.1; have hf2 := hf.2.1; have hf4 := hf.2.2.2
  have hl1 := hl.1; have hl2 := hl.2
  clear hf hl
  go_enter Try.func35, Try.ntmps35
  go_wp2_with fail
  refine (readable_any _ n cap p m w (by omega) (by omega) (by omega)).mono ?_; rintro e w1 ⟨rfl, rfl⟩
  rw [h]
  clear h
  go_wp2
  go_loop [9, 19] (fun v i => ∃ k : Nat, k ≤ m ∧ i = .int .i64 k ∧ v = .int .i64 (rbig ((xs.drop p).take k))) (fun _ i => m - (intOf i).toNat)
  case atStart => exact ⟨0, Nat.zero_le _, rfl, rfl⟩
  case round =>
    obtain ⟨k, hk, rfl, rfl⟩ := hrel
    by_cases hlt : k < m
    · have hcell := Hc.out (p + k) (by omega)
      have hx := hb.get (p + k) (by have := Hl.out; omega)
      have HS : Hid (rbig ((xs.drop p).take (k + 1)) = rbig ((xs.drop p).take k) * 256 + xs.getD (p + k) 0) := by
        rw [sub_take _ _ _ (by have := Hl.out; omega), rbig_snoc]; rfl
      have hv := rbig_bd ((xs.drop p).take k) ((hb.drop p).take k)
      have hlen : ((xs.drop p).take k).length = k := by have := Hl.out; simp; omega
      rw [hlen] at hv
      have h48 := pow256_le k (by omega)
      have hv5 : rbig ((xs.drop p).take k) < 281474976710656 := by omega
      have hv0 := hv.1
      clear hv hlen h48
      generalize rbig ((xs.drop p).take k) = v at *
      generalize xs.getD (p + k) 0 = x at *
      have hor : bits BinOp.or IntKind.i64 (v * 256) x = v * 256 + x := or_join_i64 8 _ _ (by omega) (by omega) (by omega) (by omega) (by omega) (by omega)
      clear hb
      go_wp2
      go_round
      case rel => exact ⟨k + 1, by omega, by go_num, by rw [HS.out]⟩
      case measure => simp [intOf]; omega
    · obtain rfl : k = m := by omega
      go_wp2
      go_ret2
      exact ⟨rfl, rfl⟩
end Go.Proofs.Ytdmaoaclhaofbaa
