/-
  bits.Writer's other methods.
-/
import Derived.Test.YtmdkinhbfndoeaaBitsPut
import Derived.Handy
namespace Go.Proofs.Ytmdkinhbfndoeaa
open Go.RowKit

theorem put_no (p : Option Addr) (n : Nat) (k : Int) (w : World) (hn : n < 4294967296) (hk : -9223372036854775808 ≤ k ∧ k ≤ 9223372036854775807) (h : fitB n k = false) :
    Calls Try.prog 40 #[.pointer p, .int .u32 n, .int .i64 k] w fun e w' => e = .returned (.int .i64 1) ∧ w' = w := by
  go_enter Try.func40, Try.ntmps40
  go_wp2_with fail
  refine (fits_any n k w hn hk).mono ?_; rintro e w1 ⟨rfl, rfl⟩
  rw [h]
  go_wp2
  go_ret
  exact ⟨rfl, rfl⟩
theorem code_no (p : Option Addr) (n : Nat) (k : Int) (w : World) (hn : n < 4294967296) (hk : -9223372036854775808 ≤ k ∧ k ≤ 9223372036854775807) (h : fitB n k = false) :
    Calls Try.prog 27 #[.pointer p, .int .u32 n, .int .i64 k] w fun e w' => e = .returned (.int .i64 1) ∧ w' = w := by
  go_enter Try.func27, Try.ntmps27
  go_wp2_with fail
  refine (fits_any n k w hn hk).mono ?_; rintro e w1 ⟨rfl, rfl⟩
  rw [h]
  go_wp2
  go_ret
  exact ⟨rfl, rfl⟩

/-- The k least bits of n, turned round. -/
def revb (n : Nat) : Nat → Nat
  | 0 => 0
  | k + 1 => revb n k * 2 + n / 2 ^ k % 2
theorem revb_lt (n k : Nat) : revb n k < 2 ^ k := by
  induction k with
  | zero => simp [revb]
  | succ k ih => rw [revb, Nat.pow_succ]; omega
theorem fitB_of {n k : Nat} (hk : k ≤ 24) (h : n < 2 ^ k) : fitB n k = true := by
  unfold fitB
  rw [decide_eq_true_iff]
  refine ⟨by omega, by omega, ?_⟩
  have : n / 2 ^ k = 0 := Nat.div_eq_of_lt h
  have h2 : ((n / 2 ^ k : Nat) : Int) = 0 := by rw [this]; rfl
  simpa using h2
theorem of_fitB {n : Nat} {k : Int} (h : fitB n k = true) : ∃ m : Nat, k = m ∧ m ≤ 24 ∧ n < 2 ^ m := by
  unfold fitB at h
  rw [decide_eq_true_iff] at h
  obtain ⟨h1, h2, h3⟩ := h
  refine ⟨k.toNat, by omega, by omega, ?_⟩
  have h4 : ((n / 2 ^ k.toNat : Nat) : Int) = 0 := by simpa using h3
  have h5 : n / 2 ^ k.toNat = 0 := by exact_mod_cast h4
  exact (Nat.div_eq_zero_iff_lt (Nat.pow_pos (by decide))).1 h5

set_option maxHeartbeats 1000000 in
theorem code_yes (g : Nat) (o : Option Nat) (N c n k : Nat) (w : World) (hw : Wrt w g o N c) (hn : n < 2 ^ k) (hk : k ≤ 24) (hc : c ≤ 1000000) :
    Calls Try.prog 27 #[.pointer (some ⟨g, 0, Option.none⟩), .int .u32 n, .int .i64 k] w (Put g o (N + revb n k * 2 ^ c) (c + k) w) := by
  have hfit := fitB_of hk hn
  have hn32 : n < 4294967296 := Nat.lt_of_lt_of_le hn (Nat.le_trans (Nat.pow_le_pow_right (by decide) hk) (by decide))
  have HW := Lib.hid hw
  clear hn hw
  go_enter Try.func27, Try.ntmps27
  go_wp2_with fail
  refine (fits_any n k w hn32 (by omega)).mono ?_; rintro e w1 ⟨rfl, rfl⟩
  rw [hfit]
  clear hfit
  go_wp2
  go_loop [1, 7, 13] (fun vn vt vi => ∃ i : Nat, i ≤ k ∧ vi = .int .i64 i ∧ vn = .int .u32 ((n / 2 ^ i : Nat) : Int) ∧ vt = .int .u32 ((revb n i : Nat) : Int)) (fun _ _ vi => k - (intOf vi).toNat)
  case atStart => exact ⟨0, Nat.zero_le _, rfl, by simp, by simp [revb]⟩
  case round =>
    obtain ⟨i, hi, rfl, rfl, rfl⟩ := hrel
    by_cases hlt : i < k
    · have hr := revb_lt n i
      have h24 : (2 : Nat) ^ i ≤ 2 ^ 23 := Nat.pow_le_pow_right (by decide) (by omega)
      have hr2 : revb n i < 8388608 := by omega
      have HS : Hid (revb n (i + 1) = revb n i * 2 + n / 2 ^ i % 2) := rfl
      have HD : Hid (n / 2 ^ (i + 1) = n / 2 ^ i / 2) := by show _ = _; rw [Nat.pow_succ, Nat.div_div_eq_div_mul]
      have hq : n / 2 ^ i ≤ n := Nat.div_le_self _ _
      clear hr h24
      generalize n / 2 ^ i = q at *
      generalize revb n i = t at *
      have hand : bits .and .u32 (q : Int) 1 = (q : Int) % 2 := by
        have := mask_u32 1 (by omega) q (by omega) (by omega)
        simpa using this
      have hor : bits .or .u32 ((t : Int) * 2) ((q : Int) % 2) = (t : Int) * 2 + (q : Int) % 2 := or_join_u32 1 _ _ (by omega) (by omega) (by omega) (by omega) (by omega) (by omega)
      go_wp2
      go_round
      case rel => exact ⟨i + 1, by omega, by go_num, by rw [HD.out]; simp, by rw [HS.out]; simp⟩
      case measure => simp [intOf]; omega
    · obtain rfl : i = k := by omega
      have hr := revb_lt n i
      clear hlt
      go_wp2_with fail
      refine (put_yes g o N c (revb n i) i w1 HW.out hr hk hc).mono ?_; rintro e w2 ⟨rfl, H2⟩
      have H2' := Lib.hid H2; clear H2
      go_wp2
      go_ret
      exact ⟨rfl, H2'.out⟩

theorem newWriter_any (w : World) :
    Calls Try.prog 26 #[] w fun e w' => e = .returned (.pointer (some ⟨w.heap.size, 0, Option.none⟩)) ∧ Wrt w' w.heap.size Option.none 0 0 ∧ w'.heap.size = w.heap.size + 1 ∧ Below w.heap.size w w' := by
  go_enter Try.func26, Try.ntmps26
  go_wp2
  go_ret
  refine ⟨rfl, ?_, by simp, (Below.refl _ _).alloc (Nat.le_refl _) _⟩
  have hh : (w.alloc (.cells #[.slice Option.none 0 0, .int .i64 0] 93)).heap[w.heap.size]? = some (.cells #[.slice Option.none 0 0, .int .i64 0] 93) := by
    show (w.heap.push _)[w.heap.size]? = _
    simp
  refine ⟨Option.none, 0, 0, [], rfl, by simp, ?_, ?_, ?_, ?_, World.ownsRow_nil _ _ _ _, by simp, isB.nil, rfl, by simp⟩
  all_goals first
    | (unfold World.cell?; rw [hh]; rfl)
    | (unfold World.frozen?; rw [hh]; rfl)

/-- The bytes of a number of so many bits. -/
def RetN (w : World) (N c : Nat) (e : Ending) (w' : World) : Prop := ∃ (a : Option Addr) (cap : Nat) (xs : List Int), e = .returned (.slice a ((c + 7) / 8) cap) ∧ xs.length = (c + 7) / 8 ∧ isB xs ∧ rlit xs = (N : Int) ∧ w'.ownsRow w.heap.size 5 1 (.slice a ((c + 7) / 8) cap) ((c + 7) / 8) (xs.map (Value.int .u8)) ∧ Below w.heap.size w w'

theorem wbytes_any {g : Nat} {o : Option Nat} {N c : Nat} {w : World} (hw : Wrt w g o N c) (hc : c ≤ 1000000) :
    Calls Try.prog 28 #[.pointer (some ⟨g, 0, Option.none⟩)] w (RetN w N c) := by
  obtain ⟨a, n, cap, xs, ho, hg, c0, c1, f0, f1, own, hl, hb, hN, hF⟩ := hw
  have hr := reads_of_owns own
  have H := Lib.hid (And.intro hr.len (And.intro hl (And.intro hb hN)))
  have hn : n ≤ 140737488355328 := by omega
  clear ho f0 f1 own hl hb hN hF
  go_enter Try.func28, Try.ntmps28
  go_wp2_with fail
  refine (clone_any a n cap xs w hr hn).mono ?_; rintro e w1 ⟨a1, k1, rfl, o1, b1⟩
  go_wp2
  go_ret
  obtain ⟨h1, h2, h3, h4⟩ := H.out
  unfold RetN
  rw [← h2, ← h1]
  exact ⟨a1, k1, xs, rfl, rfl, h3, h4, o1, b1⟩
end Go.Proofs.Ytmdkinhbfndoeaa
