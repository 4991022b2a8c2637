/-
  The walk of BitsSplit.
-/
import Derived.Test.YteancefgkllgoaaBitsFour
namespace Go.Proofs.Yteancefgkllgoaa
open Go.RowKit

set_option maxRecDepth 100000 in
set_option maxHeartbeats 2000000 in
theorem split_not (n : Nat) (count cut : Int) (w : World) (hn : n < 4294967296) (h1 : -9223372036854775808 ≤ count ∧ count ≤ 9223372036854775807) (h2 : -9223372036854775808 ≤ cut ∧ cut ≤ 9223372036854775807) (h : ¬ (0 ≤ cut ∧ cut ≤ count ∧ fitB n count = true)) :
    Calls Try.prog 6 #[.int .u32 n, .int .i64 count, .int .i64 cut] w fun e w' => e = .returned (.bool true) ∧ Below w.heap.size w w' := by
  by_cases c1 : count < 0
  · go_enter Try.func6, Try.ntmps6
    go_wp2_with fail
    refine (first_any w).mono ?_; rintro e w1 ⟨rfl, b1⟩
    go_wp2_with fail
    refine (first_any w1).mono ?_; rintro e w2 ⟨rfl, b2⟩
    go_wp2_with fail
    go_ret
    exact ⟨rfl, below_size b1 b2⟩
  · by_cases c2 : 24 < count
    · go_enter Try.func6, Try.ntmps6
      go_wp2_with fail
      refine (first_any w).mono ?_; rintro e w1 ⟨rfl, b1⟩
      go_wp2_with fail
      refine (first_any w1).mono ?_; rintro e w2 ⟨rfl, b2⟩
      go_wp2_with fail
      go_ret
      exact ⟨rfl, below_size b1 b2⟩
    · by_cases c3 : cut < 0
      · go_enter Try.func6, Try.ntmps6
        go_wp2_with fail
        refine (first_any w).mono ?_; rintro e w1 ⟨rfl, b1⟩
        go_wp2_with fail
        refine (first_any w1).mono ?_; rintro e w2 ⟨rfl, b2⟩
        go_wp2_with fail
        go_ret
        exact ⟨rfl, below_size b1 b2⟩
      · by_cases c4 : count < cut
        · go_enter Try.func6, Try.ntmps6
          go_wp2_with fail
          refine (first_any w).mono ?_; rintro e w1 ⟨rfl, b1⟩
          go_wp2_with fail
          refine (first_any w1).mono ?_; rintro e w2 ⟨rfl, b2⟩
          go_wp2_with fail
          go_ret
          exact ⟨rfl, below_size b1 b2⟩
        · obtain ⟨c, rfl⟩ := Int.eq_ofNat_of_zero_le (show 0 ≤ count by omega)
          have h3 : ((n : Int) / 2 ^ c != 0) = true := by
            have : ¬ fitB n c = true := fun h' => h ⟨by omega, by omega, h'⟩
            unfold fitB at this
            simp at this
            simp
            exact fun h0 => absurd h0 (this (by omega))
          clear h
          go_enter Try.func6, Try.ntmps6
          go_wp2_with fail
          refine (first_any w).mono ?_; rintro e w1 ⟨rfl, b1⟩
          go_wp2_with fail
          refine (first_any w1).mono ?_; rintro e w2 ⟨rfl, b2⟩
          go_wp2_with fail
          go_ret
          exact ⟨rfl, below_size b1 b2⟩

set_option maxRecDepth 100000 in
set_option maxHeartbeats 1000000 in
theorem split_in (n c k : Nat) (w : World) (hn : n < 2 ^ c) (hc : c ≤ 24) (hk : k ≤ c) :
    Calls Try.prog 6 #[.int .u32 n, .int .i64 c, .int .i64 k] w fun e w' => e = .returned (.bool true) ∧ Below w.heap.size w w' := by
  have hn32 : n < 4294967296 := Nat.lt_of_lt_of_le hn (Nat.le_trans (Nat.pow_le_pow_right (by decide) hc) (by decide))
  have h0 : ((n : Int) / 2 ^ c != 0) = false := by
    have h1 : ((n / 2 ^ c : Nat) : Int) = 0 := by rw [Nat.div_eq_of_lt hn]; rfl
    have h2 : (n : Int) / 2 ^ c = 0 := by simpa using h1
    rw [h2]; rfl
  obtain ⟨d, hd⟩ : ∃ d, c = k + d := ⟨c - k, by omega⟩
  have hsplit := put_step 0 n 0 0 k
  have hand : bits .and .u32 (n : Int) ((2 ^ k - 1) % 4294967296) = ((n % 2 ^ k : Nat) : Int) := by
    have e : ((2 : Int) ^ k - 1) % 4294967296 = 2 ^ k - 1 := by
      have h1 : (2 : Nat) ^ k ≤ 2 ^ 24 := Nat.pow_le_pow_right (by decide) (by omega)
      have h2 : 0 < (2 : Nat) ^ k := Nat.pow_pos (by decide)
      have h3 : (2 : Int) ^ k = ((2 ^ k : Nat) : Int) := by simp
      rw [h3]; omega
    rw [e, mask_u32 k (by omega) _ (by omega) (by omega)]; simp
  have hqq : (n : Int) / 2 ^ k = ((n / 2 ^ k : Nat) : Int) := by simp
  have hr1 : n % 2 ^ k < 2 ^ k := Nat.mod_lt _ (Nat.pow_pos (by decide))
  have hq1 : n / 2 ^ k < 2 ^ d := by
    rw [hd, Nat.pow_add] at hn
    exact Nat.div_lt_of_lt_mul hn
  have hjoin : n % 2 ^ k + n / 2 ^ k * 2 ^ k = n := by rw [Nat.mul_comm]; exact Nat.mod_add_div n (2 ^ k)
  have hn' : n / 2 ^ k ≤ n := Nat.div_le_self _ _
  generalize n % 2 ^ k = r at *
  generalize n / 2 ^ k = q at *
  have hcd : (c : Int) - (k : Int) = d := by omega
  have Hn := Lib.hid hn; have Hr := Lib.hid hr1; have Hq := Lib.hid hq1; have HJ := Lib.hid hjoin; have HD := Lib.hid hd
  clear hsplit hn hr1 hq1 hjoin hd
  have g1 : decide ((c : Int) < 0) = false := by simp
  have g2 : decide (24 < (c : Int)) = false := by simp; omega
  have g3 : decide ((k : Int) < 0) = false := by simp
  have g4 : decide (c < k) = false := by simp; omega
  go_enter Try.func6, Try.ntmps6
  go_wp2_with fail
  refine (first_any w).mono ?_; rintro e w0 ⟨rfl, b0⟩
  go_wp2_with fail
  refine (newWriter_any w0).mono ?_; rintro e w1 ⟨rfl, A1, s1, b1⟩
  go_wp2_with fail
  refine (newWriter_any w1).mono ?_; rintro e w2 ⟨rfl, B2, s2, b2⟩
  go_wp2_with fail
  refine (newWriter_any w2).mono ?_; rintro e w3 ⟨rfl, C3, s3, b3⟩
  go_wp2_with fail
  refine (newWriter_any w3).mono ?_; rintro e w4 ⟨rfl, D4, s4, b4⟩
  have A4 := ((A1.below b2).below b3).below b4
  have B4 := (B2.below b3).below b4
  have C4 := C3.below b4
  have BB := below_size (below_size (below_size (below_size b0 b1) b2) b3) b4
  have hs0 := b0.size
  rw [s3, s2, s1] at D4 s4
  rw [s2, s1] at C4
  rw [s1] at B4
  try rw [s3]
  try rw [s2]
  try rw [s1]
  generalize w0.heap.size = g at *
  have F4 : Four w4 g Option.none Option.none Option.none Option.none 0 0 0 0 0 0 0 0 := ⟨A4, B4, C4, D4, by simp, by simp, by simp, by simp, by simp [Dis], by simp [Dis], by simp [Dis], by simp [Dis], by simp [Dis], by simp [Dis], by omega⟩
  have HF := Lib.hid F4; have HB := Lib.hid BB
  have HG : w.heap.size ≤ g := hs0
  clear A1 s1 b1 B2 s2 b2 C3 s3 b3 D4 s4 b4 A4 B4 C4 F4 BB hs0
  go_wp2_with fail
  refine (put_yes g Option.none 0 0 n c _ HF.out.a Hn.out hc (by omega)).mono ?_; rintro e w5 ⟨rfl, oa, A5, M5⟩
  have F5 := Lib.hid (HF.out.putA A5 M5)
  have B5 := Lib.hid (moved_below HB.out M5 HG (by have := HF.out.sz; omega) (by simp))
  clear A5 M5 HF HB
  go_wp2_with fail
  refine (put_yes (g + 1) Option.none 0 0 r k _ F5.out.b Hr.out (by omega) (by omega)).mono ?_; rintro e w6 ⟨rfl, ob, A6, M6⟩
  have F6 := Lib.hid (F5.out.putB A6 M6)
  have B6 := Lib.hid (moved_below B5.out M6 (by omega) (by have := F5.out.sz; omega) (by simp))
  clear A6 M6 F5 B5
  go_wp2_with fail
  refine (put_yes (g + 1) ob (0 + r * 2 ^ 0) (0 + k) q d _ F6.out.b Hq.out (by omega) (by omega)).mono ?_; rintro e w7 ⟨rfl, ob', A7, M7⟩
  have F7 := Lib.hid (F6.out.putB A7 M7)
  have B7 := Lib.hid (moved_below B6.out M7 (by omega) (by have := F6.out.sz; omega) (fun r hr => by have := F6.out.lb r hr; omega))
  clear A7 M7 F6 B6
  go_wp2_with fail
  refine (code_yes (g + 2) Option.none 0 0 n c _ F7.out.c Hn.out hc (by omega)).mono ?_; rintro e w8 ⟨rfl, oc, A8, M8⟩
  have F8 := Lib.hid (F7.out.putC A8 M8)
  have B8 := Lib.hid (moved_below B7.out M8 (by omega) (by have := F7.out.sz; omega) (by simp))
  clear A8 M8 F7 B7
  go_wp2_with fail
  have e1 : 0 + n * 2 ^ 0 = n := by simp
  have e2 : 0 + r * 2 ^ 0 + q * 2 ^ (0 + k) = n := by have := HJ.out; simp; exact this
  have e3 : 0 + revb n c * 2 ^ 0 = revb n c := by simp
  have e4 : 0 + k + d = c := by have := HD.out; omega
  rw [e1, e2, e3, e4, Nat.zero_add] at F8
  clear e1 e2 e3 e4 hand hqq hcd h0
  go_loopw [15] (fun vi wr => ∃ (s : Nat) (od : Option Nat), s ≤ c ∧ vi = .int .i64 ((c : Int) - 1 - s) ∧ Four wr g oa ob' oc od n c n c (revb n c) c (revb (n / 2 ^ (c - s)) s) s ∧ Below w.heap.size w wr) (fun vi _ => (intOf vi + 1).toNat)
  case atStart => exact ⟨0, Option.none, Nat.zero_le _, by simp, by rw [show revb (n / 2 ^ (c - 0)) 0 = 0 from rfl]; exact F8.out, B8.out⟩
  case round =>
    obtain ⟨s, od, hs, rfl, hF, hB⟩ := hrel
    have HF := Lib.hid hF; have HB := Lib.hid hB
    clear hF hB
    by_cases hlt : s < c
    · obtain ⟨i, hi⟩ : ∃ i : Nat, s + i + 1 = c := ⟨c - s - 1, by omega⟩
      have hi' : (c : Int) - 1 - s = i := by omega
      have hi24 : i ≤ 23 := by omega
      rw [hi']
      have hand : bits .and .u32 ((n : Int) / 2 ^ i) 1 = ((n / 2 ^ i % 2 : Nat) : Int) := by
        have e : (n : Int) / 2 ^ i = ((n / 2 ^ i : Nat) : Int) := by simp
        have hle : n / 2 ^ i ≤ n := Nat.div_le_self _ _
        rw [e]
        clear e
        generalize n / 2 ^ i = y at *
        have := mask_u32 1 (by omega) (y : Int) (by omega) (by omega)
        simpa using this
      have hx : n / 2 ^ i % 2 < 2 ^ 1 := Nat.mod_lt _ (by decide)
      have htop := revb_top (n / 2 ^ i) s
      rw [Nat.div_div_eq_div_mul, ← Nat.pow_succ, show i.succ = c - s by omega, show i = c - (s + 1) by omega] at htop
      rw [show c - (s + 1) = i by omega] at htop
      have HI := Lib.hid hi; have HT := Lib.hid htop; have HX := Lib.hid hx
      clear hi hi' htop hx
      generalize n / 2 ^ i % 2 = x at *
      go_wp2_with fail
      have hput := put_yes (g + 3) od _ s x 1 _ HF.out.d HX.out (by omega) (by omega)
      rw [← HT.out] at hput
      have HPUT := Lib.hid hput; clear hput
      refine HPUT.out.mono ?_; rintro e w9 ⟨rfl, od', A9, M9⟩
      have F9 := Lib.hid (HF.out.putD A9 M9)
      have B9 := Lib.hid (moved_below HB.out M9 (by omega) (by have := HF.out.sz; omega) (fun r hr => by have := HF.out.ld r hr; omega))
      clear A9 M9 HF HB hand
      go_wp2_with fail
      go_roundw
      case rel =>
        have hii := HI.out
        clear HJ HD Hn Hr Hq
        refine ⟨s + 1, od', by omega, ?_, ?_, B9.out⟩
        · have e : (i : Int) - 1 = (c : Int) - 1 - ((s + 1 : Nat) : Int) := by omega
          rw [e]
        · have e : c - (s + 1) = i := by omega
          rw [e]
          exact F9.out
      case measure => simp [intOf]
    · obtain rfl : s = c := by omega
      rw [Nat.sub_self, Nat.pow_zero, Nat.div_one] at HF
      have hm1 : (s : Int) - 1 - s = -1 := by omega
      rw [hm1]
      clear hm1 hlt hs F8 B8
      go_wp2_with fail
      refine (first_any wr).mono ?_; rintro e w9 ⟨rfl, b9⟩
      have F9 := Lib.hid (HF.out.below b9)
      have B9 := Lib.hid (below_size HB.out b9)
      have W9 := Lib.hid (show g ≤ w9.heap.size by have := F9.out.sz; omega)
      clear b9 HF HB
      go_wp2_with fail
      refine (bits_any F9.out.a).mono ?_; rintro e w10 ⟨rfl, rfl⟩
      go_wp2_with fail
      refine (bits_any F9.out.b).mono ?_; rintro e w11 ⟨rfl, rfl⟩
      go_wp2_with fail
      refine (wbytes_any F9.out.a (by omega)).mono ?_; rintro e w12 ⟨a1, k1, xs1, rfl, l1, q1, r1, o1, c1⟩
      have F12 := Lib.hid (F9.out.below c1)
      have B12 := Lib.hid (below_size B9.out c1)
      have R1 := Lib.hid (reads_of_owns o1)
      have P1 := Lib.hid (And.intro l1 (And.intro q1 r1))
      clear l1 q1 r1 o1 c1 F9 B9
      go_wp2_with fail
      refine (wbytes_any F12.out.b (by omega)).mono ?_; rintro e w13 ⟨a2, k2, xs2, rfl, l2, q2, r2, o2, c2⟩
      have F13 := Lib.hid (F12.out.below c2)
      have B13 := Lib.hid (below_size B12.out c2)
      have R1' := Lib.hid (R1.out.below c2)
      have R2 := Lib.hid (reads_of_owns o2)
      obtain rfl := rlit_inj xs1 xs2 P1.out.2.1 q2 (by rw [P1.out.1, l2]) (by rw [P1.out.2.2, r2])
      clear l2 q2 r2 o2 c2 F12 B12 R1
      have hbb := bytes_any _ _ _ _ _ _ _ _ w13 R1'.out R2.out P1.out.2.1 P1.out.2.1
      rw [decide_eq_true rfl] at hbb
      have HBB := Lib.hid hbb
      clear hbb R1' R2
      go_wp2_with fail
      refine HBB.out.mono ?_; rintro e w14 ⟨rfl, rfl⟩
      clear HBB P1
      go_wp2_with fail
      refine (wbytes_any F13.out.c (by omega)).mono ?_; rintro e w15 ⟨a3, k3, xs3, rfl, l3, q3, r3, o3, c3⟩
      have F15 := Lib.hid (F13.out.below c3)
      have B15 := Lib.hid (below_size B13.out c3)
      have R3 := Lib.hid (reads_of_owns o3)
      have P3 := Lib.hid (And.intro l3 (And.intro q3 r3))
      clear l3 q3 r3 o3 c3 F13 B13
      go_wp2_with fail
      refine (wbytes_any F15.out.d (by omega)).mono ?_; rintro e w16 ⟨a4, k4, xs4, rfl, l4, q4, r4, o4, c4⟩
      have B16 := Lib.hid (below_size B15.out c4)
      have R3' := Lib.hid (R3.out.below c4)
      have R4 := Lib.hid (reads_of_owns o4)
      obtain rfl := rlit_inj xs3 xs4 P3.out.2.1 q4 (by rw [P3.out.1, l4]) (by rw [P3.out.2.2, r4])
      clear l4 q4 r4 o4 c4 F15 B15 R3
      have hbb := bytes_any _ _ _ _ _ _ _ _ w16 R3'.out R4.out P3.out.2.1 P3.out.2.1
      rw [decide_eq_true rfl] at hbb
      have HBB := Lib.hid hbb
      clear hbb R3' R4
      go_wp2_with fail
      refine HBB.out.mono ?_; rintro e w17 ⟨rfl, rfl⟩
      go_wp2_with fail
      go_ret
      exact ⟨rfl, B16.out⟩

theorem walk_BitsSplit (n : Int) (count cut : Int) (w : World) (hn : 0 ≤ n ∧ n < 4294967296) (h1 : -9223372036854775808 ≤ count ∧ count ≤ 9223372036854775807) (h2 : -9223372036854775808 ≤ cut ∧ cut ≤ 9223372036854775807) :
    Calls Try.prog 6 #[.int .u32 n, .int .i64 count, .int .i64 cut] w fun e w' => e = .returned (.bool true) ∧ Below w.heap.size w w' := by
  obtain ⟨m, rfl⟩ := Int.eq_ofNat_of_zero_le hn.1
  by_cases h : 0 ≤ cut ∧ cut ≤ count ∧ fitB m count = true
  · obtain ⟨c, rfl, hc, hm⟩ := of_fitB h.2.2
    obtain ⟨k, rfl⟩ := Int.eq_ofNat_of_zero_le h.1
    exact split_in m c k w hm hc (by omega)
  · exact split_not m count cut w (by omega) h1 h2 h
end Go.Proofs.Yteancefgkllgoaa
