/-
  The walk of the statement NumBack.
-/
import Derived.Test.YtckekklmjegajaaNumFirst
import Derived.Test.YtckekklmjegajaaNumPure
import Derived.Test.YtckekklmjegajaaNumWalkTexts
namespace Go.Proofs.Ytckekklmjegajaa
open Go.RowKit

theorem hexL_getD (xs : List Int) : ∀ j, j < xs.length → (hexL xs).getD (2 * j) 0 = hexD (xs.getD j 0 / 16) ∧ (hexL xs).getD (2 * j + 1) 0 = hexD (xs.getD j 0 % 16) := by
  induction xs with
  | nil => intro j h; simp at h
  | cons x xs ih =>
    intro j h
    have e : hexL (x :: xs) = hexD (x / 16) :: hexD (x % 16) :: hexL xs := rfl
    rw [e]
    cases j with
    | zero => exact ⟨rfl, rfl⟩
    | succ j =>
      rw [show 2 * (j + 1) = 2 * j + 1 + 1 by omega, List.getD_cons_succ, List.getD_cons_succ, List.getD_cons_succ, List.getD_cons_succ, List.getD_cons_succ]
      exact ih j (by simp at h; omega)
theorem byteAt_str (ys : List Int) (hb : isB ys) (i : Nat) (h : i < ys.length) : byteAt (strOfNums ys) i = ys.getD i 0 := by
  have hs : i < (strOfNums ys).size := by rw [strOfNums_size]; exact h
  have hx := hb.get i h
  unfold byteAt
  rw [dif_pos hs]
  have e : (strOfNums ys)[i] = UInt8.ofNat (ys.getD i 0).toNat := by
    show (strOfNums ys).data[i]'_ = _
    simp [strOfNums, List.getD, h]
  rw [e, UInt8.toNat_ofNat']
  omega
theorem dig_hexD (n : Int) (h : 0 ≤ n) (h' : n < 16) : dig (hexD n) = n := by
  unfold hexD dig
  split
  · rw [if_pos (by omega)]; omega
  · rw [if_neg (by omega), if_pos (by omega)]; omega
theorem hex_ok (xs : List Int) (h : isB xs) : hexOk (strOfNums (hexL xs)) ∧ pairs (strOfNums (hexL xs)) xs.length = xs ∧ (strOfNums (hexL xs)).size = 2 * xs.length := by
  have hs : (strOfNums (hexL xs)).size = 2 * xs.length := by rw [strOfNums_size, hexL_len]
  have hB := hexL_isB xs h
  have key : ∀ j, j < xs.length → dig (byteAt (strOfNums (hexL xs)) (2 * j)) = xs.getD j 0 / 16 ∧ dig (byteAt (strOfNums (hexL xs)) (2 * j + 1)) = xs.getD j 0 % 16 := by
    intro j hj
    have hx := h.get j hj
    rw [byteAt_str _ hB _ (by rw [hexL_len]; omega), byteAt_str _ hB _ (by rw [hexL_len]; omega), (hexL_getD xs j hj).1, (hexL_getD xs j hj).2, dig_hexD _ (by omega) (by omega), dig_hexD _ (by omega) (by omega)]
    exact ⟨rfl, rfl⟩
  refine ⟨⟨by omega, fun j hj => ?_⟩, ?_, hs⟩
  · have hx := h.get j (by omega)
    have := key j (by omega)
    unfold okAt
    omega
  · apply ext_getD (pairs_len _ _)
    intro j hj
    rw [pairs_len] at hj
    rw [pairs, getD_map_range, if_pos hj]
    have := key j hj
    unfold pairAt
    omega

set_option maxRecDepth 100000 in
set_option maxHeartbeats 1000000 in
theorem back_large (n m : Int) (a : Option Addr) (l cap : Nat) (w : World) (hl : l ≤ 9223372036854775807) (h1 : (8000 : Int) < l) :
    Calls Try.prog 5 #[.int .i64 n, .int .i64 m, .slice a l cap] w fun e w' => e = .returned (.bool true) ∧ Below w.heap.size w w' := by
  go_enter Try.func5, Try.ntmps5
  go_wp2_with fail
  refine (first_any w).mono ?_; rintro e w1 ⟨rfl, hb1⟩
  go_wp2_with fail
  refine (first_any w1).mono ?_; rintro e w2 ⟨rfl, hb2⟩
  go_wp2_with fail
  go_ret
  exact ⟨rfl, below_size hb1 hb2⟩

set_option maxRecDepth 100000 in
set_option maxHeartbeats 1000000 in
theorem back_no (n m : Int) (a : Option Addr) (l cap : Nat) (xs : List Int) (w : World) (hr : Reads .u8 w a l cap xs) (hb : isB xs) (_hl : l ≤ 8000) (h0 : -9223372036854775808 ≤ n ∧ n ≤ 9223372036854775807) (hf : fit n m = false) :
    Calls Try.prog 5 #[.int .i64 n, .int .i64 m, .slice a l cap] w fun e w' => e = .returned (.bool true) ∧ Below w.heap.size w w' := by
  have h1 : ¬ (8000 : Int) < l := by omega
  obtain ⟨k1, k2, k3⟩ := hex_ok xs hb
  have k4 : (strOfNums (hexL xs)).size / 2 = xs.length := by omega
  have hxl := hr.len
  go_enter Try.func5, Try.ntmps5
  have Hxl := Lib.hid hxl; have Hk4 := Lib.hid k4; have K2 := Lib.hid k2
  clear hxl k3 k2 k4
  go_wp2_with fail
  refine (first_any w).mono ?_; rintro e w1 ⟨rfl, hb1⟩
  go_wp2_with fail
  refine (hex_any a l cap xs w1 (hr.below hb1) hb (by omega)).mono ?_; rintro e w2 ⟨rfl, hb2⟩
  go_wp2_with fail
  refine (unhex_any _ w2 (by have := Hk4.out; have := k1.1; have := Hxl.out; omega)).mono ?_; rintro e w3 ⟨hb3, ⟨_, a3, c3, rfl, ho3⟩ | ⟨hno, _⟩⟩
  case inr => exact absurd k1 hno
  rw [Hk4.out, K2.out, Hxl.out] at ho3
  rw [Hk4.out, Hxl.out]
  have hb4 := below_size hb1 (below_size hb2 hb3)
  go_wp2_with fail
  refine (bytes_any _ _ _ _ _ _ _ _ w3 (reads_of_owns ho3) (hr.below hb4) hb hb).mono ?_; rintro e w4 ⟨rfl, rfl⟩
  rw [decide_eq_true rfl]
  go_wp2_with fail
  refine (big_no n m w4 h0 hf).mono ?_; rintro e w5 ⟨rfl, rfl⟩
  go_wp2_with fail
  refine (little_no n m w5 h0 hf).mono ?_; rintro e w6 ⟨rfl, rfl⟩
  go_wp2_with fail
  refine (first_any w6).mono ?_; rintro e w7 ⟨rfl, hb7⟩
  go_wp2_with fail
  go_ret
  exact ⟨rfl, below_size hb4 hb7⟩

set_option maxRecDepth 100000 in
set_option maxHeartbeats 2000000 in
theorem back_yes (n : Int) (m : Nat) (a : Option Addr) (l cap : Nat) (xs : List Int) (w : World) (hr : Reads .u8 w a l cap xs) (hb : isB xs) (hl : l ≤ 8000) (h0 : -9223372036854775808 ≤ n ∧ n ≤ 9223372036854775807) (hf : fit n m = true) :
    Calls Try.prog 5 #[.int .i64 n, .int .i64 m, .slice a l cap] w fun e w' => e = .returned (.bool true) ∧ Below w.heap.size w w' := by
  have h1 : ¬ (8000 : Int) < l := by omega
  obtain ⟨m1, m6, n0, nlt⟩ := fit_lt hf
  obtain ⟨k1, k2, k3⟩ := hex_ok xs hb
  have k4 : (strOfNums (hexL xs)).size / 2 = xs.length := by omega
  have hxl := hr.len
  obtain ⟨i0, hi, hz0, hz1, hz2⟩ := info_parts infoB
  have Hi := Lib.hid hi; have Hz0 := Lib.hid hz0; have Hz1 := Lib.hid hz1; have Hz2 := Lib.hid hz2
  clear hi hz0 hz1 hz2
  have Hxl := Lib.hid hxl; have Hk4 := Lib.hid k4; have K2 := Lib.hid k2; have Nlt := Lib.hid nlt; have Hf := Lib.hid hf
  clear hxl k3 k2 k4 nlt hf
  go_enter Try.func5, Try.ntmps5
  go_wp2_with fail
  refine (first_any w).mono ?_; rintro e w1 ⟨rfl, hb1⟩
  go_wp2_with fail
  refine (hex_any a l cap xs w1 (hr.below hb1) hb (by omega)).mono ?_; rintro e w2 ⟨rfl, hb2⟩
  go_wp2_with fail
  refine (unhex_any _ w2 (by have := Hk4.out; have := k1.1; have := Hxl.out; omega)).mono ?_; rintro e w3 ⟨hb3, ⟨_, a3, c3, rfl, ho3⟩ | ⟨hno, _⟩⟩
  case inr => exact absurd k1 hno
  rw [Hk4.out, K2.out, Hxl.out] at ho3
  rw [Hk4.out, Hxl.out]
  have hb4 := below_size hb1 (below_size hb2 hb3)
  go_wp2_with fail
  refine (bytes_any _ _ _ _ _ _ _ _ w3 (reads_of_owns ho3) (hr.below hb4) hb hb).mono ?_; rintro e w4 ⟨rfl, rfl⟩
  rw [decide_eq_true rfl]
  clear ho3 hb1 hb2 hb3 k1
  go_wp2_with fail
  refine (big_yes n m w4 h0 Hf.out).mono ?_; rintro e w5 ⟨g5, c5, rfl, ho5, hb5⟩
  rw [big_len] at ho5
  rw [big_len]
  go_wp2_with fail
  refine (little_yes n m w5 h0 Hf.out).mono ?_; rintro e w6 ⟨g6, c6, rfl, ho6, hb6⟩
  rw [lit_len] at ho6
  rw [lit_len]
  have hx6 := (reads_of_owns ho5).below hb6
  have hy6 := reads_of_owns ho6
  have cx := fun i hi => owns_cell (owns_below ho5 hb6) i hi
  have cy := fun i hi => owns_cell ho6 i hi
  have hb7 := below_size hb4 (below_size hb5 hb6)
  clear ho5 ho6 hb4 hb5 hb6
  have CX := Lib.hid cx; have CY := Lib.hid cy
  clear cx cy
  go_wp2_with fail
  go_loopw [13] (fun i wr => ∃ k : Nat, k ≤ m ∧ i = .int .i64 k ∧ ∃ nq, wr = w6.drewN nq) (fun i _ => m - (intOf i).toNat)
  case atStart => exact ⟨0, Nat.zero_le _, rfl, 0, rfl⟩
  case round =>
    obtain ⟨k, hk, rfl, nq0, rfl⟩ := hrel
    by_cases hlt : k < m
    · have c1 := CX.out k hlt
      have c2 := CY.out (m - 1 - k) (by omega)
      rw [big_getD _ _ _ hlt] at c1
      rw [lit_getD _ _ _ (by omega)] at c2
      generalize n / 2 ^ (8 * (m - 1 - k)) % 256 = z at *
      go_wp2_with fail
      go_quiet (fail)
      rw [drewN_drewN]
      generalize hq : nq0 + nq = q
      go_wp2_with fail
      go_roundw
      case rel => exact ⟨k + 1, by omega, by go_num, q, rfl⟩
      case measure => simp [intOf]; omega
    · obtain rfl : k = m := by omega
      have hx8 := hx6.drewN nq0
      have hy8 := hy6.drewN nq0
      have hb8 := below_drewN hb7 nq0
      clear CX CY hx6 hy6 hb7
      generalize w6.drewN nq0 = w8 at *
      have hr8 := hr.below hb8
      have hB1 := big_isB n k
      have hB2 := lit_isB n k
      have v1 := rbig_big n k n0 Nlt.out
      have v2 := rlit_lit n k n0 Nlt.out
      have e0 : rdErr ((l + k : Nat) : Int) l k = 0 := by unfold rdErr; rw [if_neg (by omega), if_neg (by omega)]
      have e2 : rdErr ((l + k : Nat) : Int) ((l : Int) + 1) k = 2 := by unfold rdErr; rw [if_neg (by omega), if_pos (by omega)]
      have E0 := Lib.hid e0; have E2 := Lib.hid e2
      have t1 : ((xs ++ big n k).drop l).take k = big n k := by rw [List.drop_left' Hxl.out, List.take_of_length_le (by rw [big_len]; exact Nat.le_refl _)]
      have t2 : ((xs ++ lit n k).drop l).take k = lit n k := by rw [List.drop_left' Hxl.out, List.take_of_length_le (by rw [lit_len]; exact Nat.le_refl _)]
      have T1 := Lib.hid t1; have T2 := Lib.hid t2; have V1 := Lib.hid v1; have V2 := Lib.hid v2
      clear e0 e2 t1 t2 v1 v2
      generalize hbg : big n k = B1 at *
      generalize hlt' : lit n k = B2 at *
      clear hbg hlt'
      go_wp2_with fail
      refine (copyBytes_any a l cap xs w8 hr8 (by omega)).mono ?_; rintro e w9 ⟨a9, c9, rfl, ho9, hb9⟩
      rw [Hxl.out] at ho9
      rw [Hxl.out]
      go_wp2_with (at_builtin; refine wpList_append_reads _ rfl _ _ 22 rfl w8.heap.size 5 i0 (.int .u8 0) 1 Try.underlying22 Hi.out Hz0.out Hz1.out Hz2.out rfl .u8 a9 l c9 xs rfl ho9 _ k c5 B1 rfl (hx8.below hb9) (by unfold maxLen; omega) (by omega) hb9.size ?_)
      intro a10 c10 w10 ho10 hg10 _
      rw [← List.map_append] at ho10
      have hb10 : Below w8.heap.size w8 w10 := below_grown hb9 ho9 hg10 (Nat.le_refl _) hb9.size
      clear hg10 ho9 hb9
      go_wp2_with fail
      refine (readBig_yes a10 (l + k) c10 (xs ++ B1) l k w10 (reads_of_owns ho10) (hb.append hB1) E0.out).mono ?_; rintro e w11 ⟨rfl, rfl⟩
      rw [T1.out, V1.out]
      clear ho10
      go_wp2_with fail
      refine (copyBytes_any a l cap xs w11 (hr8.below hb10) (by omega)).mono ?_; rintro e w12 ⟨a12, c12, rfl, ho12, hb12⟩
      rw [Hxl.out] at ho12
      rw [Hxl.out]
      go_wp2_with (at_builtin; refine wpList_append_reads _ rfl _ _ 22 rfl w11.heap.size 5 i0 (.int .u8 0) 1 Try.underlying22 Hi.out Hz0.out Hz1.out Hz2.out rfl .u8 a12 l c12 xs rfl ho12 _ k c6 B2 rfl ((hy8.below hb10).below hb12) (by unfold maxLen; omega) (by omega) hb12.size ?_)
      intro a13 c13 w13 ho13 hg13 _
      rw [← List.map_append] at ho13
      have hb13 : Below w11.heap.size w11 w13 := below_grown hb12 ho12 hg13 (Nat.le_refl _) hb12.size
      clear hg13 ho12 hb12
      go_wp2_with fail
      refine (readLittle_yes a13 (l + k) c13 (xs ++ B2) l k w13 (reads_of_owns ho13) (hb.append hB2) E0.out).mono ?_; rintro e w14 ⟨rfl, rfl⟩
      rw [T2.out, V2.out]
      clear ho13
      have hb14 := below_size hb10 hb13
      go_wp2_with fail
      refine (copyBytes_any a l cap xs w14 (hr8.below hb14) (by omega)).mono ?_; rintro e w15 ⟨a15, c15, rfl, ho15, hb15⟩
      rw [Hxl.out] at ho15
      rw [Hxl.out]
      go_wp2_with (at_builtin; refine wpList_append_reads _ rfl _ _ 22 rfl w14.heap.size 5 i0 (.int .u8 0) 1 Try.underlying22 Hi.out Hz0.out Hz1.out Hz2.out rfl .u8 a15 l c15 xs rfl ho15 _ k c5 B1 rfl ((hx8.below hb14).below hb15) (by unfold maxLen; omega) (by omega) hb15.size ?_)
      intro a16 c16 w16 ho16 hg16 _
      rw [← List.map_append] at ho16
      have hb16 : Below w14.heap.size w14 w16 := below_grown hb15 ho15 hg16 (Nat.le_refl _) hb15.size
      clear hg16 ho15 hb15
      go_wp2_with fail
      refine (readBig_no a16 (l + k) c16 ((l : Int) + 1) k w16 (by omega) (by omega) (by omega) (by rw [E2.out]; decide)).mono ?_; rintro e w17 ⟨rfl, rfl⟩
      rw [E2.out]
      go_wp2_with fail
      refine (first_any w17).mono ?_; rintro e w18 ⟨rfl, hb18⟩
      have hb19 := below_size hb8 (below_size hb14 (below_size hb16 hb18))
      go_wp2_with fail
      go_ret
      exact ⟨rfl, hb19⟩

theorem walk_NumBack (n m : Int) (a : Option Addr) (l cap : Nat) (xs : List Int) (w : World) (h0 : -9223372036854775808 ≤ n ∧ n ≤ 9223372036854775807) (_h1 : -9223372036854775808 ≤ m ∧ m ≤ 9223372036854775807) (hr : Reads .u8 w a l cap xs) (hb : isB xs) :
    Calls Try.prog 5 #[.int .i64 n, .int .i64 m, .slice a l cap] w fun e w' => e = .returned (.bool true) ∧ Below w.heap.size w w' := by
  have hl := hr.n63.1
  by_cases hs : (8000 : Int) < l
  · exact back_large n m a l cap w hl hs
  · by_cases hf : fit n m = true
    · have h := of_decide_eq_true hf
      obtain ⟨m, rfl⟩ := Int.eq_ofNat_of_zero_le (show 0 ≤ m by omega)
      exact back_yes n m a l cap xs w hr hb (by omega) h0 hf
    · exact back_no n m a l cap xs w hr hb (by omega) h0 (by simpa using hf)
end Go.Proofs.Ytckekklmjegajaa
