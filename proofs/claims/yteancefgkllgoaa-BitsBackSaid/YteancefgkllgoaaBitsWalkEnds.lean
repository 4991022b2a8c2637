/-
  The walk of BitsEnds.
-/
import Derived.Test.YteancefgkllgoaaBitsFirst
import Derived.Test.YteancefgkllgoaaBitsGet
namespace Go.Proofs.Yteancefgkllgoaa
open Go.RowKit

theorem Rdr.below {w w' : World} {g : Nat} {xs : List Int} {p : Nat} (h : Rdr w g xs p) (hb : Below w.heap.size w w') : Rdr w' g xs p := by
  obtain ⟨a, n, cap, h1, h2, h3, h4, h5, h6, h7⟩ := h
  exact ⟨a, n, cap, Nat.lt_of_lt_of_le h1 hb.size, (hb.cell h1).trans h2, (hb.cell h1).trans h3, (hb.frozen h1).trans h4, (hb.frozen h1).trans h5, h6.below hb, h7⟩
theorem eqRdr (w : World) (a : Addr) : (binOp .eql 40 (.pointer (some a)) (.pointer Option.none)).run Try.prog w = .ok (.bool false) w := by kernel_rfl

set_option maxHeartbeats 1000000 in
theorem ends_not (a : Option Addr) (n cap : Nat) (step : Int) (w : World) (hn : n ≤ 9223372036854775807) (h : ¬ (n ≤ 1000 ∧ 1 ≤ step ∧ step ≤ 24)) :
    Calls Try.prog 7 #[.slice a n cap, .int .i64 step] w fun e w' => e = .returned (.bool true) ∧ Below w.heap.size w w' := by
  by_cases h1 : (1000 : Int) < n
  · go_enter Try.func7, Try.ntmps7
    go_wp2_with fail
    refine (first_any w).mono ?_; rintro e w1 ⟨rfl, b1⟩
    go_wp2_with fail
    refine (first_any w1).mono ?_; rintro e w2 ⟨rfl, b2⟩
    go_wp2_with fail
    go_ret
    exact ⟨rfl, below_size b1 b2⟩
  · by_cases h2 : step < 1
    · go_enter Try.func7, Try.ntmps7
      go_wp2_with fail
      refine (first_any w).mono ?_; rintro e w1 ⟨rfl, b1⟩
      go_wp2_with fail
      refine (first_any w1).mono ?_; rintro e w2 ⟨rfl, b2⟩
      go_wp2_with fail
      go_ret
      exact ⟨rfl, below_size b1 b2⟩
    · have h3 : 24 < step := by omega
      go_enter Try.func7, Try.ntmps7
      go_wp2_with fail
      refine (first_any w).mono ?_; rintro e w1 ⟨rfl, b1⟩
      go_wp2_with fail
      refine (first_any w1).mono ?_; rintro e w2 ⟨rfl, b2⟩
      go_wp2_with fail
      go_ret
      exact ⟨rfl, below_size b1 b2⟩

set_option maxRecDepth 100000 in
set_option maxHeartbeats 4000000 in
theorem ends_in (a : Option Addr) (n cap : Nat) (xs : List Int) (s : Nat) (w : World) (hr : Reads .u8 w a n cap xs) (hb : isB xs) (hn : n ≤ 1000) (hs : 1 ≤ s) (hs2 : s ≤ 24) :
    Calls Try.prog 7 #[.slice a n cap, .int .i64 s] w fun e w' => e = .returned (.bool true) ∧ Below w.heap.size w w' := by
  obtain ⟨V, hV⟩ : ∃ V : Nat, rlit xs = (V : Int) := ⟨(rlit xs).toNat, by have := (rlit_bd xs hb).1; omega⟩
  have HV := Lib.hid hV; clear hV
  have Hl := Lib.hid hr.len
  have hdiv : (8 * (n : Int)) / (s : Int) = ((8 * n / s : Nat) : Int) := by simp
  have hm1 : 8 * n / s * s ≤ 8 * n := Nat.div_mul_le_self _ _
  have hm2 : 8 * n < (8 * n / s + 1) * s := Nat.lt_mul_of_div_lt (Nat.lt_succ_self _) (by omega)
  have hm3 : 8 * n / s ≤ 8 * n := Nat.div_le_self _ _
  generalize 8 * n / s = m at *
  rw [Nat.add_mul] at hm2
  have HB := Lib.hid hb; have HR := Lib.hid hr
  have c1 : decide ((1000 : Int) < n) = false := by simp; omega
  have c2 : decide ((s : Int) < 1) = false := by simp; omega
  have c3 : decide (24 < (s : Int)) = false := by simp; omega
  have HD := Lib.hid hdiv
  have H1 := Lib.hid hm1; have H2 := Lib.hid hm2
  clear hb hr hm1 hm2
  go_enter Try.func7, Try.ntmps7
  go_wp2_with fail
  refine (first_any w).mono ?_; rintro e w1 ⟨rfl, b1⟩
  go_wp2_with fail
  refine (newReader_any a n cap xs w1 (HR.out.below b1) HB.out (by omega)).mono ?_; rintro e w2 ⟨g, rfl, R2, hg, b2⟩
  have B2 := Lib.hid (below_size b1 b2)
  have HR2 := Lib.hid R2
  have hg0 : w.heap.size ≤ g := by have := b1.size; omega
  clear b1 b2 R2 hg
  go_wp2_with fail
  rw [HD.out]
  go_loopw [7] (fun vi wr => ∃ i : Nat, i ≤ m ∧ vi = .int .i64 i ∧ Rdr wr g xs (s * i) ∧ Below w.heap.size w wr) (fun vi _ => m - (intOf vi).toNat)
  case atStart => exact ⟨0, Nat.zero_le _, rfl, HR2.out, B2.out⟩
  case round =>
    obtain ⟨i, hi, rfl, hd, hbl⟩ := hrel
    by_cases hlt : i < m
    · have hmul : s * (i + 1) ≤ s * m := Nat.mul_le_mul_left _ hlt
      have hk : s * (i + 1) ≤ 8 * n := by rw [Nat.mul_comm] at hmul; have := H1.out; rw [Nat.mul_comm m] at this; rw [Nat.mul_comm (i+1)] at hmul; omega
      have hk2 : s * i + s = s * (i + 1) := by rw [Nat.mul_add, Nat.mul_one]
      have HD2 := Lib.hid hd; have HBL := Lib.hid hbl
      clear hd hbl hmul
      go_wp2_with fail
      refine (get_yes s V HD2.out HV.out hs2 (by have := Hl.out; omega)).mono ?_; rintro e w4 ⟨rfl, R4, O4⟩
      rw [hk2] at R4
      have HR4 := Lib.hid R4
      have B4 := Lib.hid (HBL.out.trans (O4.below.mono hg0))
      clear R4 O4
      generalize hP : s * (i + 1) = P at *
      have hP' : (s : Int) * ((i : Int) + 1) = P := by rw [← hP]; simp
      clear HD2 HBL HR2 B2
      have HPP := Lib.hid hP; clear hP
      go_wp2_with fail
      refine (at_any HR4.out).mono ?_; rintro e w5 ⟨rfl, rfl⟩
      go_wp2_with fail
      have hl8 : 8 * (n : Int) - (P : Int) = ((8 * xs.length - P : Nat) : Int) := by have := Hl.out; omega
      generalize hQ : 8 * xs.length - P = Q at *
      have HL := left_any (g := g) (xs := xs) (p := P) HR4.out
      rw [hQ] at HL
      have HLL := Lib.hid HL; clear HL
      have HQ := Lib.hid hQ; clear hQ
      refine HLL.out.mono ?_; rintro e w6 ⟨rfl, q, rfl⟩
      go_wp2_with fail
      go_roundw
      case rel => exact ⟨i + 1, by omega, by go_num, by rw [HPP.out]; exact HR4.out.drewN q, below_drewN B4.out q⟩
      case measure => simp [intOf]; omega
    · obtain rfl : i = m := by omega
      have HD2 := Lib.hid hd; have HBL := Lib.hid hbl
      have h1 := H1.out; have h2 := H2.out; have hl := Hl.out
      clear hd hbl hlt HR2 B2
      rw [Nat.mul_comm] at h1 h2
      have hcom : (i : Int) * (s : Int) = ((s * i : Nat) : Int) := by simp [Int.mul_comm]
      generalize hP : s * i = P at *
      have HP := Lib.hid hP; clear hP
      have hsh : 8 * xs.length - P < s := by rw [hl]; omega
      have HSh := Lib.hid hsh
      have HP8 : Hid (P ≤ 8 * n) := by show P ≤ 8 * n; exact h1
      clear h1 h2 hl hsh
      go_wp2_with fail
      refine (get_short s HD2.out hs2 HSh.out).mono ?_; rintro e w4 ⟨rfl, q, rfl⟩
      have HR4 := Lib.hid (HD2.out.drewN q)
      have B4 := Lib.hid (below_drewN HBL.out q)
      generalize wr.drewN q = w4 at *
      clear HD2 HBL
      go_wp2_with fail
      refine (at_any HR4.out).mono ?_; rintro e w5 ⟨rfl, rfl⟩
      go_wp2_with fail
      refine (ralign_any g xs P _ HR4.out).mono ?_; rintro e w6 ⟨rfl, R6, O6⟩
      have B6 := B4.out.trans (O6.below.mono hg0)
      have HR6 := Lib.hid R6
      clear R6 O6 HR4 B4
      obtain ⟨T, hT⟩ : ∃ T : Nat, (P + 7) / 8 * 8 = T := ⟨_, rfl⟩
      rw [hT] at HR6
      have t1 : P ≤ T := by omega
      have t2 : T < P + 8 := by omega
      have t3 : ((T : Int) % 8 == 0) = true := by simp; omega
      clear hT
      go_wp2_with fail
      refine (first_any w6).mono ?_; rintro e w7 ⟨rfl, b7⟩
      have B7 := Lib.hid (below_size B6 b7)
      have HR7 := Lib.hid (HR6.out.below b7)
      have hP8 : P ≤ 8 * n := HP8.out
      have hcb : 0 ≤ (i : Int) * (s : Int) ∧ (i : Int) * (s : Int) ≤ 8000 := by omega
      clear b7 B6 HR6 hdiv hm3 hi c1 c2 c3
      go_wp2_with fail
      refine (at_any HR7.out).mono ?_; rintro e w8 ⟨rfl, rfl⟩
      go_wp2_with fail
      refine (at_any HR7.out).mono ?_; rintro e w9 ⟨rfl, rfl⟩
      go_wp2_with fail
      refine (at_any HR7.out).mono ?_; rintro e w10 ⟨rfl, rfl⟩
      go_wp2_with fail
      go_ret
      exact ⟨ret_bool (by simp; omega), B7.out⟩

theorem walk_BitsEnds (a : Option Addr) (n cap : Nat) (xs : List Int) (step : Int) (w : World) (hr : Reads .u8 w a n cap xs) (hb : isB xs) (_ : -9223372036854775808 ≤ step ∧ step ≤ 9223372036854775807) :
    Calls Try.prog 7 #[.slice a n cap, .int .i64 step] w fun e w' => e = .returned (.bool true) ∧ Below w.heap.size w w' := by
  by_cases h : n ≤ 1000 ∧ 1 ≤ step ∧ step ≤ 24
  · obtain ⟨s, rfl⟩ := Int.eq_ofNat_of_zero_le (show 0 ≤ step by omega)
    exact ends_in a n cap xs s w hr hb h.1 (by omega) (by omega)
  · exact ends_not a n cap step w hr.n63.1 h
end Go.Proofs.Yteancefgkllgoaa
