/-
  The walk of HuffCodes.
-/
import Derived.Test.YtmdkinhbfndoeaaHuffFirst
namespace Go.Proofs.Ytmdkinhbfndoeaa
open Go.RowKit

theorem is64_of_wf {zs : List Int} (h : ∀ n ∈ zs, (Lit.int .i64 n).wf = true) : is64 zs := fun n hn => wf_i64 (h n hn)

theorem hc_not (a : Option Addr) (n cap : Nat) (w : World) (_hn : n ≤ 9223372036854775807) (h : ¬ n ≤ 400) :
    Calls Try.prog 4 #[.slice a n cap] w fun e w' => e = .returned (.bool true) ∧ Below w.heap.size w w' := by
  have h1 : (400 : Int) < n := by omega
  clear h
  go_enter Try.func4, Try.ntmps4
  go_wp2_with fail
  refine (first_any w).mono ?_; rintro e w1 ⟨rfl, b1⟩
  go_wp2_with fail
  refine (first_any w1).mono ?_; rintro e w2 ⟨rfl, b2⟩
  go_wp2_with fail
  go_ret
  exact ⟨rfl, below_size b1 b2⟩

set_option maxRecDepth 100000 in
set_option maxHeartbeats 1000000 in
theorem hc_no1 (a : Option Addr) (n cap : Nat) (xs : List Int) (w : World) (hr : Reads .i64 w a n cap xs) (h64 : is64 xs) (hn : n ≤ 400) (hk : ¬ lensOk xs) :
    Calls Try.prog 4 #[.slice a n cap] w fun e w' => e = .returned (.bool true) ∧ Below w.heap.size w w' := by
  have HR := Lib.hid hr; have HL := Lib.hid hr.len; have H64 := Lib.hid h64; have HK := Lib.hid hk
  have h400 : ¬ (400 : Int) < n := by omega
  clear hr h64 hk
  go_enter Try.func4, Try.ntmps4
  go_wp2_with fail
  refine (first_any w).mono ?_; rintro e w1 ⟨rfl, b1⟩
  have R := Lib.hid (HR.out.below b1); have B := Lib.hid b1
  clear HR b1
  go_wp2_with fail
  refine (copyInts_any a n cap xs w1 R.out (by omega)).mono ?_; rintro e w2 ⟨a5, c5, rfl, o5, b2⟩
  have O5 := Lib.hid o5
  replace R := Lib.hid (R.out.below b2); replace B := Lib.hid (below_size B.out b2)
  clear o5 b2
  go_wp2_with fail
  refine (kraft_any a5 n c5 xs w2 (reads_of_owns O5.out) H64.out).mono ?_; rintro e w2' ⟨rfl, rfl⟩
  rw [krR_no HK.out]
  go_wp2_with fail
  refine (rkraft_any a n cap xs _ R.out H64.out).mono ?_; rintro e w2' ⟨rfl, rfl⟩
  rw [krR_no HK.out]
  go_wp2_with fail
  refine (codes_no1 a5 n c5 xs _ (reads_of_owns O5.out) H64.out HK.out).mono ?_; rintro e w2' ⟨rfl, rfl⟩
  go_wp2_with fail
  refine (rcodes_no1 a n cap xs _ R.out H64.out HK.out).mono ?_; rintro e w2' ⟨rfl, rfl⟩
  go_wp2_with fail
  refine (ints_any a5 a n c5 n cap xs xs _ (reads_of_owns O5.out) R.out).mono ?_; rintro e w3 ⟨rfl, b3⟩
  rw [decide_eq_true rfl]
  replace B := Lib.hid (below_size B.out b3)
  clear b3
  go_wp2_with fail
  go_loopw [12] (fun vi wr => vi = .int .i64 0 ∧ wr = w3) (fun _ _ => 0)
  case atStart => exact ⟨rfl, rfl⟩
  case round =>
    obtain ⟨rfl, rfl⟩ := hrel
    go_wp2_with fail
    refine (first_any _).mono ?_; rintro e w4 ⟨rfl, b4⟩
    go_wp2_with fail
    go_ret
    exact ⟨rfl, below_size B.out b4⟩

set_option maxRecDepth 100000 in
set_option maxHeartbeats 1000000 in
theorem hc_no4 (a : Option Addr) (n cap : Nat) (xs : List Int) (w : World) (hr : Reads .i64 w a n cap xs) (h64 : is64 xs) (hn : n ≤ 400) (hk : lensOk xs) (hf : 32768 < krS xs) :
    Calls Try.prog 4 #[.slice a n cap] w fun e w' => e = .returned (.bool true) ∧ Below w.heap.size w w' := by
  have HR := Lib.hid hr; have HL := Lib.hid hr.len; have H64 := Lib.hid h64; have HK := Lib.hid hk
  have HF := Lib.hid hf
  clear hf
  have h400 : ¬ (400 : Int) < n := by omega
  clear hr h64 hk
  go_enter Try.func4, Try.ntmps4
  go_wp2_with fail
  refine (first_any w).mono ?_; rintro e w1 ⟨rfl, b1⟩
  have R := Lib.hid (HR.out.below b1); have B := Lib.hid b1
  clear HR b1
  go_wp2_with fail
  refine (copyInts_any a n cap xs w1 R.out (by omega)).mono ?_; rintro e w2 ⟨a5, c5, rfl, o5, b2⟩
  have O5 := Lib.hid o5
  replace R := Lib.hid (R.out.below b2); replace B := Lib.hid (below_size B.out b2)
  clear o5 b2
  go_wp2_with fail
  refine (kraft_any a5 n c5 xs w2 (reads_of_owns O5.out) H64.out).mono ?_; rintro e w2' ⟨rfl, rfl⟩
  rw [krR_ok HK.out]
  go_wp2_with fail
  refine (rkraft_any a n cap xs _ R.out H64.out).mono ?_; rintro e w2' ⟨rfl, rfl⟩
  rw [krR_ok HK.out]
  go_wp2_with fail
  refine (codes_no4 a5 n c5 xs _ (reads_of_owns O5.out) H64.out HK.out HF.out).mono ?_; rintro e w2' ⟨rfl, rfl⟩
  go_wp2_with fail
  refine (rcodes_no4 a n cap xs _ R.out H64.out HK.out HF.out).mono ?_; rintro e w2' ⟨rfl, rfl⟩
  go_wp2_with fail
  refine (ints_any a5 a n c5 n cap xs xs _ (reads_of_owns O5.out) R.out).mono ?_; rintro e w3 ⟨rfl, b3⟩
  rw [decide_eq_true rfl]
  replace B := Lib.hid (below_size B.out b3)
  clear b3
  go_wp2_with fail
  go_loopw [12] (fun vi wr => vi = .int .i64 0 ∧ wr = w3) (fun _ _ => 0)
  case atStart => exact ⟨rfl, rfl⟩
  case round =>
    obtain ⟨rfl, rfl⟩ := hrel
    go_wp2_with fail
    refine (first_any _).mono ?_; rintro e w4 ⟨rfl, b4⟩
    go_wp2_with fail
    go_ret
    exact ⟨rfl, below_size B.out b4⟩

set_option maxRecDepth 100000 in
set_option maxHeartbeats 1000000 in
theorem hc_yes (a : Option Addr) (n cap : Nat) (xs : List Int) (w : World) (hr : Reads .i64 w a n cap xs) (h64 : is64 xs) (hn : n ≤ 400) (hk : lensOk xs) (hf : krS xs ≤ 32768) :
    Calls Try.prog 4 #[.slice a n cap] w fun e w' => e = .returned (.bool true) ∧ Below w.heap.size w w' := by
  have HR := Lib.hid hr; have HL := Lib.hid hr.len; have H64 := Lib.hid h64; have HK := Lib.hid hk
  have HF := Lib.hid hf
  clear hf
  have h400 : ¬ (400 : Int) < n := by omega
  clear hr h64 hk
  go_enter Try.func4, Try.ntmps4
  go_wp2_with fail
  refine (first_any w).mono ?_; rintro e w1 ⟨rfl, b1⟩
  have R := Lib.hid (HR.out.below b1); have B := Lib.hid b1
  clear HR b1
  go_wp2_with fail
  refine (copyInts_any a n cap xs w1 R.out (by omega)).mono ?_; rintro e w2 ⟨a5, c5, rfl, o5, b2⟩
  have O5 := Lib.hid o5
  replace R := Lib.hid (R.out.below b2); replace B := Lib.hid (below_size B.out b2)
  clear o5 b2
  go_wp2_with fail
  refine (kraft_any a5 n c5 xs w2 (reads_of_owns O5.out) H64.out).mono ?_; rintro e w2' ⟨rfl, rfl⟩
  rw [krR_ok HK.out]
  go_wp2_with fail
  refine (rkraft_any a n cap xs _ R.out H64.out).mono ?_; rintro e w2' ⟨rfl, rfl⟩
  rw [krR_ok HK.out]
  go_wp2_with fail
  refine (codes_yes a5 n c5 xs _ (reads_of_owns O5.out) H64.out HK.out HF.out).mono ?_; rintro e w3 ⟨g3, k3, rfl, C, b3⟩
  rw [HL.out] at C ⊢
  have HC := Lib.hid C
  replace R := Lib.hid (R.out.below b3); replace B := Lib.hid (below_size B.out b3); replace O5 := Lib.hid (owns_below O5.out b3)
  clear C b3
  go_wp2_with fail
  refine (rcodes_yes a n cap xs _ R.out H64.out HK.out HF.out).mono ?_; rintro e w4 ⟨g4, k4, rfl, D, b4⟩
  rw [HL.out] at D ⊢
  have HD := Lib.hid D
  have hlt3 : g3 < w3.heap.size := by obtain ⟨vs, ho, _⟩ := HC.out; exact (ho.lt g3 rfl).2
  have hlt4 : g4 < w4.heap.size := by obtain ⟨vs, ho, _⟩ := HD.out; exact (ho.lt g4 rfl).2
  have Q3 : Hid (∀ j, j < n → w4.cell? ⟨g3, j * 2, Option.none⟩ = some (.int .u32 (codeAt xs j).1) ∧ w4.cell? ⟨g3, j * 2 + 1, Option.none⟩ = some (.int .i64 (codeAt xs j).2)) := Lib.hid (fun j hj => ⟨(b4.cell (p := ⟨g3, j * 2, Option.none⟩) hlt3).trans (HC.out.c0 j hj), (b4.cell (p := ⟨g3, j * 2 + 1, Option.none⟩) hlt3).trans (HC.out.c1 j hj)⟩)
  have hlt34 : g3 < w4.heap.size := Nat.lt_of_lt_of_le hlt3 b4.size
  replace R := Lib.hid (R.out.below b4); replace B := Lib.hid (below_size B.out b4); replace O5 := Lib.hid (owns_below O5.out b4)
  clear D b4 HC hlt3
  go_wp2_with fail
  refine (ints_any a5 a n c5 n cap xs xs _ (reads_of_owns O5.out) R.out).mono ?_; rintro e w5 ⟨rfl, b5⟩
  rw [decide_eq_true rfl]
  replace B := Lib.hid (below_size B.out b5)
  have P : Hid (∀ j, j < n → (w5.cell? ⟨g3, j * 2, Option.none⟩ = some (.int .u32 (codeAt xs j).1) ∧ w5.cell? ⟨g3, j * 2 + 1, Option.none⟩ = some (.int .i64 (codeAt xs j).2)) ∧ w5.cell? ⟨g4, j * 2, Option.none⟩ = some (.int .u32 (codeAt xs j).1) ∧ w5.cell? ⟨g4, j * 2 + 1, Option.none⟩ = some (.int .i64 (codeAt xs j).2)) := Lib.hid (fun j hj => ⟨⟨(b5.cell (p := ⟨g3, j * 2, Option.none⟩) hlt34).trans (Q3.out j hj).1, (b5.cell (p := ⟨g3, j * 2 + 1, Option.none⟩) hlt34).trans (Q3.out j hj).2⟩, (b5.cell (p := ⟨g4, j * 2, Option.none⟩) hlt4).trans (HD.out.c0 j hj), (b5.cell (p := ⟨g4, j * 2 + 1, Option.none⟩) hlt4).trans (HD.out.c1 j hj)⟩)
  have L3 := Lib.hid (Nat.lt_of_lt_of_le hlt34 b5.size); have L4 := Lib.hid (Nat.lt_of_lt_of_le hlt4 b5.size)
  clear b5 Q3 HD hlt34 hlt4 R O5
  go_wp2_with fail
  go_loopw [12] (fun vi wr => ∃ i : Nat, i ≤ n ∧ vi = .int .i64 i ∧ Hid (Below w5.heap.size w5 wr)) (fun vi _ => n - (intOf vi).toNat)
  case atStart => exact ⟨0, Nat.zero_le _, rfl, Lib.hid (Below.refl _ _)⟩
  case round =>
    obtain ⟨i, hi, rfl, HB⟩ := hrel
    by_cases hlt : i < n
    · obtain ⟨⟨p0, p1⟩, p2, p3⟩ := P.out i hlt
      have hz := HB.out.size
      have l3 := Nat.lt_of_lt_of_le L3.out hz
      have l4 := Nat.lt_of_lt_of_le L4.out hz
      have d0 := fun z : GrownW wr => z.cell l3 ((HB.out.cell (p := ⟨g3, i * 2, Option.none⟩) L3.out).trans p0)
      have d1 := fun z : GrownW wr => z.cell l3 ((HB.out.cell (p := ⟨g3, i * 2 + 1, Option.none⟩) L3.out).trans p1)
      have d2 := fun z : GrownW wr => z.cell l4 ((HB.out.cell (p := ⟨g4, i * 2, Option.none⟩) L4.out).trans p2)
      have d3 := fun z : GrownW wr => z.cell l4 ((HB.out.cell (p := ⟨g4, i * 2 + 1, Option.none⟩) L4.out).trans p3)
      have hlt' : (i : Int) < n := by omega
      clear p0 p1 p2 p3
      generalize (codeAt xs i).1 = x at *
      generalize (codeAt xs i).2 = y at *
      go_upto_region 15 with (fail)
      refine wp_region_grow_lit (by kernel_rfl) (by kernel_rfl) ?_
      repeat (go_big_quiet_step (fail))
      refine wpQuiet_nil ?_
      intro wg hw'
      obtain ⟨⟨wz, hbg⟩, hw''⟩ := hw'
      subst hw''
      clear d0 d1 d2 d3
      go_wp2_with fail
      go_roundw
      case rel => exact ⟨i + 1, by omega, by go_num, Lib.hid (below_size HB.out hbg)⟩
      case measure => simp [intOf]; omega
    · have hlt' : ¬ (i : Int) < n := by omega
      go_wp2_with fail
      refine (first_any _).mono ?_; rintro e w6 ⟨rfl, b6⟩
      replace B := Lib.hid (below_size B.out HB.out)
      go_wp2_with fail
      go_ret
      exact ⟨rfl, below_size B.out b6⟩

theorem walk_HuffCodes (a : Option Addr) (n cap : Nat) (xs : List Int) (w : World) (hr : Reads .i64 w a n cap xs) (hw : ∀ n ∈ xs, (Lit.int .i64 n).wf = true) :
    Calls Try.prog 4 #[.slice a n cap] w fun e w' => e = .returned (.bool true) ∧ Below w.heap.size w w' := by
  have h64 := is64_of_wf hw
  by_cases hn : n ≤ 400
  · by_cases hk : lensOk xs
    · by_cases hf : krS xs ≤ 32768
      · exact hc_yes a n cap xs w hr h64 hn hk hf
      · exact hc_no4 a n cap xs w hr h64 hn hk (by omega)
    · exact hc_no1 a n cap xs w hr h64 hn hk
  · exact hc_not a n cap w hr.n63.1 hn
end Go.Proofs.Ytmdkinhbfndoeaa
