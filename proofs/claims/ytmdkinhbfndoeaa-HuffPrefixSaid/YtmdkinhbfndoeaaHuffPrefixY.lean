/-
  The walk of HuffPrefix: where there are codes.
-/
import Derived.Test.YtmdkinhbfndoeaaHuffPrefixW
namespace Go.Proofs.Ytmdkinhbfndoeaa
open Go.RowKit

set_option maxRecDepth 100000 in
set_option maxHeartbeats 4000000 in
theorem hp_yes (a : Option Addr) (n cap : Nat) (xs : List Int) (w : World) (hr : Reads .i64 w a n cap xs) (h64 : is64 xs) (hn : n ≤ 300) (hk : lensOk xs) (hf : krS xs ≤ 32768) :
    Calls Try.prog 8 #[.slice a n cap] w fun e w' => e = .returned (.bool true) ∧ Below w.heap.size w w' := by
  have HR := Lib.hid hr; have HL := Lib.hid hr.len; have H64 := Lib.hid h64; have HK := Lib.hid hk; have HF := Lib.hid hf
  have h300 : ¬ (300 : Int) < n := by omega
  clear hr h64 hk hf
  go_enter Try.func8, Try.ntmps8
  go_wp2_with fail
  refine (first_any w).mono ?_; rintro e w1 ⟨rfl, b1⟩
  have R := Lib.hid (HR.out.below b1); have B := Lib.hid b1
  clear HR b1
  go_wp2_with fail
  refine (codes_yes a n cap xs w1 R.out H64.out HK.out HF.out).mono ?_; rintro e w2 ⟨g, k, rfl, C, b2⟩
  rw [HL.out] at C ⊢
  have HC := Lib.hid C
  have hlt : g < w2.heap.size := by obtain ⟨vs, ho, _⟩ := C; exact (ho.lt g rfl).2
  have HG := Lib.hid hlt
  replace R := Lib.hid (R.out.below b2); replace B := Lib.hid (below_size B.out b2)
  clear C b2 hlt
  go_wp2_with fail
  go_loopw [5] (fun vi wr => ∃ i : Nat, i ≤ n ∧ vi = .int .i64 i ∧ Hid (Below w2.heap.size w2 wr)) (fun vi _ => n - (intOf vi).toNat)
  case atStart => exact ⟨0, Nat.zero_le _, rfl, Lib.hid (Below.refl _ _)⟩
  case round =>
    obtain ⟨i, hi, rfl, HB⟩ := hrel
    by_cases hlt : i < n
    · have X := R.out.below HB.out
      obtain ⟨bx, ox, rfl, hlx, hcx⟩ := X.cells (by omega)
      have l3 := Nat.lt_of_lt_of_le HG.out HB.out.size
      have dx := fun z : GrownW wr => z.cell hlx (hcx i hlt)
      have d0 := fun z : GrownW wr => z.cell l3 ((HB.out.cell (p := ⟨g, i * 2, Option.none⟩) HG.out).trans (HC.out.c0 i hlt))
      have d1 := fun z : GrownW wr => z.cell l3 ((HB.out.cell (p := ⟨g, i * 2 + 1, Option.none⟩) HG.out).trans (HC.out.c1 i hlt))
      have hy := HK.out.2 (xs.getD i 0) (by simp [List.getD, show i < xs.length by rw [HL.out]; exact hlt])
      obtain ⟨y, hy1⟩ : ∃ y : Nat, xs.getD i 0 = (y : Int) := ⟨(xs.getD i 0).toNat, by omega⟩
      have hlt' : (i : Int) < n := by omega
      rw [hy1] at dx
      clear X hcx
      by_cases hy0 : y = 0
      · subst hy0
        have e := codeAt_zero xs i hy1
        rw [e] at d0 d1
        clear hy e
        go_upto_region 13 with (fail)
        refine wp_region_grow_lit (by kernel_rfl) (by kernel_rfl) ?_
        repeat (go_big_quiet_step (fail))
        refine wpQuiet_nil ?_
        intro wg hw'
        obtain ⟨⟨wz, hbg⟩, hw''⟩ := hw'
        subst hw''
        replace HB := Lib.hid (below_size HB.out hbg)
        clear hbg dx d0 d1 l3
        go_wp2_with fail
        go_loopw [6] (fun vj wz => ∃ j : Nat, j ≤ n ∧ vj = .int .i64 j ∧ Hid (Below w2.heap.size w2 wz)) (fun vj _ => n - (intOf vj).toNat)
        case atStart => exact ⟨0, Nat.zero_le _, rfl, HB⟩
        case round =>
          clear HB
          obtain ⟨j, hj, rfl, HB⟩ := hrel
          by_cases hjn : j < n
          · have l3 := Nat.lt_of_lt_of_le HG.out HB.out.size
            have d1 := fun z : GrownW wr => z.cell l3 ((HB.out.cell (p := ⟨g, i * 2 + 1, Option.none⟩) HG.out).trans (HC.out.c1 i hlt))
            rw [codeAt_zero xs i hy1] at d1
            have hjn' : (j : Int) < n := by omega
            by_cases hij : i = j
            · subst hij
              go_upto_region 18 with (fail)
              refine wp_region_grow_lit (by kernel_rfl) (by kernel_rfl) ?_
              repeat (go_big_quiet_step (fail))
              refine wpQuiet_nil ?_
              intro wg hw'
              obtain ⟨⟨wz, hbg⟩, hw''⟩ := hw'
              subst hw''
              clear d1
              go_wp2_with fail
              go_roundw
              case rel => exact ⟨i + 1, by omega, by go_num, Lib.hid (below_size HB.out hbg)⟩
              case measure => simp [intOf]; omega
            · have hij' : ((i : Int) == (j : Int)) = false := by simp; omega
              have hij2 : ¬ (i : Int) = j := by omega
              go_upto_region 18 with (fail)
              refine wp_region_grow_lit (by kernel_rfl) (by kernel_rfl) ?_
              repeat (go_big_quiet_step (fail))
              refine wpQuiet_nil ?_
              intro wg hw'
              obtain ⟨⟨wz, hbg⟩, hw''⟩ := hw'
              subst hw''
              clear d1
              go_wp2_with fail
              go_roundw
              case rel => exact ⟨j + 1, by omega, by go_num, Lib.hid (below_size HB.out hbg)⟩
              case measure => simp [intOf]; omega
          · have hjn' : ¬ (j : Int) < n := by omega
            go_wp2_with fail
            go_roundw
            case rel => exact ⟨i + 1, by omega, by go_num, HB⟩
            case measure => simp [intOf]; omega
      · have e := codeAt_num xs i y hy1 (by omega)
        have hc := code_fits xs i y (by rw [HL.out]; exact hlt) hy1 (by omega) (by omega) HF.out
        rw [e] at d0 d1
        have hsh : (codeN xs i : Int) / 2 ^ y = 0 := by
          have : ((codeN xs i / 2 ^ y : Nat) : Int) = 0 := by rw [Nat.div_eq_of_lt hc]; rfl
          simpa using this
        have hu : IntKind.u64.wrap (y : Int) = y := by rw [IntKind.wrap_u64]; omega
        have hyb : ((y : Int) == 0) = false := by simp; omega
        have hyb2 : ¬ (y : Int) = 0 := by omega
        have hyp : (0 : Int) < y := by omega
        have hyn : 0 < y := by omega
        have hy15 : (y : Int) ≤ 15 := hy1 ▸ hy.2
        have P1 : Hid (∀ j z, j < n → xs.getD j 0 = ((z : Nat) : Int) → y < z → codeN xs i < codeN xs j / 2 ^ (z - y)) := Lib.hid fun j z hj hz h => code_prefix xs i j y z (by rw [HL.out]; exact hlt) (by rw [HL.out]; exact hj) hy1 hz (by omega) h
        have P2 : Hid (∀ j, i < j → j < n → xs.getD j 0 = (y : Int) → codeN xs i < codeN xs j) := Lib.hid fun j h hj hz => code_rise xs i j y h (by rw [HL.out]; exact hj) hy1 hz
        have P3 : Hid (∀ j, j < i → xs.getD j 0 = (y : Int) → codeN xs j < codeN xs i) := Lib.hid fun j h hz => code_rise xs j i y h (by rw [HL.out]; exact hlt) hz hy1
        have E : Hid (codeAt xs i = ((codeN xs i : Int), (y : Int))) := Lib.hid e
        clear e hc
        generalize codeN xs i = c at *
        go_upto_region 13 with (fail)
        refine wp_region_grow_lit (by kernel_rfl) (by kernel_rfl) ?_
        repeat (go_big_quiet_step (fail))
        refine wpQuiet_nil ?_
        intro wg hw'
        obtain ⟨⟨wz, hbg⟩, hw''⟩ := hw'
        subst hw''
        replace HB := Lib.hid (below_size HB.out hbg)
        clear hbg dx d0 d1 l3 hsh hu
        go_wp2_with fail
        go_loopw [6] (fun vj wz => ∃ j : Nat, j ≤ n ∧ vj = .int .i64 j ∧ Hid (Below w2.heap.size w2 wz)) (fun vj _ => n - (intOf vj).toNat)
        case atStart => exact ⟨0, Nat.zero_le _, rfl, HB⟩
        case round =>
          clear HB
          obtain ⟨j, hj, rfl, HB⟩ := hrel
          by_cases hjn : j < n
          · have l3 := Nat.lt_of_lt_of_le HG.out HB.out.size
            have d0 := fun z : GrownW wr => z.cell l3 ((HB.out.cell (p := ⟨g, i * 2, Option.none⟩) HG.out).trans (HC.out.c0 i hlt))
            have d1 := fun z : GrownW wr => z.cell l3 ((HB.out.cell (p := ⟨g, i * 2 + 1, Option.none⟩) HG.out).trans (HC.out.c1 i hlt))
            have e0 := fun z : GrownW wr => z.cell l3 ((HB.out.cell (p := ⟨g, j * 2, Option.none⟩) HG.out).trans (HC.out.c0 j hjn))
            have e1 := fun z : GrownW wr => z.cell l3 ((HB.out.cell (p := ⟨g, j * 2 + 1, Option.none⟩) HG.out).trans (HC.out.c1 j hjn))
            rw [E.out] at d0 d1
            have hz := HK.out.2 (xs.getD j 0) (by simp [List.getD, show j < xs.length by rw [HL.out]; exact hjn])
            obtain ⟨z, hz1⟩ : ∃ z : Nat, xs.getD j 0 = (z : Int) := ⟨(xs.getD j 0).toNat, by omega⟩
            have hjn' : (j : Int) < n := by omega
            by_cases hij : i = j
            · subst hij
              clear e0 e1 d0 hz hz1
              go_upto_region 18 with (fail)
              refine wp_region_grow_lit (by kernel_rfl) (by kernel_rfl) ?_
              repeat (go_big_quiet_step (fail))
              refine wpQuiet_nil ?_
              intro wg hw'
              obtain ⟨⟨wz, hbg⟩, hw''⟩ := hw'
              subst hw''
              clear d1
              go_wp2_with fail
              go_roundw
              case rel => exact ⟨i + 1, by omega, by go_num, Lib.hid (below_size HB.out hbg)⟩
              case measure => simp [intOf]; omega
            · have hij' : ((i : Int) == (j : Int)) = false := by simp; omega
              have hij2 : ¬ (i : Int) = j := by omega
              by_cases hz0 : z = 0
              · subst hz0
                rw [codeAt_zero xs j hz1] at e1
                clear e0 d0 hz hz1
                go_upto_region 18 with (fail)
                refine wp_region_grow_lit (by kernel_rfl) (by kernel_rfl) ?_
                repeat (go_big_quiet_step (fail))
                refine wpQuiet_nil ?_
                intro wg hw'
                obtain ⟨⟨wz, hbg⟩, hw''⟩ := hw'
                subst hw''
                clear d1 e1
                go_wp2_with fail
                go_roundw
                case rel => exact ⟨j + 1, by omega, by go_num, Lib.hid (below_size HB.out hbg)⟩
                case measure => simp [intOf]; omega
              · have hzb : ((z : Int) == 0) = false := by simp; omega
                have hzb2 : ¬ (z : Int) = 0 := by omega
                have hzc := codeAt_num xs j z hz1 (by omega)
                rw [hzc] at e0 e1
                clear hzc
                have hz15 : (z : Int) ≤ 15 := hz1 ▸ hz.2
                clear hz
                by_cases hzy : z < y
                · have hzy1 : (z : Int) < y := by omega
                  clear e0 d0 hz1
                  go_upto_region 18 with (fail)
                  refine wp_region_grow_lit (by kernel_rfl) (by kernel_rfl) ?_
                  repeat (go_big_quiet_step (fail))
                  refine wpQuiet_nil ?_
                  intro wg hw'
                  obtain ⟨⟨wz, hbg⟩, hw''⟩ := hw'
                  subst hw''
                  clear d1 e1
                  go_wp2_with fail
                  go_roundw
                  case rel => exact ⟨j + 1, by omega, by go_num, Lib.hid (below_size HB.out hbg)⟩
                  case measure => simp [intOf]; omega
                · have hzy1 : ¬ (z : Int) < y := by omega
                  have HZ := Lib.hid hz1
                  clear hz1
                  go_upto_region 18 with (fail)
                  refine wp_region_grow_lit (by kernel_rfl) (by kernel_rfl) ?_
                  repeat (go_big_quiet_step (fail))
                  refine wpQuiet_nil ?_
                  intro wg hw'
                  obtain ⟨⟨wz, hbg⟩, hw''⟩ := hw'
                  subst hw''
                  obtain ⟨wh, rfl⟩ : ∃ wh : World, wh = wg := ⟨_, rfl⟩
                  replace HB := Lib.hid (below_size HB.out hbg)
                  clear hbg d0 d1 e0 e1 l3
                  have l3 := Nat.lt_of_lt_of_le HG.out HB.out.size
                  have d0 := fun z : GrownW wh => z.cell l3 ((HB.out.cell (p := ⟨g, i * 2, Option.none⟩) HG.out).trans (HC.out.c0 i hlt))
                  have d1 := fun z : GrownW wh => z.cell l3 ((HB.out.cell (p := ⟨g, i * 2 + 1, Option.none⟩) HG.out).trans (HC.out.c1 i hlt))
                  have e0 := fun z : GrownW wh => z.cell l3 ((HB.out.cell (p := ⟨g, j * 2, Option.none⟩) HG.out).trans (HC.out.c0 j hjn))
                  have e1 := fun z : GrownW wh => z.cell l3 ((HB.out.cell (p := ⟨g, j * 2 + 1, Option.none⟩) HG.out).trans (HC.out.c1 j hjn))
                  rw [E.out] at d0 d1
                  rw [codeAt_num xs j z HZ.out (by omega)] at e0 e1
                  by_cases hd0 : y = z
                  · subst hd0
                    by_cases hlij : i < j
                    · have h1 : decide ((i : Int) < (j : Int)) = true := by simp; omega
                      have h2 := P2.out j hlij hjn HZ.out
                      have hne : ((codeN xs j : Int) == (c : Int)) = false := beq_eq_false_iff_ne.2 (by omega)
                      have h3 : decide ((codeN xs j : Int) ≤ (c : Int)) = false := by simp; omega
                      have h4 : decide (codeN xs j ≤ c) = false := by simp; omega
                      generalize codeN xs j = c2 at *
                      go_upto_region 19 with (fail)
                      refine wp_region_grow_lit (by kernel_rfl) (by kernel_rfl) ?_
                      repeat (go_big_quiet_step (fail))
                      refine wpQuiet_nil ?_
                      intro wg hw'
                      obtain ⟨⟨wz, hbg⟩, hw''⟩ := hw'
                      subst hw''
                      clear d0 d1 e0 e1
                      go_wp2_with fail
                      go_roundw
                      case rel => exact ⟨j + 1, by omega, by go_num, Lib.hid (below_size HB.out hbg)⟩
                      case measure => simp [intOf]; omega
                    · have h1 : decide ((i : Int) < (j : Int)) = false := by simp; omega
                      have h4 : decide (i < j) = false := by simp; omega
                      have h2 := P3.out j (by omega) HZ.out
                      have hne : ((codeN xs j : Int) == (c : Int)) = false := beq_eq_false_iff_ne.2 (by omega)
                      generalize codeN xs j = c2 at *
                      go_upto_region 19 with (fail)
                      refine wp_region_grow_lit (by kernel_rfl) (by kernel_rfl) ?_
                      repeat (go_big_quiet_step (fail))
                      refine wpQuiet_nil ?_
                      intro wg hw'
                      obtain ⟨⟨wz, hbg⟩, hw''⟩ := hw'
                      subst hw''
                      clear d0 d1 e0 e1
                      go_wp2_with fail
                      go_roundw
                      case rel => exact ⟨j + 1, by omega, by go_num, Lib.hid (below_size HB.out hbg)⟩
                      case measure => simp [intOf]; omega
                  · have hyz : y < z := by omega
                    have hne : ((codeN xs j : Int) / 2 ^ (z - y) == (c : Int)) = false := by
                      have h := P1.out j z hjn HZ.out hyz
                      have e : (codeN xs j : Int) / 2 ^ (z - y) = ((codeN xs j / 2 ^ (z - y) : Nat) : Int) := by simp
                      rw [e]
                      exact beq_eq_false_iff_ne.2 (by omega)
                    have heq : ((y : Int) == (z : Int)) = false := by simp; omega
                    have heq2 : (y == z) = false := by simp; omega
                    generalize codeN xs j = c2 at *
                    go_upto_region 19 with (fail)
                    refine wp_region_grow_lit (by kernel_rfl) (by kernel_rfl) ?_
                    repeat (go_big_quiet_step (fail))
                    refine wpQuiet_nil ?_
                    intro wg hw'
                    obtain ⟨⟨wz, hbg⟩, hw''⟩ := hw'
                    subst hw''
                    clear d0 d1 e0 e1
                    go_wp2_with fail
                    go_roundw
                    case rel => exact ⟨j + 1, by omega, by go_num, Lib.hid (below_size HB.out hbg)⟩
                    case measure => simp [intOf]; omega
          · have hjn' : ¬ (j : Int) < n := by omega
            go_wp2_with fail
            go_roundw
            case rel => exact ⟨i + 1, by omega, by go_num, HB⟩
            case measure => simp [intOf]; omega
    · have hlt' : ¬ (i : Int) < n := by omega
      go_wp2_with fail
      refine (first_any _).mono ?_; rintro e w6 ⟨rfl, b6⟩
      have B2 := B.out.trans (HB.out.mono B.out.size)
      go_wp2_with fail
      go_ret
      exact ⟨rfl, below_size B2 b6⟩
end Go.Proofs.Ytmdkinhbfndoeaa
