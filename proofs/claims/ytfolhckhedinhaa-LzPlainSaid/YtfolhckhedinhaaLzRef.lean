/-
  The reference's search for pieces that come again.
-/
import Derived.Test.YtfolhckhedinhaaLzRefPure
import Derived.BigQuiet
namespace Go.Proofs.Ytfolhckhedinhaa
open Go.RowKit

set_option maxRecDepth 100000 in
set_option maxHeartbeats 1000000 in
theorem three_any (b : Option Addr) (n cap : Nat) (xs : List Int) (i k : Nat) (w : World) (hr : Reads .u8 w b n cap xs) (hik : i < k) (hk : k < n) (hn : n ≤ 1000000) :
    Calls Try.prog 23 #[.slice b n cap, .int .i64 i, .int .i64 k] w fun e w' => e = .returned (.bool (r3 xs i k)) ∧ ∃ q, w' = w.drewN q := by
  have hl := hr.len
  by_cases h3 : k + 3 ≤ n
  · obtain ⟨b0, off, rfl, hb0, hcs⟩ := hr.cells (by omega)
    have hR : r3 xs i k = ((xs.getD i 0 == xs.getD k 0) && (xs.getD (i + 1) 0 == xs.getD (k + 1) 0) && (xs.getD (i + 2) 0 == xs.getD (k + 2) 0)) := by
      unfold r3; rw [decide_eq_true (by omega : k + 3 ≤ xs.length), Bool.true_and]
    have K0 : ∀ q, (w.drewN q).cell? ⟨b0, off + i, Option.none⟩ = some (.int .u8 (xs.getD i 0)) := fun q => hcs i (by omega)
    have K1 : ∀ q, (w.drewN q).cell? ⟨b0, off + (i + 1), Option.none⟩ = some (.int .u8 (xs.getD (i + 1) 0)) := fun q => hcs (i + 1) (by omega)
    have K2 : ∀ q, (w.drewN q).cell? ⟨b0, off + (i + 2), Option.none⟩ = some (.int .u8 (xs.getD (i + 2) 0)) := fun q => hcs (i + 2) (by omega)
    have L0 : ∀ q, (w.drewN q).cell? ⟨b0, off + k, Option.none⟩ = some (.int .u8 (xs.getD k 0)) := fun q => hcs k (by omega)
    have L1 : ∀ q, (w.drewN q).cell? ⟨b0, off + (k + 1), Option.none⟩ = some (.int .u8 (xs.getD (k + 1) 0)) := fun q => hcs (k + 1) (by omega)
    have L2 : ∀ q, (w.drewN q).cell? ⟨b0, off + (k + 2), Option.none⟩ = some (.int .u8 (xs.getD (k + 2) 0)) := fun q => hcs (k + 2) (by omega)
    have HR := Lib.hid hR
    have g0 : decide ((k : Int) + 3 ≤ n) = true := by simp; omega
    have i0 : (i : Int) < n := by omega
    have i1 : (i : Int) + 1 < n := by omega
    have i2 : (i : Int) + 2 < n := by omega
    have j0 : (k : Int) < n := by omega
    have j1 : (k : Int) + 1 < n := by omega
    have j2 : (k : Int) + 2 < n := by omega
    clear hr hcs hb0 hR hl
    generalize xs.getD i 0 = x0 at *
    generalize xs.getD (i + 1) 0 = x1 at *
    generalize xs.getD (i + 2) 0 = x2 at *
    generalize xs.getD k 0 = y0 at *
    generalize xs.getD (k + 1) 0 = y1 at *
    generalize xs.getD (k + 2) 0 = y2 at *
    by_cases e0 : x0 = y0
    · have f0 : (x0 == y0) = true := by simp [e0]
      by_cases e1 : x1 = y1
      · have f1 : (x1 == y1) = true := by simp [e1]
        go_enter Try.func23, Try.ntmps23
        go_wp2_with fail
        go_quiet (fail)
        go_wp2_with fail
        go_ret
        exact ⟨by rw [HR.out, f0, f1]; simp, nq, rfl⟩
      · have f1 : (x1 == y1) = false := by simp [e1]
        go_enter Try.func23, Try.ntmps23
        go_wp2_with fail
        go_quiet (fail)
        go_wp2_with fail
        go_ret
        exact ⟨by rw [HR.out, f0, f1]; simp, nq, rfl⟩
    · have f0 : (x0 == y0) = false := by simp [e0]
      go_enter Try.func23, Try.ntmps23
      go_wp2_with fail
      go_quiet (fail)
      go_wp2_with fail
      go_ret
      exact ⟨by rw [HR.out, f0]; simp, nq, rfl⟩
  · have HR := Lib.hid (show r3 xs i k = false by unfold r3; simp [hl, h3])
    have g0 : decide ((k : Int) + 3 ≤ n) = false := by simp; omega
    clear hr hl
    go_enter Try.func23, Try.ntmps23
    go_wp2_with fail
    go_quiet (fail)
    go_wp2_with fail
    go_ret
    exact ⟨by rw [HR.out]; rfl, nq, rfl⟩

set_option maxRecDepth 100000 in
set_option maxHeartbeats 1000000 in
theorem rmatch_any (b : Option Addr) (n cap : Nat) (xs : List Int) (a : Nat) (w : World) (hr : Reads .u8 w b n cap xs) (hx : isB xs) (ha : a < n) (hn : n ≤ 1000000) :
    Calls Try.prog 20 #[.slice b n cap, .int .i64 a] w fun e w' => e = .returned (.tuple #[.int .i64 ((mtch xs a).1 : Nat), .int .i64 ((mtch xs a).2 : Nat)]) ∧ ∃ q, w' = w.drewN q := by
  have HR := Lib.hid hr; have HL := Lib.hid hr.len
  obtain ⟨mo, hmo⟩ : ∃ mo, mostOf n a = mo := ⟨_, rfl⟩
  have hmo2 : mo ≤ 258 ∧ a + mo ≤ n ∧ (mo = 258 ∨ a + mo = n) := by unfold mostOf at hmo; omega
  have HE := Lib.hid (rmtch_eq hx a)
  have HMO := Lib.hid hmo
  clear hr hx hmo
  go_enter Try.func20, Try.ntmps20
  go_wp2_with fail
  go_loopw [6, 7, 8, 9] (fun vl vd vs vi wr => ∃ (r s l d q : Nat), r ≤ a ∧ vl = .int .i64 l ∧ vd = .int .i64 d ∧ vs = .int .i64 s ∧ vi = .int .i64 ((r : Int) - 1) ∧ wr = w.drewN q ∧ s + r ≤ a ∧ l ≤ 258 ∧ d ≤ a ∧ Hid (rW xs a r s l d = mtch xs a)) (fun _ _ _ vi _ => (intOf vi + 1).toNat)
  case atStart => exact ⟨a, 0, 0, 0, 0, Nat.le_refl _, rfl, rfl, rfl, rfl, rfl, by omega, by omega, by omega, HE⟩
  case round =>
    obtain ⟨r, s, l, d, q, hra, rfl, rfl, rfl, rfl, rfl, hsr, hl, hd, HM⟩ := hrel
    clear HE
    cases r with
    | zero =>
      have hM2 : mtch xs a = (l, d) := by rw [← HM.out]; rfl
      have HM2 := Lib.hid hM2
      clear hM2 HM
      have g0 : decide ((0 : Int) ≤ ((0 : Nat) : Int) - 1) = false := by simp
      go_wp2_with fail
      go_ret2
      exact ⟨by first | rfl | (rw [HM2.out]; rfl), q, rfl⟩
    | succ i =>
      have hi1 : ((i + 1 : Nat) : Int) - 1 = i := by omega
      rw [hi1]
      have HI1 := Lib.hid hi1
      clear hi1
      by_cases c1 : (a : Int) - i ≤ 32768 ∧ s < 64
      · obtain ⟨c2, c3⟩ := c1
        have g1 : decide ((a : Int) - i ≤ 32768) = true := by simp; omega
        have g2 : decide ((s : Int) < 64) = true := by simp; omega
        have hcall := three_any b n cap xs i a (w.drewN q) (HR.out.drewN q) (by omega) ha hn
        by_cases h3 : r3 xs i a = true
        · have hM2 : mtch xs a = rW xs a i (s + 1) (if l < lcp xs i a mo then lcp xs i a mo else l) (if l < lcp xs i a mo then a - i else d) := by
            rw [← HM.out, rW, if_pos ⟨c2, c3⟩, if_pos h3, HL.out, HMO.out]
          have hm3 : 3 ≤ mo := by
            have := h3
            unfold r3 at this
            simp only [Bool.and_eq_true, decide_eq_true_eq] at this
            have h4 := this.1.1.1
            rw [HL.out] at h4
            omega
          have hl3 := lcp_three h3 mo hm3
          rw [h3] at hcall
          have HC := Lib.hid hcall; have HM2 := Lib.hid hM2; have HL3 := Lib.hid hl3
          clear hcall hM2 hl3 HM h3
          go_wp2_with fail
          refine HC.out.mono ?_; rintro e w5 ⟨rfl, q5, rfl⟩
          rw [drewN_drewN]
          clear HC
          go_wp2_with fail
          go_loopw [10] (fun vk wr => ∃ k q, 3 ≤ k ∧ k ≤ mo ∧ vk = .int .i64 (k : Nat) ∧ wr = w.drewN q ∧ Hid (lcp xs i a mo = k + lcp xs (i + k) (a + k) (mo - k))) (fun vk _ => mo - (intOf vk).toNat)
          case atStart => exact ⟨3, q + q5, Nat.le_refl _, hm3, rfl, rfl, HL3⟩
          case round =>
            obtain ⟨k, q2, hk3, hkm, rfl, rfl, HK⟩ := hrel
            clear HL3
            generalize hW : w.drewN q2 = W at *
            have HW := Lib.hid hW
            clear hW
            obtain ⟨P, hP⟩ : ∃ P : Nat, i + k = P := ⟨_, rfl⟩
            obtain ⟨A, hA⟩ : ∃ A : Nat, a + k = A := ⟨_, rfl⟩
            have w0 : IntKind.i64.wrap ((i : Int) + (k : Int)) = P := by rw [Go.IntWalk.i64_in _ (by omega)]; omega
            have w1 : IntKind.i64.wrap ((a : Int) + (k : Int)) = A := by rw [Go.IntWalk.i64_in _ (by omega)]; omega
            have HKx := Lib.hid (show lcp xs i a mo = k + lcp xs P A (mo - k) by rw [← hP, ← hA]; exact HK.out)
            by_cases c4 : k < 258
            · have g4 : decide ((k : Int) < 258) = true := by simp; omega
              by_cases c5 : A < n
              · have g5 : decide ((A : Int) < n) = true := by simp; omega
                obtain ⟨b0, off, rfl, hb0, hcs⟩ := HR.out.cells (by omega)
                have K0 : ∀ j, (W.drewN j).cell? ⟨b0, off + P, Option.none⟩ = some (.int .u8 (xs.getD P 0)) := fun j => by rw [← HW.out]; exact hcs P (by omega)
                have K1 : ∀ j, (W.drewN j).cell? ⟨b0, off + A, Option.none⟩ = some (.int .u8 (xs.getD A 0)) := fun j => by rw [← HW.out]; exact hcs A (by omega)
                have i0 : (P : Int) < n := by omega
                have i1 : (A : Int) < n := by omega
                have hk1 : k + 1 ≤ mo := by omega
                have HST := Lib.hid (show lcp xs P A (mo - k) = if xs.getD P 0 = xs.getD A 0 then lcp xs (P + 1) (A + 1) (mo - (k + 1)) + 1 else 0 by rw [show mo - k = (mo - (k + 1)) + 1 by omega, lcp])
                have HPA := Lib.hid (And.intro hP hA)
                clear hb0 hcs hP hA
                generalize xs.getD P 0 = x at *
                generalize xs.getD A 0 = y at *
                by_cases hxy : x = y
                · have h2 : (x == y) = true := by simp [hxy]
                  go_wp2_with fail
                  go_quiet (fail)
                  clear K0 K1 w0 w1
                  go_wp2_with fail
                  go_roundw
                  case rel => exact ⟨k + 1, q2 + nq, by omega, by omega, by go_num, by rw [← HW.out, drewN_drewN], Lib.hid (by rw [HKx.out, HST.out, if_pos hxy, ← HPA.out.1, ← HPA.out.2]; simp only [Nat.add_assoc]; omega)⟩
                  case measure => simp [intOf]; omega
                · have h2 : (x == y) = false := by simp [hxy]
                  have HKK := Lib.hid (show lcp xs i a mo = k by rw [HKx.out, HST.out, if_neg hxy]; rfl)
                  go_wp2_with fail
                  go_quiet (fail)
                  clear K0 K1 w0 w1
                  clear HKx
                  by_cases c6 : l < k
                  · have hM3 : mtch xs a = rW xs a i (s + 1) k (a - i) := by rw [HM2.out, HKK.out, if_pos c6, if_pos c6]
                    have HM3 := Lib.hid hM3
                    have hsub : ((a - i : Nat) : Int) = (a : Int) - i := by omega
                    clear hM3 HM2 HKK
                    go_wp2_with fail
                    go_roundw
                    case rel => exact ⟨i, s + 1, k, a - i, q2 + nq, by omega, rfl, by rw [hsub], by go_num, rfl, by rw [← HW.out, drewN_drewN], by omega, by omega, by omega, Lib.hid HM3.out.symm⟩
                    case measure => simp [intOf]
                  · have hM3 : mtch xs a = rW xs a i (s + 1) l d := by rw [HM2.out, HKK.out, if_neg c6, if_neg c6]
                    have HM3 := Lib.hid hM3
                    have c7 : ¬ (l : Int) < k := by omega
                    clear hM3 HM2 HKK
                    go_wp2_with fail
                    go_roundw
                    case rel => exact ⟨i, s + 1, l, d, q2 + nq, by omega, rfl, rfl, by go_num, rfl, by rw [← HW.out, drewN_drewN], by omega, hl, hd, Lib.hid HM3.out.symm⟩
                    case measure => simp [intOf]
              · have g5 : decide ((A : Int) < n) = false := by simp; omega
                have HKK := Lib.hid (show lcp xs i a mo = k by rw [HKx.out, show mo - k = 0 by omega]; rfl)
                go_wp2_with fail
                go_quiet (fail)
                clear w0 w1
                clear HKx
                by_cases c6 : l < k
                · have hM3 : mtch xs a = rW xs a i (s + 1) k (a - i) := by rw [HM2.out, HKK.out, if_pos c6, if_pos c6]
                  have HM3 := Lib.hid hM3
                  have hsub : ((a - i : Nat) : Int) = (a : Int) - i := by omega
                  clear hM3 HM2 HKK
                  go_wp2_with fail
                  go_roundw
                  case rel => exact ⟨i, s + 1, k, a - i, q2 + nq, by omega, rfl, by rw [hsub], by go_num, rfl, by rw [← HW.out, drewN_drewN], by omega, by omega, by omega, Lib.hid HM3.out.symm⟩
                  case measure => simp [intOf]
                · have hM3 : mtch xs a = rW xs a i (s + 1) l d := by rw [HM2.out, HKK.out, if_neg c6, if_neg c6]
                  have HM3 := Lib.hid hM3
                  have c7 : ¬ (l : Int) < k := by omega
                  clear hM3 HM2 HKK
                  go_wp2_with fail
                  go_roundw
                  case rel => exact ⟨i, s + 1, l, d, q2 + nq, by omega, rfl, rfl, by go_num, rfl, by rw [← HW.out, drewN_drewN], by omega, hl, hd, Lib.hid HM3.out.symm⟩
                  case measure => simp [intOf]
            · have g4 : decide ((k : Int) < 258) = false := by simp; omega
              have HKK := Lib.hid (show lcp xs i a mo = k by rw [HKx.out, show mo - k = 0 by omega]; rfl)
              go_wp2_with fail
              go_quiet (fail)
              clear w0 w1
              clear HKx
              by_cases c6 : l < k
              · have hM3 : mtch xs a = rW xs a i (s + 1) k (a - i) := by rw [HM2.out, HKK.out, if_pos c6, if_pos c6]
                have HM3 := Lib.hid hM3
                have hsub : ((a - i : Nat) : Int) = (a : Int) - i := by omega
                clear hM3 HM2 HKK
                go_wp2_with fail
                go_roundw
                case rel => exact ⟨i, s + 1, k, a - i, q2 + nq, by omega, rfl, by rw [hsub], by go_num, rfl, by rw [← HW.out, drewN_drewN], by omega, by omega, by omega, Lib.hid HM3.out.symm⟩
                case measure => simp [intOf]
              · have hM3 : mtch xs a = rW xs a i (s + 1) l d := by rw [HM2.out, HKK.out, if_neg c6, if_neg c6]
                have HM3 := Lib.hid hM3
                have c7 : ¬ (l : Int) < k := by omega
                clear hM3 HM2 HKK
                go_wp2_with fail
                go_roundw
                case rel => exact ⟨i, s + 1, l, d, q2 + nq, by omega, rfl, rfl, by go_num, rfl, by rw [← HW.out, drewN_drewN], by omega, hl, hd, Lib.hid HM3.out.symm⟩
                case measure => simp [intOf]
        · have hM2 : mtch xs a = rW xs a i s l d := by
            rw [← HM.out, rW, if_pos ⟨c2, c3⟩, if_neg h3]
          have h3' : r3 xs i a = false := by simpa using h3
          rw [h3'] at hcall
          have HC := Lib.hid hcall; have HM2 := Lib.hid hM2
          clear hcall hM2 HM h3 h3'
          go_wp2_with fail
          refine HC.out.mono ?_; rintro e w5 ⟨rfl, q5, rfl⟩
          rw [drewN_drewN]
          clear HC
          go_wp2_with fail
          go_roundw
          case rel => exact ⟨i, s, l, d, q + q5, by omega, rfl, rfl, rfl, rfl, rfl, by omega, hl, hd, Lib.hid HM2.out.symm⟩
          case measure => simp [intOf]
      · have hM2 : mtch xs a = (l, d) := by rw [← HM.out, rW, if_neg c1]
        have HM2 := Lib.hid hM2
        clear hM2 HM
        by_cases c2 : (a : Int) - i ≤ 32768
        · have g1 : decide ((a : Int) - i ≤ 32768) = true := by simp; omega
          have g2 : decide ((s : Int) < 64) = false := by simp; omega
          go_wp2_with fail
          go_ret2
          exact ⟨by first | rfl | (rw [HM2.out]; rfl), q, rfl⟩
        · have g1 : decide ((a : Int) - i ≤ 32768) = false := by simp; omega
          go_wp2_with fail
          go_ret2
          exact ⟨by first | rfl | (rw [HM2.out]; rfl), q, rfl⟩
end Go.Proofs.Ytfolhckhedinhaa
