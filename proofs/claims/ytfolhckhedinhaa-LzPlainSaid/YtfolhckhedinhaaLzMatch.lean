/-
  lz.alike, lz.match: the longest piece that comes again.
-/
import Derived.Test.YtfolhckhedinhaaLzChains
import Derived.Deep.DeepCutAuto
namespace Go.Proofs.Ytfolhckhedinhaa
open Go.RowKit

/-- How many numbers from both places on are the same, at most m. -/
def lcp (xs : List Int) (p a : Nat) : Nat → Nat
  | 0 => 0
  | m + 1 => if xs.getD p 0 = xs.getD a 0 then lcp xs (p + 1) (a + 1) m + 1 else 0
theorem lcp_le (xs : List Int) (p a m : Nat) : lcp xs p a m ≤ m := by
  induction m generalizing p a with
  | zero => simp [lcp]
  | succ m ih => rw [lcp]; have := ih (p + 1) (a + 1); split <;> omega

set_option maxHeartbeats 400000 in
theorem alike_any (b : Option Addr) (n cap : Nat) (xs : List Int) (p a m : Nat) (w : World) (hr : Reads .u8 w b n cap xs) (hp : p + m ≤ n) (ha : a + m ≤ n) (hn : n ≤ 1000000) :
    Calls Try.prog 22 #[.slice b n cap, .int .i64 p, .int .i64 a, .int .i64 m] w fun e w' => e = .returned (.int .i64 (lcp xs p a m : Nat)) ∧ ∃ q, w' = w.drewN q := by
  have HR := Lib.hid hr
  clear hr
  go_enter Try.func22, Try.ntmps22
  go_wp2_with fail
  go_loopw [9] (fun vk wr => ∃ k q, k ≤ m ∧ vk = .int .i64 (k : Nat) ∧ wr = w.drewN q ∧ Hid (lcp xs p a m = k + lcp xs (p + k) (a + k) (m - k))) (fun vk _ => m - (intOf vk).toNat)
  case atStart => exact ⟨0, 0, Nat.zero_le _, rfl, rfl, Lib.hid (by simp)⟩
  case round =>
    obtain ⟨k, q, hk, rfl, rfl, HK⟩ := hrel
    generalize hW : w.drewN q = W at *
    have HW := Lib.hid hW
    clear hW
    by_cases hlt : k < m
    · have h1 : decide ((k : Int) < m) = true := by simp; omega
      obtain ⟨b0, off, rfl, hb0, hcs⟩ := HR.out.cells (by omega)
      obtain ⟨P, hP⟩ : ∃ P : Nat, p + k = P := ⟨_, rfl⟩
      obtain ⟨A, hA⟩ : ∃ A : Nat, a + k = A := ⟨_, rfl⟩
      have K0 : ∀ j, (W.drewN j).cell? ⟨b0, off + P, Option.none⟩ = some (.int .u8 (xs.getD P 0)) := fun j => by rw [← HW.out]; exact hcs P (by omega)
      have K1 : ∀ j, (W.drewN j).cell? ⟨b0, off + A, Option.none⟩ = some (.int .u8 (xs.getD A 0)) := fun j => by rw [← HW.out]; exact hcs A (by omega)
      have w0 : IntKind.i64.wrap ((p : Int) + (k : Int)) = P := by rw [Go.IntWalk.i64_in _ (by omega)]; omega
      have w1 : IntKind.i64.wrap ((a : Int) + (k : Int)) = A := by rw [Go.IntWalk.i64_in _ (by omega)]; omega
      have i0 : (P : Int) < n := by omega
      have i1 : (A : Int) < n := by omega
      have hst : lcp xs (p + k) (a + k) (m - k) = if xs.getD (p + k) 0 = xs.getD (a + k) 0 then lcp xs (p + (k + 1)) (a + (k + 1)) (m - (k + 1)) + 1 else 0 := by
        rw [show m - k = (m - (k + 1)) + 1 by omega, lcp]
        rfl
      rw [hP, hA] at hst
      have HST := Lib.hid hst
      have HK2 := Lib.hid (show lcp xs p a m = k + lcp xs P A (m - k) by rw [← hP, ← hA]; exact HK.out)
      clear hb0 hcs hst hP hA HK
      generalize xs.getD P 0 = x at *
      generalize xs.getD A 0 = y at *
      by_cases hxy : x = y
      · have h2 : (x == y) = true := by simp [hxy]
        go_wp2_with fail
        go_quiet (fail)
        clear K0 K1 w0 w1
        go_wp2_with fail
        go_roundw
        case rel => exact ⟨k + 1, q + nq, by omega, by go_num, by rw [← HW.out, drewN_drewN], Lib.hid (by rw [HK2.out, HST.out, if_pos hxy]; omega)⟩
        case measure => simp [intOf]; omega
      · have h2 : (x == y) = false := by simp [hxy]
        go_wp2_with fail
        go_quiet (fail)
        clear K0 K1 w0 w1
        go_wp2_with fail
        go_ret
        exact ⟨by rw [HK2.out, HST.out, if_neg hxy]; simp, q + nq, by rw [← HW.out, drewN_drewN]⟩
    · obtain rfl : k = m := by omega
      have h1 : decide ((k : Int) < k) = false := by simp
      go_wp2_with fail
      go_quiet (fail)
      go_wp2_with fail
      go_ret
      exact ⟨by rw [HK.out]; simp [lcp], q + nq, by rw [← HW.out, drewN_drewN]⟩

/-- The places that are looked at, from p on, so many. -/
def mW (xs : List Int) (a most : Nat) : Nat → Int → Nat → Nat → Nat × Nat
  | 0, _, l, d => (l, d)
  | f + 1, p, l, d => if p < 0 ∨ (a : Int) - p > 32768 ∨ l = most then (l, d) else
      mW xs a most f (aheadV xs p.toNat) (if l < lcp xs p.toNat a most then lcp xs p.toNat a most else l) (if l < lcp xs p.toNat a most then a - p.toNat else d)
def mostOf (n a : Nat) : Nat := min 258 (n - a)
def mtch (xs : List Int) (a : Nat) : Nat × Nat := mW xs a (mostOf xs.length a) 64 (aheadV xs a) 0 0

theorem aheadL_get (xs : List Int) (k : Nat) (h : k < xs.length) : (aheadL xs).getD k 0 = aheadV xs k := by rw [aheadL, getD_map_range, if_pos h]

set_option maxRecDepth 100000 in
set_option maxHeartbeats 1000000 in
theorem match_any (b : Option Addr) (n cap : Nat) (xs : List Int) (ad : Option Addr) (m ca : Nat) (a : Nat) (w : World) (hr : Reads .u8 w b n cap xs) (hh : Reads .i64 w ad m ca (aheadL xs)) (ha : a < n) (hn : n ≤ 1000000) :
    Calls Try.prog 19 #[.slice b n cap, .slice ad m ca, .int .i64 a] w fun e w' => e = .returned (.tuple #[.int .i64 ((mtch xs a).1 : Nat), .int .i64 ((mtch xs a).2 : Nat)]) ∧ ∃ q, w' = w.drewN q := by
  have hl := hr.len
  have hm : m = n := by have := hh.len; simp [aheadL] at this; omega
  subst hm
  have HR := Lib.hid hr; have HH := Lib.hid hh; have HL := Lib.hid hl
  obtain ⟨b1, o1, rfl, c1⟩ := hh.cellAt a ha
  rw [aheadL_get xs a (by omega)] at c1
  obtain ⟨mo, hmo⟩ : ∃ mo, mostOf m a = mo := ⟨_, rfl⟩
  have hmo2 : a + mo ≤ m ∧ mo ≤ 258 := by unfold mostOf at hmo; omega
  have hmn : min (258 : Int) ((m : Int) - (a : Int)) = mo := by unfold mostOf at hmo; omega
  have HE := Lib.hid (show mtch xs a = mW xs a mo 64 (aheadV xs a) 0 0 by rw [mtch, hl, hmo])
  have hpb := aheadV_bd xs a
  generalize aheadV xs a = p0 at *
  clear hr hh hl hmo
  go_enter Try.func19, Try.ntmps19
  go_upto_region 2 with fail
  go_cut [10] (fun v wx => v = .int .i64 (mo : Nat) ∧ wx = w)
  case first =>
    go_wp2_with fail
    all_goals
      go_meet
      exact ⟨by congr 1; omega, rfl⟩
  case rest =>
    obtain ⟨rfl, rfl⟩ := hcut
    go_wp2_with fail
    clear c1 hmn
    go_loopw [8, 9, 11, 22] (fun vl vd vp vc wr => ∃ (f r l d : Nat) (p : Int) (q : Nat), r + f = 64 ∧ vl = .int .i64 l ∧ vd = .int .i64 d ∧ vp = .int .i64 p ∧ vc = .int .i64 r ∧ wr = wc.drewN q ∧ -1 ≤ p ∧ p < a ∧ l ≤ mo ∧ Hid (mtch xs a = mW xs a mo f p l d)) (fun _ _ _ vc _ => 64 - (intOf vc).toNat)
    case atStart => exact ⟨64, 0, 0, 0, p0, 0, rfl, rfl, rfl, rfl, rfl, rfl, hpb.1, hpb.2, Nat.zero_le _, HE⟩
    case round =>
      obtain ⟨f, r, l, d, p, q, hf, rfl, rfl, rfl, rfl, rfl, hp1, hp2, hl, HM⟩ := hrel
      clear HE hpb
      cases f with
      | zero =>
        obtain rfl : r = 64 := by omega
        go_wp2_with fail
        go_ret2
        refine ⟨?_, q, rfl⟩
        rw [HM.out]
        rfl
      | succ f =>
        have hr64 : (r : Int) < 64 := by omega
        by_cases c1 : p < 0
        · have hM2 : mtch xs a = (l, d) := by rw [HM.out, mW, if_pos (.inl c1)]
          go_wp2_with fail
          go_ret2
          exact ⟨by first | rfl | (rw [hM2]; rfl), q, rfl⟩
        · obtain ⟨P, rfl⟩ := Int.eq_ofNat_of_zero_le (show 0 ≤ p by omega)
          by_cases c2 : (a : Int) - P > 32768
          · have hM2 : mtch xs a = (l, d) := by rw [HM.out, mW, if_pos (.inr (.inl c2))]
            have g1 : decide ((P : Int) < 0) = false := by simp
            go_wp2_with fail
            go_ret2
            exact ⟨by first | rfl | (rw [hM2]; rfl), q, rfl⟩
          · have g1 : decide ((P : Int) < 0) = false := by simp
            have g2 : decide ((32768 : Int) < (a : Int) - P) = false := by simp; omega
            by_cases c3 : l = mo
            · subst c3
              have hM2 : mtch xs a = (l, d) := by rw [HM.out, mW, if_pos (.inr (.inr rfl))]
              go_wp2_with fail
              go_ret2
              exact ⟨by first | rfl | (rw [hM2]; rfl), q, rfl⟩
            · have g3 : ((l : Int) == mo) = false := by simp; omega
              have hM2 : mtch xs a = mW xs a mo f (aheadV xs P) (if l < lcp xs P a mo then lcp xs P a mo else l) (if l < lcp xs P a mo then a - P else d) := by
                rw [HM.out, mW, if_neg (by rintro (h | h | h) <;> omega)]
                rfl
              have HM2 := Lib.hid hM2
              have hcall := alike_any b m cap xs P a mo (wc.drewN q) (HR.out.drewN q) (by omega) (by omega) hn
              have hle := lcp_le xs P a mo
              obtain ⟨b2, o2, e2, c4⟩ := HH.out.cellAt P (by omega)
              obtain ⟨rfl, rfl⟩ : b1 = b2 ∧ o1 = o2 := by simpa using e2
              rw [aheadL_get xs P (by rw [HL.out]; omega)] at c4
              have hab := aheadV_bd xs P
              generalize lcp xs P a mo = nn at *
              generalize aheadV xs P = p2 at *
              have HC := Lib.hid hcall
              clear hcall hM2 HM e2
              go_wp2_with fail
              refine HC.out.mono ?_; rintro e w5 ⟨rfl, q5, rfl⟩
              have c5 : ((wc.drewN q).drewN q5).cell? ⟨b1, o1 + P, Option.none⟩ = some (.int .i64 p2) := c4
              have ip : (P : Int) < m := by omega
              rw [drewN_drewN] at c5 ⊢
              clear HC c4
              by_cases c6 : l < nn
              · rw [if_pos c6, if_pos c6] at HM2
                have hsub : ((a - P : Nat) : Int) = (a : Int) - P := by omega
                go_wp2_with fail
                go_roundw
                case rel => exact ⟨f, r + 1, nn, a - P, p2, q + q5, by omega, rfl, by rw [hsub], rfl, by go_num, rfl, hab.1, by omega, hle, HM2⟩
                case measure => simp [intOf]; omega
              · rw [if_neg c6, if_neg c6] at HM2
                have c7 : ¬ (l : Int) < nn := by omega
                go_wp2_with fail
                go_roundw
                case rel => exact ⟨f, r + 1, l, d, p2, q + q5, by omega, rfl, rfl, rfl, by go_num, rfl, hab.1, by omega, hl, HM2⟩
                case measure => simp [intOf]; omega
end Go.Proofs.Ytfolhckhedinhaa
