/-
  bits.Reader's Get.
-/
import Derived.Test.YtmdkinhbfndoeaaBitsRd
namespace Go.Proofs.Ytmdkinhbfndoeaa
open Go.RowKit

theorem get_range (p : Option Addr) (k : Int) (w : World) (hk : -9223372036854775808 ≤ k ∧ k ≤ 9223372036854775807) (h : k < 0 ∨ 24 < k) :
    Calls Try.prog 37 #[.pointer p, .int .i64 k] w fun e w' => e = .returned (.tuple #[.int .u32 0, .int .i64 1]) ∧ w' = w := by
  by_cases h1 : k < 0
  · go_enter Try.func37, Try.ntmps37
    go_wp2
    go_ret2
    exact ⟨rfl, rfl⟩
  · have h2 : 24 < k := by omega
    go_enter Try.func37, Try.ntmps37
    go_wp2
    go_ret2
    exact ⟨rfl, rfl⟩

theorem get_short {g : Nat} {xs : List Int} {p : Nat} (k : Nat) {w : World} (hw : Rdr w g xs p) (hk : k ≤ 24) (h : 8 * xs.length - p < k) :
    Calls Try.prog 37 #[.pointer (some ⟨g, 0, Option.none⟩), .int .i64 k] w fun e w' => e = .returned (.tuple #[.int .u32 0, .int .i64 2]) ∧ ∃ m, w' = w.drewN m := by
  have h1 : ¬ (k : Int) < 0 := by omega
  have h2 : ¬ 24 < (k : Int) := by omega
  have hgt : ((8 * xs.length - p : Nat) : Int) < (k : Int) := by omega
  generalize hr : 8 * xs.length - p = r at *
  have HL := fun w' hw' => left_any (g := g) (xs := xs) (p := p) (w := w') hw'
  rw [hr] at HL
  have HR := Lib.hid hr; have HLL := Lib.hid HL; have HW := Lib.hid hw
  clear hr HL h hw
  go_enter Try.func37, Try.ntmps37
  go_wp2_with fail
  refine (HLL.out w HW.out).mono ?_; rintro e w1 ⟨rfl, m, rfl⟩
  go_wp2
  go_ret2
  exact ⟨rfl, m, rfl⟩

/-- A number got. -/
def Got (g : Nat) (xs : List Int) (p k V : Nat) (w : World) (e : Ending) (w' : World) : Prop := e = .returned (.tuple #[.int .u32 ((V / 2 ^ p % 2 ^ k : Nat) : Int), .int .i64 0]) ∧ Rdr w' g xs (p + k) ∧ Only g w w'

set_option maxRecDepth 100000 in
set_option maxHeartbeats 4000000 in
theorem get_yes {g : Nat} {xs : List Int} {p : Nat} (k V : Nat) {w : World} (hw : Rdr w g xs p) (hV : rlit xs = (V : Int)) (hk : k ≤ 24) (h : p + k ≤ 8 * xs.length) :
    Calls Try.prog 37 #[.pointer (some ⟨g, 0, Option.none⟩), .int .i64 k] w (Got g xs p k V w) := by
  have h1 : ¬ (k : Int) < 0 := by omega
  have h2 : ¬ 24 < (k : Int) := by omega
  have hgt : ¬ ((8 * xs.length - p : Nat) : Int) < (k : Int) := by omega
  have HW := Lib.hid hw
  generalize hr : 8 * xs.length - p = r at *
  have HL := fun w' hw' => left_any (g := g) (xs := xs) (p := p) (w := w') hw'
  rw [hr] at HL
  have HR := Lib.hid hr; have HLL := Lib.hid HL; have HV := Lib.hid hV; have HP := Lib.hid h
  have hdec : decide (r < k) = false := by simp; omega
  clear hr HL hw hV h hgt
  go_enter Try.func37, Try.ntmps37
  go_wp2_with fail
  refine (HLL.out w HW.out).mono ?_; rintro e w1 ⟨rfl, m0, rfl⟩
  go_wp2
  go_loopw [6, 7] (fun vn vg wr => ∃ j : Nat, j ≤ k ∧ vg = .int .i64 j ∧ vn = .int .u32 ((V / 2 ^ p % 2 ^ j : Nat) : Int) ∧ Rdr wr g xs (p + j) ∧ Only g w wr) (fun _ vg _ => k - (intOf vg).toNat)
  case atStart => exact ⟨0, Nat.zero_le _, rfl, by simp [Nat.mod_one], HW.out.drewN m0, (Only.refl _ _).drewN m0⟩
  case round =>
    obtain ⟨j, hj, rfl, rfl, hd, hon⟩ := hrel
    by_cases hlt : j < k
    · have HD := Lib.hid hd; have HO := Lib.hid hon
      obtain ⟨a, n, cap, hg, c0, c1, f0, f1, hrd, hb, hn, hp, hne⟩ := hd
      have hl := hrd.len
      have hle : p + k ≤ 8 * n := by rw [← hl]; exact HP.out
      obtain ⟨u, hu⟩ : ∃ u : Nat, (p + j) % 8 = u := ⟨_, rfl⟩
      obtain ⟨m, hm⟩ : ∃ m : Nat, (p + j) / 8 = m := ⟨_, rfl⟩
      have hmn : m < n := by omega
      obtain ⟨b, off, rfl, xc⟩ := hrd.cellAt m hmn
      have hdg := rlit_digit xs V m hb HV.out (by omega)
      have hx := hb.get m (by omega)
      obtain ⟨t, ht1, ht2, ht3, hcase⟩ : ∃ t : Nat, 1 ≤ t ∧ u + t ≤ 8 ∧ j + t ≤ k ∧ (((k : Int) - (j : Int) = t ∧ (t : Int) < 8 - (u : Int)) ∨ ((8 : Int) - (u : Int) = t ∧ ¬ (k : Int) - (j : Int) < t)) := by
        by_cases h : k - j + u < 8
        · exact ⟨k - j, by omega, by omega, by omega, .inl ⟨by omega, by omega⟩⟩
        · exact ⟨8 - u, by omega, by omega, by omega, .inr ⟨by omega, by omega⟩⟩
      have hbd := bits_digit V (p + j) t (by rw [hu]; exact ht2)
      rw [hu, hm] at hbd
      have hst := get_step V p j t
      obtain ⟨x, hxx⟩ : ∃ x : Nat, V / 256 ^ m % 256 = x := ⟨_, rfl⟩
      rw [hxx] at hdg hbd
      rw [hdg] at xc hx
      have hnl : V / 2 ^ p % 2 ^ j < 2 ^ j := Nat.mod_lt _ (Nat.pow_pos (by decide))
      have hor := or_get (V / 2 ^ p % 2 ^ j) x u t j hnl (by omega) ht2 (by omega)
      rw [hbd, hst] at hor
      have hrem : ((p : Int) + (j : Int)) % 8 = u := by omega
      have hdiv : ((p : Int) + (j : Int)) / 8 = m := by omega
      have HU := Lib.hid hu; have HM := Lib.hid hm; have HB := Lib.hid hb
      have HJ := Lib.hid ht3
      generalize V / 2 ^ p % 2 ^ j = n0 at *
      generalize hn1 : V / 2 ^ p % 2 ^ (j + t) = n1 at *
      have HN1 := Lib.hid hn1; clear hn1
      clear hu hm hdg hbd hst hxx hb hne hp hl hrd hnl
      rcases hcase with ⟨hkj, hmin⟩ | ⟨h8u, hmin⟩
      all_goals
        go_wp2_with fail
        try rw [hrem]
        have q1 : ((p : Int) + (j : Int)).tdiv 8 = m := by rw [Int.tdiv_eq_ediv_of_nonneg (by omega)]; exact hdiv
        have q2 : IntKind.i64.wrap (m : Int) = m := Go.IntWalk.i64_in _ (by omega)
        have q3 : (m : Int) < n := by omega
        have q4 : (0 : Int) ≤ m := by omega
        clear hdiv
        go_quiet (fail)
        clear q1 q2
        go_wp2_with fail
        go_roundw
        case rel =>
          refine ⟨j + t, by omega, by go_num, ?_, ?_, ?_⟩
          · rw [HN1.out]
          · have := HP.out
            exact (HD.out.drewN nq).set (by omega) (by simp; omega)
          · exact ((HO.out.drewN nq).setCell _ _)
        case measure => simp [intOf]; omega
    · obtain rfl : j = k := by omega
      have hd' := Lib.hid hd; have ho' := Lib.hid hon
      clear hd hon hdec
      go_wp2
      go_ret2
      exact ⟨rfl, hd'.out, ho'.out⟩
end Go.Proofs.Ytmdkinhbfndoeaa
