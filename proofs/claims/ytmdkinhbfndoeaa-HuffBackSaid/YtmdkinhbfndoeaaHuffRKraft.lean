/-
  aquref5.Kraft.
-/
import Derived.Test.YtmdkinhbfndoeaaHuffKraft
namespace Go.Proofs.Ytmdkinhbfndoeaa
open Go.RowKit

set_option maxHeartbeats 1000000 in
theorem rkraft_any (a : Option Addr) (n cap : Nat) (ls : List Int) (w : World) (hr : Reads .i64 w a n cap ls) (h64 : is64 ls) :
    Calls Try.prog 17 #[.slice a n cap] w fun e w' => e = .returned (.tuple #[.int .i64 (krR ls).1, .int .i64 (krR ls).2]) ∧ w' = w := by
  have hl := hr.len
  have hn63 := hr.n63.1
  by_cases hbig : (300 : Int) < n
  · have hk := Lib.hid (krR_no (ls := ls) (fun h => by have := h.1; omega))
    go_enter Try.func17, Try.ntmps17
    go_wp2_with fail
    go_ret2
    rw [hk.out]
    exact ⟨rfl, rfl⟩
  · have HL := Lib.hid hl; have H64 := Lib.hid h64
    clear hl h64
    go_enter Try.func17, Try.ntmps17
    go_wp2_with fail
    go_loop [4, 5] (fun vs vi => ∃ i : Nat, i ≤ n ∧ vi = .int .i64 i ∧ vs = .int .i64 (krS (ls.take i)) ∧ Hid (∀ x ∈ ls.take i, 0 ≤ x ∧ x ≤ 15)) (fun _ vi => n - (intOf vi).toNat)
    case atStart => exact ⟨0, Nat.zero_le _, rfl, rfl, Lib.hid (by simp)⟩
    case round =>
      obtain ⟨i, hi, rfl, rfl, hb⟩ := hrel
      by_cases hlt : i < n
      · obtain ⟨b, off, rfl, hc⟩ := hr.cellAt i hlt
        have hlt' : (i : Int) < n := by omega
        have hi0 : (0 : Int) ≤ i := by omega
        have e0 := H64.out.get i (by rw [HL.out]; exact hlt)
        have hS := krS_bd (ls.take i) (fun x hx => (hb.out x hx).1)
        rw [List.length_take, HL.out] at hS
        have HN := Lib.hid (kr_take (ls := ls) (i := i) (by rw [HL.out]; exact hlt))
        have HT := Lib.hid (fun h0 h1 => take_ok (ls := ls) (i := i) (by rw [HL.out]; exact hlt) hb.out h0 h1)
        have HB := Lib.hid (bad_len (ls := ls) (i := i) (by rw [HL.out]; exact hlt))
        generalize krS (ls.take i) = S at *
        have HX : Hid (ls.getD i 0 = ls.getD i 0) := Lib.hid rfl
        generalize ls.getD i 0 = x at *
        by_cases h0 : x < 0
        · go_wp2_with fail
          go_ret2
          rw [krR_no (HB.out (.inl h0))]
          exact ⟨rfl, rfl⟩
        · by_cases h15 : (15 : Int) < x
          · go_wp2_with fail
            go_ret2
            rw [krR_no (HB.out (.inr h15))]
            exact ⟨rfl, rfl⟩
          · by_cases hp : (0 : Int) < x
            · have hsh : (0 : Int) ≤ 15 - x := by omega
              have hsh2 : (15 : Int) - x < 64 := by omega
              have hsh3 : IntKind.u64.wrap (15 - x) = 15 - x := by rw [IntKind.wrap_u64]; omega
              have hk : kr1 x = 2 ^ (15 - x).toNat := by unfold kr1; rw [if_pos hp]
              have hkb := (kr1_bd x).1; have hkb2 := (kr1_bd x).2 (by omega)
              rw [hk] at hkb hkb2
              have hw1 : wrap64 (2 ^ (15 - x).toNat) = 2 ^ (15 - x).toNat := by rw [wrap64]; omega
              have hw2 : wrap64 (S + 2 ^ (15 - x).toNat) = S + 2 ^ (15 - x).toNat := by rw [wrap64]; omega
              have HK := Lib.hid hk; have HW1 := Lib.hid hw1; have HW2 := Lib.hid hw2
              clear hk hw1 hw2 hkb hkb2
              go_wp2_with fail
              go_round
              case rel =>
                refine ⟨i + 1, by omega, by go_num, ?_, Lib.hid (HT.out (by omega) (by omega))⟩
                rw [HN.out, HK.out, HW1.out, HW2.out]
              case measure => simp [intOf]; omega
            · have hk : kr1 x = 0 := by unfold kr1; rw [if_neg hp]
              have HK := Lib.hid hk
              clear hk
              go_wp2_with fail
              go_round
              case rel =>
                refine ⟨i + 1, by omega, by go_num, ?_, Lib.hid (HT.out (by omega) (by omega))⟩
                rw [HN.out, HK.out, Int.add_zero]
              case measure => simp [intOf]; omega
      · have hin : i = n := by omega
        have hnl : ¬ (i : Int) < n := by omega
        rw [hin, List.take_of_length_le (by rw [HL.out]; exact Nat.le_refl _)] at hb
        rw [show ls.take i = ls from List.take_of_length_le (by rw [HL.out]; omega)]
        go_wp2_with fail
        go_ret2
        rw [krR_ok ⟨by rw [HL.out]; omega, hb.out⟩]
        exact ⟨rfl, rfl⟩
end Go.Proofs.Ytmdkinhbfndoeaa
