/-
  strconv.FormatInt of a sign below 256 in base 16, but 10 is none.
-/
import Derived.Test.YtmajdgmbcgkelaaDoorWordA
import Derived.Lib.OthersKept
import Derived.Test.YtmajdgmbcgkelaaDoorKBox
namespace Go.Proofs.YtmajdgmbcgkelaaDoor
open Go.RowKit

theorem tz64_16 (w : World) (hz : w.cell? ⟨4, 15, none⟩ = some (.int .u8 4)) : Calls Tryd.prog 68 #[.int .u64 16] w fun e w' => e = .returned (.int .i64 4) ∧ w' = w := by
  have e1 : IntKind.u64.wrap (-16) = 18446744073709551600 := by decide
  have e2 : bits .and .u64 16 18446744073709551600 = 16 := by decide
  have e3 : IntKind.u64.wrap (16 * 285870213051353865) = 4573923408821661840 := by decide
  have e4 : ((4573923408821661840 : Int) / 288230376151711744) = 15 := by decide
  go_enter Tryd.func68, Tryd.ntmps68
  go_wp2
  go_ret
  exact ⟨rfl, rfl⟩

theorem pow2_16 (w : World) : Calls Tryd.prog 64 #[.int .i64 16] w fun e w' => e = .returned (.bool true) ∧ w' = w := by
  go_enter Tryd.func64, Tryd.ntmps64
  go_wp2
  go_ret
  exact ⟨rfl, rfl⟩

theorem and15 (c : Nat) (h : c < 256) : bits .and .u64 (c : Int) 15 = ((c % 16 : Nat) : Int) := by
  have e : ((15 : Int)) = ((15 : Nat) : Int) := rfl
  rw [e, (bits_nat .u64 64 (by decide) (fun n h₀ h₁ => by rw [IntKind.wrap_u64]; omega) c 15 (by omega) (by decide)).1]
  have : c &&& 15 = c % 2 ^ 4 := Nat.and_two_pow_sub_one_eq_mod c 4
  rw [this]
theorem digit_bytes : ∀ k < 16, byteAt ⟨#[48, 49, 50, 51, 52, 53, 54, 55, 56, 57, 97, 98, 99, 100, 101, 102, 103, 104, 105, 106, 107, 108, 109, 110, 111, 112, 113, 114, 115, 116, 117, 118, 119, 120, 121, 122]⟩ k = ((hexB k).toNat : Int) := by decide
theorem digit_at (j : Nat) (h : j < 16) (w : World) : (Instr.index 9 (.string ⟨#[48, 49, 50, 51, 52, 53, 54, 55, 56, 57, 97, 98, 99, 100, 101, 102, 103, 104, 105, 106, 107, 108, 109, 110, 111, 112, 113, 114, 115, 116, 117, 118, 119, 120, 121, 122]⟩) (.int .u64 (j : Int))).run Tryd.prog w = .ok (.int .u8 ((hexB j).toNat : Int)) w := by
  rw [run_index_string (P := Tryd.prog) (w := w) 9 _ .u64 j Tryd.underlying9, dif_pos ⟨by omega, by show (j : Int) < 36; omega⟩, ← digit_bytes j h]
  have hj : j < (⟨#[48, 49, 50, 51, 52, 53, 54, 55, 56, 57, 97, 98, 99, 100, 101, 102, 103, 104, 105, 106, 107, 108, 109, 110, 111, 112, 113, 114, 115, 116, 117, 118, 119, 120, 121, 122]⟩ : ByteArray).size := by show j < 36; omega
  unfold byteAt
  rw [dif_pos hj]
  rfl

theorem tz_16 (w : World) (hz : w.cell? ⟨4, 15, none⟩ = some (.int .u8 4)) : Calls Tryd.prog 65 #[.int .u64 16] w fun e w' => e = .returned (.int .i64 4) ∧ w' = w := by
  go_enter Tryd.func65, Tryd.ntmps65
  go_wp2_with fail
  refine (tz64_16 w hz).mono ?_; rintro e w1 ⟨rfl, rfl⟩
  go_wp2
  go_ret
  exact ⟨rfl, rfl⟩

theorem reads_box {k : IntKind} {w : World} {g : Nat} {T : TypeId} {xs : List Int} (h : KBox k w g T xs) (hm : xs.length ≤ maxLen) (i : Nat) (hi : i ≤ xs.length) : Reads k w (some ⟨g, i, Option.none⟩) (xs.length - i) (xs.length - i) (xs.drop i) :=
  ⟨by simp, Nat.le_refl _, by omega, (fun h => nomatch h), fun hn => ⟨g, i, rfl, h.lt, fun j hj => by
    rw [h.cell (i + j) (by omega)]
    simp [List.getD]⟩⟩

set_option maxRecDepth 100000 in
set_option maxHeartbeats 2000000 in
theorem fmtBits_one (c : Nat) (h : c < 16) (w : World) (hT : Tabs w) :
    Calls Tryd.prog 59 #[.slice none 0 0, .int .u64 (c : Nat), .int .i64 16, .bool false, .bool false] w fun e w' => e = .returned (.tuple #[.slice none 0 0, .string ⟨#[hexB c]⟩]) ∧ Below w.heap.size w w' := by
  have kD := digit_at c h
  have h1 : ¬ (16 : Int) ≤ c := by omega
  have KB := Lib.hid (KBox.new .u8 w 88 (List.replicate 65 0) Tryd.zeroCells88 (by kernel_rfl))
  have BB := Lib.hid ((Below.refl w.heap.size w).alloc (Nat.le_refl _) (.cells Tryd.zeroCells88 88))
  have TT := Lib.hid (hT.below BB.out)
  go_enter Tryd.func59, Tryd.ntmps59
  go_wp2_with fail
  refine (pow2_16 _).mono ?_; rintro e w1 ⟨rfl, rfl⟩
  generalize w.alloc (.cells Tryd.zeroCells88 88) = wa at *
  go_wp2_with fail
  refine (tz_16 _ TT.out.z).mono ?_; rintro e w1 ⟨rfl, rfl⟩
  have hc := KB.out.cell 64 (by simp)
  have hf := KB.out.frozen 64
  have ho := KB.out.set 64 ((hexB c).toNat : Int)
  have hb2 := (BB.out.setCell (p := ⟨w.heap.size, 64, none⟩) (Nat.le_refl _) (.int .u8 ((hexB c).toNat : Int)))
  have hR := reads_box ho (by simp [maxLen]) 64 (by simp)
  have hx : ((List.replicate 65 (0 : Int)).set 64 ((hexB c).toNat : Int)).drop 64 = [((hexB c).toNat : Int)] := rfl
  have hl : ((List.replicate 65 (0 : Int)).set 64 ((hexB c).toNat : Int)).length - 64 = 1 := rfl
  rw [hx, hl] at hR
  have kR := run_bytes_string hR 40 5 Tryd.underlying40 Tryd.underlying5 9 Tryd.underlying9
  have hstr : strOfNums [((hexB c).toNat : Int)] = ⟨#[hexB c]⟩ := by simp [strOfNums]
  rw [hstr] at kR
  clear hR hx hl ho KB BB TT hT hstr
  go_wp2_with fail
  go_loopw [1, 13] (fun vu vi wr => vu = .int .u64 (c : Nat) ∧ vi = .int .i64 65 ∧ wr = w1) (fun _ _ _ => 0)
  case atStart => exact ⟨rfl, rfl, rfl⟩
  case round =>
    obtain ⟨rfl, rfl, rfl⟩ := hrel
    go_wp2
    go_ret2
    exact ⟨rfl, hb2⟩

set_option maxRecDepth 100000 in
set_option maxHeartbeats 2000000 in
theorem fmtBits_two (c : Nat) (h : c < 256) (h16 : 16 ≤ c) (w : World) (hT : Tabs w) :
    Calls Tryd.prog 59 #[.slice none 0 0, .int .u64 (c : Nat), .int .i64 16, .bool false, .bool false] w fun e w' => e = .returned (.tuple #[.slice none 0 0, .string ⟨#[hexB (c / 16), hexB (c % 16)]⟩]) ∧ Below w.heap.size w w' := by
  have kD := digit_at (c % 16) (by omega)
  have kE := digit_at (c / 16) (by omega)
  have hA := and15 c h
  have hS : (c : Int) / 16 = ((c / 16 : Nat) : Int) := by omega
  have h1 : (16 : Int) ≤ c := by omega
  have h2 : ¬ (16 : Int) ≤ ((c / 16 : Nat) : Int) := by omega
  have KB := Lib.hid (KBox.new .u8 w 88 (List.replicate 65 0) Tryd.zeroCells88 (by kernel_rfl))
  have BB := Lib.hid ((Below.refl w.heap.size w).alloc (Nat.le_refl _) (.cells Tryd.zeroCells88 88))
  have TT := Lib.hid (hT.below BB.out)
  generalize c / 16 = hi at *
  generalize c % 16 = lo at *
  go_enter Tryd.func59, Tryd.ntmps59
  go_wp2_with fail
  refine (pow2_16 _).mono ?_; rintro e w1 ⟨rfl, rfl⟩
  generalize w.alloc (.cells Tryd.zeroCells88 88) = wa at *
  go_wp2_with fail
  refine (tz_16 _ TT.out.z).mono ?_; rintro e w1 ⟨rfl, rfl⟩
  have hc := KB.out.cell 64 (by simp)
  have hf := KB.out.frozen 64
  have K2 := KB.out.set 64 ((hexB lo).toNat : Int)
  have B2 := BB.out.setCell (p := ⟨w.heap.size, 64, none⟩) (Nat.le_refl _) (.int .u8 ((hexB lo).toNat : Int))
  obtain ⟨w2, hw2⟩ : ∃ w2, w1.setCell ⟨w.heap.size, 64, none⟩ (.int .u8 ((hexB lo).toNat : Int)) = w2 := ⟨_, rfl⟩
  rw [hw2] at K2 B2
  have hc2 := K2.cell 63 (by simp)
  have hf2 := K2.frozen 63
  have K3 := K2.set 63 ((hexB hi).toNat : Int)
  have hb3 := B2.setCell (p := ⟨w.heap.size, 63, none⟩) (Nat.le_refl _) (.int .u8 ((hexB hi).toNat : Int))
  have hR := reads_box K3 (by simp [maxLen]) 63 (by simp)
  have hx : (((List.replicate 65 (0 : Int)).set 64 ((hexB lo).toNat : Int)).set 63 ((hexB hi).toNat : Int)).drop 63 = [((hexB hi).toNat : Int), ((hexB lo).toNat : Int)] := rfl
  have hl : (((List.replicate 65 (0 : Int)).set 64 ((hexB lo).toNat : Int)).set 63 ((hexB hi).toNat : Int)).length - 63 = 2 := rfl
  rw [hx, hl] at hR
  have kR := run_bytes_string hR 40 5 Tryd.underlying40 Tryd.underlying5 9 Tryd.underlying9
  have hstr : strOfNums [((hexB hi).toNat : Int), ((hexB lo).toNat : Int)] = ⟨#[hexB hi, hexB lo]⟩ := by simp [strOfNums]
  rw [hstr] at kR
  clear hR hx hl K3 K2 B2 KB BB TT hT hstr
  go_wp2_with fail
  go_loopw [1, 13] (fun vu vi wr => (vu = .int .u64 (c : Nat) ∧ vi = .int .i64 65 ∧ wr = w1) ∨ (vu = .int .u64 (hi : Nat) ∧ vi = .int .i64 64 ∧ wr = w2)) (fun _ vi _ => (intOf vi).toNat)
  case atStart => exact .inl ⟨rfl, rfl, rfl⟩
  case round =>
    rcases hrel with ⟨rfl, rfl, rfl⟩ | ⟨rfl, rfl, rfl⟩
    · go_wp2
      go_roundw
      case rel => exact .inr ⟨rfl, rfl, trivial⟩
      case measure => decide
    · clear hc hf hw2
      go_wp2
      go_ret2
      exact ⟨rfl, hb3⟩

/-- strconv.FormatInt in base 16. -/
theorem fmt_any (c : Nat) (h : c < 256) (w : World) (hT : Tabs w) :
    Calls Tryd.prog 44 #[.int .i64 (c : Nat), .int .i64 16] w fun e w' => e = .returned (.string ⟨(hexF c).toArray⟩) ∧ Below w.heap.size w w' := by
  have h0 : ¬ (c : Int) < 0 := by omega
  have hw : IntKind.u64.wrap (c : Int) = c := by rw [IntKind.wrap_u64]; omega
  have cB : Calls Tryd.prog 59 #[.slice none 0 0, .int .u64 (c : Nat), .int .i64 16, .bool false, .bool false] w fun e w' => e = .returned (.tuple #[.slice none 0 0, .string ⟨(hexF c).toArray⟩]) ∧ Below w.heap.size w w' := by
    unfold hexF
    by_cases h16 : c < 16
    · rw [if_pos h16]; exact fmtBits_one c h16 w hT
    · rw [if_neg h16]; exact fmtBits_two c h (by omega) w hT
  go_enter Tryd.func44, Tryd.ntmps44
  go_wp2_with fail
  go_enter Tryd.func52, Tryd.ntmps52
  go_wp2_with fail
  refine cB.mono ?_; rintro e w1 ⟨rfl, hb⟩
  go_wp2
  go_ret
  exact ⟨rfl, hb⟩
end Go.Proofs.YtmajdgmbcgkelaaDoor
