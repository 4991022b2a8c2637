/-
  sha.Key, sha.Valid, the statements' own ones, and what the chapter's examples fix.
-/
import Derived.Test.YtkfcjlegeccgjaaShaRSum
import Derived.Test.YtkfcjlegeccgjaaNumHexRef
import Derived.Test.YtkfcjlegeccgjaaBytes
namespace Go.Proofs.Ytkfcjlegeccgjaa
open Go.RowKit

/-- The key as a text. -/
def keyS (xs : List Int) : ByteArray := strOfNums (hexL (shaB xs))
theorem hexD_bd (n : Int) (h : 0 ≤ n) (h' : n < 16) : 0 ≤ hexD n ∧ hexD n < 256 := by unfold hexD; split <;> omega
theorem hexL_isB (xs : List Int) (h : isB xs) : isB (hexL xs) := by
  intro y hy
  simp only [hexL, List.mem_flatMap] at hy
  obtain ⟨x, hx, hy⟩ := hy
  have hb := h x hx
  simp at hy
  rcases hy with rfl | rfl
  · exact hexD_bd _ (by omega) (by omega)
  · exact hexD_bd _ (by omega) (by omega)
theorem key_any (b : Option Addr) (n cap : Nat) (xs : List Int) (w : World) (hr : Reads .u8 w b n cap xs) (hb : isB xs) (hn : n ≤ 1000000) :
    Calls Try.prog 10 #[.slice b n cap] w fun e w' => e = .returned (.string (keyS xs)) ∧ Below w.heap.size w w' := by
  have h32 := shaB_len xs
  go_enter Try.func10, Try.ntmps10
  go_wp2_with fail
  refine (sum_any b n cap xs _ hr hb hn).mono ?_; rintro e w1 ⟨a1, c1, rfl, O1, B1⟩
  have R1 := reads_of_owns O1
  rw [h32] at R1 ⊢
  go_wp2_with fail
  refine (hex_any a1 _ c1 (shaB xs) _ R1 (shaB_isB xs) (by omega)).mono ?_; rintro e w2 ⟨rfl, B2⟩
  go_wp2_with fail
  go_ret
  exact ⟨rfl, below_size B1 B2⟩
theorem rkey_any (b : Option Addr) (n cap : Nat) (xs : List Int) (w : World) (hr : Reads .u8 w b n cap xs) (hb : isB xs) (hn : n ≤ 1000000) :
    Calls Try.prog 11 #[.slice b n cap] w fun e w' => e = .returned (.string (keyS xs)) ∧ Below w.heap.size w w' := by
  have h32 := shaB_len xs
  go_enter Try.func11, Try.ntmps11
  go_wp2_with fail
  refine (rsum_any b n cap xs _ hr hb hn).mono ?_; rintro e w1 ⟨a1, c1, rfl, O1, B1⟩
  have R1 := reads_of_owns O1
  rw [h32] at R1 ⊢
  go_wp2_with fail
  refine (rhex_any a1 _ c1 (shaB xs) _ R1 (shaB_isB xs) (by omega)).mono ?_; rintro e w2 ⟨rfl, B2⟩
  go_wp2_with fail
  go_ret
  exact ⟨rfl, below_size B1 B2⟩

open Classical in
/-- Is a text a key? -/
noncomputable def validB (s : ByteArray) : Bool := decide (hexOk s ∧ s.size / 2 = 32)
theorem valid_any (s : ByteArray) (w : World) (hs : s.size ≤ 1000000) :
    Calls Try.prog 12 #[.string s] w fun e w' => e = .returned (.bool (validB s)) ∧ Below w.heap.size w w' := by
  by_cases hok : hexOk s
  · by_cases h32 : s.size / 2 = 32
    · have hv : validB s = true := by unfold validB; simp [hok, h32]
      have HV := Lib.hid hv; have Hok := Lib.hid hok
      clear hv
      go_enter Try.func12, Try.ntmps12
      go_wp2_with fail
      refine (unhex_any s _ hs).mono ?_; rintro e w2 ⟨hb2, ⟨_, a2, c2, rfl, ho2⟩ | ⟨hno, _⟩⟩
      case inr => exact absurd Hok.out hno
      rw [h32] at ho2 ⊢
      clear hok h32
      go_wp2_with fail
      go_ret
      exact ⟨by rw [HV.out]; rfl, hb2⟩
    · have hv : validB s = false := by unfold validB; simp [h32]
      have HV := Lib.hid hv; have Hok := Lib.hid hok
      clear hv
      go_enter Try.func12, Try.ntmps12
      go_wp2_with fail
      refine (unhex_any s _ hs).mono ?_; rintro e w2 ⟨hb2, ⟨_, a2, c2, rfl, ho2⟩ | ⟨hno, _⟩⟩
      case inr => exact absurd Hok.out hno
      generalize s.size / 2 = m at *
      have hne : ¬ (m : Int) = 32 := by omega
      clear hok h32
      go_wp2_with fail
      go_ret
      exact ⟨by rw [HV.out]; simp [hne], hb2⟩
  · have hv : validB s = false := by unfold validB; simp [hok]
    have HV := Lib.hid hv; have Hok := Lib.hid hok
    clear hv hok
    go_enter Try.func12, Try.ntmps12
    go_wp2_with fail
    refine (unhex_any s _ hs).mono ?_; rintro e w2 ⟨hb2, ⟨hno, _⟩ | ⟨_, rfl⟩⟩
    case inl => exact absurd hno Hok.out
    go_wp2_with fail
    go_ret
    exact ⟨by rw [HV.out]; rfl, hb2⟩
theorem rvalid_any (s : ByteArray) (w : World) (hs : s.size ≤ 1000000) :
    Calls Try.prog 13 #[.string s] w fun e w' => e = .returned (.bool (validB s)) ∧ Below w.heap.size w w' := by
  by_cases hok : hexOk s
  · by_cases h32 : s.size / 2 = 32
    · have hv : validB s = true := by unfold validB; simp [hok, h32]
      have HV := Lib.hid hv; have Hok := Lib.hid hok
      clear hv
      go_enter Try.func13, Try.ntmps13
      go_wp2_with fail
      refine (runhex_any s _ hs).mono ?_; rintro e w2 ⟨hb2, ⟨_, a2, c2, rfl, ho2⟩ | ⟨hno, _⟩⟩
      case inr => exact absurd Hok.out hno
      rw [h32] at ho2 ⊢
      clear hok h32
      go_wp2_with fail
      go_ret
      exact ⟨by rw [HV.out]; rfl, hb2⟩
    · have hv : validB s = false := by unfold validB; simp [h32]
      have HV := Lib.hid hv; have Hok := Lib.hid hok
      clear hv
      go_enter Try.func13, Try.ntmps13
      go_wp2_with fail
      refine (runhex_any s _ hs).mono ?_; rintro e w2 ⟨hb2, ⟨_, a2, c2, rfl, ho2⟩ | ⟨hno, _⟩⟩
      case inr => exact absurd Hok.out hno
      generalize s.size / 2 = m at *
      have hne : ¬ (m : Int) = 32 := by omega
      clear hok h32
      go_wp2_with fail
      go_ret
      exact ⟨by rw [HV.out]; simp [hne], hb2⟩
  · have hv : validB s = false := by unfold validB; simp [hok]
    have HV := Lib.hid hv; have Hok := Lib.hid hok
    clear hv hok
    go_enter Try.func13, Try.ntmps13
    go_wp2_with fail
    refine (runhex_any s _ hs).mono ?_; rintro e w2 ⟨hb2, ⟨hno, _⟩ | ⟨_, rfl⟩⟩
    case inl => exact absurd hno Hok.out
    go_wp2_with fail
    go_ret
    exact ⟨by rw [HV.out]; rfl, hb2⟩

end Go.Proofs.Ytkfcjlegeccgjaa
