/-
  sha.Valid, aquref1.Valid.
-/
import Derived.Test.YtbmbelnjgnahhaaNumUnhexRef
namespace Go.Proofs.Ytbmbelnjgnahhaa
open Go.RowKit

open Classical in
/-- Is a text a key? -/
noncomputable def validB (s : ByteArray) : Bool := decide (hexOk s ∧ s.size / 2 = 32)
theorem valid_any (s : ByteArray) (w : World) (hs : s.size ≤ 1000000) :
    Calls Try.prog 62 #[.string s] w fun e w' => e = .returned (.bool (validB s)) ∧ Below w.heap.size w w' := by
  by_cases hok : hexOk s
  · by_cases h32 : s.size / 2 = 32
    · have hv : validB s = true := by unfold validB; simp [hok, h32]
      have HV := Lib.hid hv; have Hok := Lib.hid hok
      clear hv
      go_enter Try.func62, Try.ntmps62
      go_wp2_with fail
      refine (unhex_any s _ hs).mono ?_; rintro e w2 ⟨hb2, ⟨_, a2, c2, rfl, ho2⟩ | ⟨hno, _⟩⟩
      case inr => exact absurd Hok.out hno
      rw [h32] at ho2 ⊢
      clear hok h32
      go_wp2_with fail
      go_ret
      exact ⟨by rw [HV.out]; rfl, hb2⟩
    · have hv : validB s = false := by unfold validB; simp [h32]
      have HV := Lib.hid hv; have Hok := Lib.hid hok
      clear hv
      go_enter Try.func62, Try.ntmps62
      go_wp2_with fail
      refine (unhex_any s _ hs).mono ?_; rintro e w2 ⟨hb2, ⟨_, a2, c2, rfl, ho2⟩ | ⟨hno, _⟩⟩
      case inr => exact absurd Hok.out hno
      generalize s.size / 2 = m at *
      have hne : ¬ (m : Int) = 32 := by omega
      clear hok h32
      go_wp2_with fail
      go_ret
      exact ⟨by rw [HV.out]; simp [hne], hb2⟩
  · have hv : validB s = false := by unfold validB; simp [hok]
    have HV := Lib.hid hv; have Hok := Lib.hid hok
    clear hv hok
    go_enter Try.func62, Try.ntmps62
    go_wp2_with fail
    refine (unhex_any s _ hs).mono ?_; rintro e w2 ⟨hb2, ⟨hno, _⟩ | ⟨_, rfl⟩⟩
    case inl => exact absurd hno Hok.out
    go_wp2_with fail
    go_ret
    exact ⟨by rw [HV.out]; rfl, hb2⟩
theorem rvalid_any (s : ByteArray) (w : World) (hs : s.size ≤ 1000000) :
    Calls Try.prog 33 #[.string s] w fun e w' => e = .returned (.bool (validB s)) ∧ Below w.heap.size w w' := by
  by_cases hok : hexOk s
  · by_cases h32 : s.size / 2 = 32
    · have hv : validB s = true := by unfold validB; simp [hok, h32]
      have HV := Lib.hid hv; have Hok := Lib.hid hok
      clear hv
      go_enter Try.func33, Try.ntmps33
      go_wp2_with fail
      refine (runhex_any s _ hs).mono ?_; rintro e w2 ⟨hb2, ⟨_, a2, c2, rfl, ho2⟩ | ⟨hno, _⟩⟩
      case inr => exact absurd Hok.out hno
      rw [h32] at ho2 ⊢
      clear hok h32
      go_wp2_with fail
      go_ret
      exact ⟨by rw [HV.out]; rfl, hb2⟩
    · have hv : validB s = false := by unfold validB; simp [h32]
      have HV := Lib.hid hv; have Hok := Lib.hid hok
      clear hv
      go_enter Try.func33, Try.ntmps33
      go_wp2_with fail
      refine (runhex_any s _ hs).mono ?_; rintro e w2 ⟨hb2, ⟨_, a2, c2, rfl, ho2⟩ | ⟨hno, _⟩⟩
      case inr => exact absurd Hok.out hno
      generalize s.size / 2 = m at *
      have hne : ¬ (m : Int) = 32 := by omega
      clear hok h32
      go_wp2_with fail
      go_ret
      exact ⟨by rw [HV.out]; simp [hne], hb2⟩
  · have hv : validB s = false := by unfold validB; simp [hok]
    have HV := Lib.hid hv; have Hok := Lib.hid hok
    clear hv hok
    go_enter Try.func33, Try.ntmps33
    go_wp2_with fail
    refine (runhex_any s _ hs).mono ?_; rintro e w2 ⟨hb2, ⟨hno, _⟩ | ⟨_, rfl⟩⟩
    case inl => exact absurd hno Hok.out
    go_wp2_with fail
    go_ret
    exact ⟨by rw [HV.out]; rfl, hb2⟩
end Go.Proofs.Ytbmbelnjgnahhaa
