/-
  The reference's written and Quote.
-/
import Derived.Test.YtmajdgmbcgkelaaDoorWordRb
namespace Go.Proofs.YtmajdgmbcgkelaaDoor
open Go.RowKit
open Go.Lib (decodeL decodeN validD encodeRune decodeL_width)

theorem hexD_B : ∀ k < 16, (hexD ((k : Nat) : Int)).toNat.toUInt8 = hexB k ∧ 0 ≤ hexD ((k : Nat) : Int) ∧ hexD ((k : Nat) : Int) < 256 := by decide
theorem hexL_one (c : Nat) (h : c < 256) : strOfNums (hexL [(c : Int)]) = ⟨#[hexB (c / 16), hexB (c % 16)]⟩ := by
  have h1 := (hexD_B (c / 16) (by omega)).1
  have h2 := (hexD_B (c % 16) (by omega)).1
  have e1 : (c : Int) / 16 = ((c / 16 : Nat) : Int) := by omega
  have e2 : (c : Int) % 16 = ((c % 16 : Nat) : Int) := by omega
  have e : hexL [(c : Int)] = [hexD ((c : Int) / 16), hexD ((c : Int) % 16)] := rfl
  rw [e, e1, e2]
  simp only [strOfNums, List.map_cons, List.map_nil]
  show (⟨#[(hexD ((c / 16 : Nat) : Int)).toNat.toUInt8, (hexD ((c % 16 : Nat) : Int)).toNat.toUInt8]⟩ : ByteArray) = _
  rw [h1, h2]

def writF (c : Nat) : List UInt8 := if escd c then escF c else []
theorem hexB_zero : ∀ k < 16, hexB k = 48 ↔ k = 0 := by decide

set_option maxRecDepth 100000 in
set_option maxHeartbeats 1000000 in
theorem written_any (c : Nat) (hc : c ≤ 1114111) (w : World) :
    Calls Tryd.prog 33 #[.int .i64 (c : Nat)] w fun e w' => e = .returned (.string ⟨(writF c).toArray⟩) ∧ Below w.heap.size w w' := by
  by_cases h34 : c = 34
  · subst h34
    have hR : Reads .u8 (w.alloc (.cells #[.int .u8 92, .int .u8 34] 5)) (some ⟨w.heap.size, 0, none⟩) 2 2 [92, 34] := reads_alloc w [92, 34] _ _ _ rfl (by decide) 2 rfl
    have kR := run_bytes_string hR 40 5 Tryd.underlying40 Tryd.underlying5 9 Tryd.underlying9
    have hb := (Below.refl w.heap.size w).alloc (Nat.le_refl _) (.cells #[.int .u8 92, .int .u8 34] 5)
    clear hR
    go_enter Tryd.func33, Tryd.ntmps33
    go_wp2
    go_ret
    exact ⟨rfl, hb⟩
  · have k34 : ((c : Int) == 34) = false := by simp; omega
    by_cases h92 : c = 92
    · subst h92
      have hR : Reads .u8 (w.alloc (.cells #[.int .u8 92, .int .u8 92] 5)) (some ⟨w.heap.size, 0, none⟩) 2 2 [92, 92] := reads_alloc w [92, 92] _ _ _ rfl (by decide) 2 rfl
      have kR := run_bytes_string hR 40 5 Tryd.underlying40 Tryd.underlying5 9 Tryd.underlying9
      have hb := (Below.refl w.heap.size w).alloc (Nat.le_refl _) (.cells #[.int .u8 92, .int .u8 92] 5)
      clear hR
      go_enter Tryd.func33, Tryd.ntmps33
      go_wp2
      go_ret
      exact ⟨rfl, hb⟩
    · have k92 : ((c : Int) == 92) = false := by simp; omega
      by_cases h10 : c = 10
      · subst h10
        go_enter Tryd.func33, Tryd.ntmps33
        go_wp2
        go_ret
        exact ⟨rfl, Below.refl _ _⟩
      · have k10 : ((c : Int) == 10) = false := by simp; omega
        cases hh : hid c with
        | false =>
          have cC := control_any c w
          rw [hh] at cC
          have he : escd c = false := by unfold escd; rw [decide_eq_false h34, decide_eq_false h92, hh]; rfl
          have hw : writF c = [] := by unfold writF; rw [if_neg (by rw [he]; simp)]
          rw [hw]
          clear he hw hh
          go_enter Tryd.func33, Tryd.ntmps33
          go_wp2_with fail
          refine cC.mono ?_; rintro e w1 ⟨rfl, rfl⟩
          go_wp2
          go_ret
          exact ⟨rfl, Below.refl _ _⟩
        | true =>
          have cC := control_any c w
          rw [hh] at cC
          have he : escd c = true := by unfold escd; rw [hh]; simp
          have hlt := escd_lt c he
          have hw : writF c = [92, 117, 123] ++ hexF c ++ [125] := by
            unfold writF escF; rw [if_pos he, if_neg h34, if_neg h92, if_neg h10]
          have hF : (⟨#[92, 117, 123]⟩ ++ ⟨(hexF c).toArray⟩ ++ ⟨#[125]⟩ : ByteArray) = ⟨(writF c).toArray⟩ := by
            have e1 : (⟨#[92, 117, 123]⟩ : ByteArray) = ⟨([92, 117, 123] : List UInt8).toArray⟩ := rfl
            have e2 : (⟨#[125]⟩ : ByteArray) = ⟨([125] : List UInt8).toArray⟩ := rfl
            rw [e1, e2, str_app, str_app, hw]
          rw [← hF]
          have hR : Reads .u8 (w.alloc (.cells #[.int .u8 (c : Int)] 5)) (some ⟨w.heap.size, 0, none⟩) 1 1 [(c : Int)] := reads_alloc w [(c : Int)] _ _ _ rfl (show 1 ≤ maxLen by decide) 1 rfl
          have hb := (Below.refl w.heap.size w).alloc (Nat.le_refl _) (.cells #[.int .u8 (c : Int)] 5)
          have cH := rhex_any _ _ _ _ _ hR (isB.one (by omega) (by omega)) (by omega)
          rw [hexL_one c (by omega)] at cH
          have hu8 : IntKind.u8.wrap (c : Int) = c := by rw [IntKind.wrap_u8]; omega
          have h256 : (c : Int) < 160 := by omega
          have hc0 : (0 : Int) ≤ c := by omega
          have hz := hexB_zero (c / 16) (by omega)
          have ki : ∀ w, (Instr.index 9 (.string ⟨#[hexB (c / 16), hexB (c % 16)]⟩) (.int .i64 0)).run Tryd.prog w = .ok (.int .u8 ((hexB (c / 16)).toNat : Int)) w := fun w =>
            (run_index_str (P := Tryd.prog) 9 Tryd.underlying9 ⟨#[hexB (c / 16), hexB (c % 16)]⟩ 0 0 rfl (show 0 < 2 by omega) w).trans rfl
          by_cases h16 : c < 16
          · have e0 : c / 16 = 0 := by omega
            have em : c % 16 = c := by omega
            have ex : hexF c = [hexB c] := by unfold hexF; rw [if_pos h16]
            rw [ex]
            rw [e0, em] at cH ki
            have kx : ∀ w, (Instr.slice 9 (.string ⟨#[hexB 0, hexB c]⟩) (some (.int .i64 1)) none none).run Tryd.prog w = .ok (.string ⟨#[hexB c]⟩) w := fun w =>
              (run_slice_str_lo (P := Tryd.prog) 9 Tryd.underlying9 ⟨#[hexB 0, hexB c]⟩ 1 (show 1 ≤ 2 by omega) w).trans (by congr 2)
            have h0 : ((hexB 0).toNat : Int) = 48 := by decide
            rw [h0] at ki
            generalize hexB c = hc' at *
            generalize hexB 0 = h0' at *
            clear hz hw hF ex em e0 he hh hlt hR
            go_enter Tryd.func33, Tryd.ntmps33
            go_wp2_with fail
            refine cC.mono ?_; rintro e w1 ⟨rfl, rfl⟩
            go_wp2_with fail
            refine cH.mono ?_; rintro e w2 ⟨rfl, hb2⟩
            go_wp2
            go_ret
            exact ⟨rfl, below_size hb hb2⟩
          · have ex : hexF c = [hexB (c / 16), hexB (c % 16)] := by unfold hexF; rw [if_neg h16]
            have hne : (((hexB (c / 16)).toNat : Int) == 48) = false := by
              simp only [beq_eq_false_iff_ne, ne_eq]
              intro h
              have : hexB (c / 16) = 48 := UInt8.toNat_inj.1 (by have e : (48 : UInt8).toNat = 48 := rfl; omega)
              have := hz.1 this
              omega
            rw [ex]
            generalize hexB (c / 16) = hA at *
            generalize hexB (c % 16) = hB at *
            clear hz hw hF ex he hh hlt hR
            go_enter Tryd.func33, Tryd.ntmps33
            go_wp2_with fail
            refine cC.mono ?_; rintro e w1 ⟨rfl, rfl⟩
            go_wp2_with fail
            refine cH.mono ?_; rintro e w2 ⟨rfl, hb2⟩
            go_wp2
            go_ret
            exact ⟨rfl, below_size hb hb2⟩
end Go.Proofs.YtmajdgmbcgkelaaDoor
