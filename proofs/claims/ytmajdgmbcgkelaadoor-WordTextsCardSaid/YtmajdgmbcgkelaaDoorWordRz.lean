/-
  The reference's Quote.
-/
import Derived.Test.YtmajdgmbcgkelaaDoorWordRq
import Derived.Test.YtmajdgmbcgkelaaDoorWordFirst
namespace Go.Proofs.YtmajdgmbcgkelaaDoor
open Go.RowKit
open Go.Lib (decodeL decodeN validD encodeRune decodeL_width)

theorem writF_eq (c : Nat) (h : escd c = true) : writF c = bodyC c ∧ ¬ (mkS (writF c) = ⟨#[]⟩) := by
  have hn := (escF_ne c).1
  unfold writF bodyC
  rw [if_pos h, if_pos h]
  refine ⟨rfl, fun e => ?_⟩
  have : (mkS (escF c)).data.toList = [] := by rw [e]
  have e2 : (mkS (escF c)).data.toList = escF c := by simp [mkS]
  rw [e2] at this
  rw [this] at hn
  simp at hn
theorem writF_no (c : Nat) (h : escd c = false) : writF c = [] ∧ bodyC c = encodeRune (c : Int) := by
  unfold writF bodyC
  simp [h]

set_option maxRecDepth 100000 in
set_option maxHeartbeats 4000000 in
theorem rquote_any (s : ByteArray) (w : World) (hs : s.size ≤ 5000) :
    Calls Tryd.prog 14 #[.string s] w fun e w' => (validD s.data.toList = true ∧ e = .returned (.tuple #[.string ⟨(quoteL (runes s.data.toList)).toArray⟩, .int .i64 0]) ∨ validD s.data.toList = false ∧ e = .returned (.tuple #[.string ⟨#[]⟩, .int .i64 4])) ∧ Below w.heap.size w w' := by
  have c1 := rsigns_any s w hs
  cases hv : validD s.data.toList with
  | false =>
    simp only [hv, Bool.false_eq_true, false_and, false_or, true_and] at c1
    clear hv
    go_enter Tryd.func14, Tryd.ntmps14
    go_wp2_with fail
    refine c1.mono ?_; rintro e w1 ⟨rfl, hb⟩
    go_wp2
    go_ret2
    exact ⟨.inr ⟨trivial, rfl⟩, hb⟩
  | true =>
    simp only [hv, Bool.true_eq_false, false_and, or_false, true_and] at c1
    have h0 := Lib.hid (show ([34] ++ bodyL (runes (s.data.toList.drop 0))) ++ [34] = quoteL (runes s.data.toList) by rw [List.drop_zero]; rfl)
    have hv0 := Lib.hid (show validD (s.data.toList.drop 0) = true by rw [List.drop_zero]; exact hv)
    generalize quoteL (runes s.data.toList) = Q at h0 ⊢
    have HS := Lib.hid hs
    clear hv
    go_enter Tryd.func14, Tryd.ntmps14
    go_wp2_with fail
    refine c1.mono ?_; rintro e w1 ⟨⟨a, cap, rfl, hr⟩, hb⟩
    have HB := Lib.hid hb
    clear c1 hr hb hs
    generalize (runes s.data.toList).length = m at *
    go_wp2
    go_loopw [6, 7] (fun vo vi wr => ∃ (p : Nat) (acc : List UInt8), vo = .string (mkS acc) ∧ vi = .int .i64 p ∧ Hid (p ≤ s.size) ∧ Hid ((acc ++ bodyL (runes (s.data.toList.drop p))) ++ [34] = Q) ∧ Hid (validD (s.data.toList.drop p) = true) ∧ Hid (Below w.heap.size w wr) ∧ Hid (acc.length ≤ 6 * p + 1)) (fun _ vi _ => s.size - (intOf vi).toNat)
    case atStart => exact ⟨0, [34], rfl, rfl, Lib.hid (Nat.zero_le _), h0, hv0, HB, Lib.hid (by simp)⟩
    case round =>
      obtain ⟨p, acc, rfl, rfl, HP, HN, HV, HBr, HL⟩ := hrel
      clear h0 hv0 HB
      by_cases hp : p < s.size
      · have hp' : (p : Int) < s.size := by omega
        obtain ⟨d1, d2, d3, d4⟩ := dec_at s p hp
        have hne := drop_ne s p hp
        have cS := sign_any s p hp (by have := HS.out; omega) wr
        have hvp := HV.out
        rw [Lib.validD_step _ hne] at hvp
        have hok : ¬ ((decodeL (s.data.toList.drop p)).1 = 65533 ∧ (decodeL (s.data.toList.drop p)).2 = 1) := fun h => by rw [if_pos h] at hvp; cases hvp
        rw [if_neg hok, List.drop_drop] at hvp
        have e : signR (decodeL (s.data.toList.drop p)) = #[.int .i64 ((decodeL (s.data.toList.drop p)).1 : Nat), .int .i64 ((decodeL (s.data.toList.drop p)).2 : Nat), .bool true] := signR_ok _ _ hok
        rw [e] at cS
        have hn := HN.out
        rw [d4, body_cons] at hn
        have hmax := dec_max (s.data.toList.drop p)
        have hen := (dec_enc (s.data.toList.drop p) hne hok).2
        have hx := run_slice_str_lo_hi (P := Tryd.prog) 9 Tryd.underlying9 s p (p + (decodeL (s.data.toList.drop p)).2) (by omega) d3
        have hex : s.extract p (p + (decodeL (s.data.toList.drop p)).2) = mkS (encodeRune ((decodeL (s.data.toList.drop p)).1 : Int)) := by
          rw [ext_mk, Nat.add_sub_cancel_left, hen]; rfl
        rw [hex] at hx
        have HEX := Lib.hid hex
        clear hex hen e hok d4 d1 hne
        generalize (decodeL (s.data.toList.drop p)).1 = r at *
        generalize (decodeL (s.data.toList.drop p)).2 = k at *
        have hx' : ∀ w, (Instr.slice 9 (.string s) (some (.int .i64 (p : Int))) (some (.int .i64 ((p : Int) + (k : Int)))) none).run Tryd.prog w = .ok (.string (mkS (encodeRune (r : Int)))) w := fun w => by
          rw [← hx w]; simp
        have q1 := Lib.hid (show p + k ≤ s.size from d3)
        have q3 := Lib.hid hvp
        have q4 := Lib.hid (show s.size - (p + k) < s.size - p by omega)
        have hpk : (p : Int) + (k : Int) ≤ 5000 := by have := HS.out; omega
        have cW := fun w => written_any r hmax w
        have hB := HBr.out
        have hsz : s.size ≤ 5000 := HS.out
        have hac : acc.length ≤ 30001 := by have := HL.out; omega
        have hsa : (mkS acc).size ≤ 30001 := by rw [Lib.size_eq]; simpa [mkS] using hac
        have hbl := bodyC_len r
        have hp0 : (0 : Int) ≤ (p : Int) + (k : Int) := by omega
        have hp1 : (p : Int) + (k : Int) ≤ s.size := by omega
        cases he : escd r with
        | true =>
          obtain ⟨hw1, hw2⟩ := writF_eq r he
          have cW2 : ∀ w, Calls Tryd.prog 33 #[.int .i64 (r : Nat)] w fun e w' => e = .returned (.string (mkS (writF r))) ∧ Below w.heap.size w w' := cW
          have hemp : (mkS (writF r)).toList.isEmpty = false := by
            rw [ByteArray.toList_eq]
            have h := (escF_ne r).1
            have e : (mkS (writF r)).data.toList = escF r := by
              have : writF r = escF r := by unfold writF; rw [if_pos he]
              rw [this]; simp [mkS]
            rw [e]
            cases hh : escF r with
            | nil => rw [hh] at h; simp at h
            | cons x y => rfl
          have hws : (mkS (writF r)).size ≤ 6 := by rw [Lib.size_eq, hw1]; simpa [mkS] using hbl.2
          have q5 : Hid ((acc ++ writF r).length ≤ 6 * (p + k) + 1) := Lib.hid (by have := HL.out; rw [List.length_append, hw1]; omega)
          have q2 : Hid (((acc ++ writF r) ++ bodyL (runes (s.data.toList.drop (p + k)))) ++ [34] = Q) := Lib.hid (by rw [hw1, ← hn]; simp only [List.append_assoc])
          have hap : mkS acc ++ mkS (writF r) = mkS (acc ++ writF r) := str_app _ _
          clear cW hw1 hw2 hn hx hx' hvp he hmax d2 d3 hp hbl hac
          generalize writF r = W at *
          go_wp2_with fail
          refine cS.mono ?_; rintro e w3 ⟨rfl, rfl⟩
          go_wp2_with fail
          refine (cW2 _).mono ?_; rintro e w4 ⟨rfl, hb4⟩
          have HB4 := Lib.hid (below_size hB hb4)
          clear cW2 cS hb4
          go_wp2
          go_roundw
          case rel => exact ⟨p + k, acc ++ W, by first | rfl | rw [hap] | rw [HEX.out, hap], by simp, q1, q2, q3, HB4, q5⟩
          case measure =>
            have e1 : ((p : Int) + (k : Int)).toNat = p + k := by rw [← Int.natCast_add, Int.toNat_natCast]
            simp only [intOf, e1, Int.toNat_natCast]
            exact q4.out
        | false =>
          obtain ⟨hw1, hw2⟩ := writF_no r he
          rw [hw1] at cW
          have hws : (mkS (encodeRune (r : Int))).size ≤ 6 := by
            have := encR_pos (r : Int)
            rw [Lib.size_eq]; simp only [mkS]; omega
          have hemp : (⟨#[]⟩ : ByteArray).toList.isEmpty = true := by rw [ByteArray.toList_eq]; rfl
          have q5 : Hid ((acc ++ encodeRune (r : Int)).length ≤ 6 * (p + k) + 1) := Lib.hid (by have := HL.out; rw [List.length_append, ← hw2]; omega)
          have q2 : Hid (((acc ++ encodeRune (r : Int)) ++ bodyL (runes (s.data.toList.drop (p + k)))) ++ [34] = Q) := Lib.hid (by rw [← hw2, ← hn]; simp only [List.append_assoc])
          have hap : mkS acc ++ mkS (encodeRune (r : Int)) = mkS (acc ++ encodeRune (r : Int)) := str_app _ _
          clear hw1 hw2 hn hx hvp he hmax d2 d3 hp hbl hac
          generalize encodeRune (r : Int) = W at *
          go_wp2_with fail
          refine cS.mono ?_; rintro e w3 ⟨rfl, rfl⟩
          go_wp2_with fail
          refine (cW _).mono ?_; rintro e w4 ⟨rfl, hb4⟩
          have HB4 := Lib.hid (below_size hB hb4)
          clear cW cS hb4
          go_wp2
          go_roundw
          case rel => exact ⟨p + k, acc ++ W, by first | rfl | rw [hap] | rw [HEX.out, hap], by simp, q1, q2, q3, HB4, q5⟩
          case measure =>
            have e1 : ((p : Int) + (k : Int)).toNat = p + k := by rw [← Int.natCast_add, Int.toNat_natCast]
            simp only [intOf, e1, Int.toNat_natCast]
            exact q4.out
      · have hp' : ¬ (p : Int) < s.size := by omega
        have hn := HN.out
        rw [drop_end s p hp, runes_nil] at hn
        have hap : mkS acc ++ ⟨#[34]⟩ = ⟨Q.toArray⟩ := by
          rw [← hn]
          have e1 : (⟨#[34]⟩ : ByteArray) = ⟨([34] : List UInt8).toArray⟩ := rfl
          rw [e1]
          exact (str_app _ _).trans (by simp [bodyL])
        have hac : acc.length ≤ 30001 := by have := HL.out; have := HS.out; have := HP.out; omega
        have hsa : (mkS acc).size ≤ 30001 := by rw [Lib.size_eq]; simpa [mkS] using hac
        have HAP := Lib.hid hap
        have hB := HBr.out
        clear hn hp hap hac
        go_wp2
        go_ret2
        exact ⟨by rw [← HAP.out]; rfl, hB⟩
end Go.Proofs.YtmajdgmbcgkelaaDoor
