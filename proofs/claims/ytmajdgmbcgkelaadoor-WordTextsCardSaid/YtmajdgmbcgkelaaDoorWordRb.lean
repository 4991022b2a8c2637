/-
  The reference's letter, Count, Clip, Text.
-/
import Derived.Test.YtmajdgmbcgkelaaDoorWordRa
import Derived.Test.YtmajdgmbcgkelaaDoorWordSignsP
namespace Go.Proofs.YtmajdgmbcgkelaaDoor
open Go.RowKit
open Go.Lib (decodeL decodeN validD encodeRune decodeL_width)

set_option maxRecDepth 100000 in
theorem rcount_any (s : ByteArray) (w : World) (hs : s.size ≤ 5000) :
    Calls Tryd.prog 12 #[.string s] w fun e w' => (validD s.data.toList = true ∧ e = .returned (.tuple #[.int .i64 ((runes s.data.toList).length : Nat), .int .i64 0]) ∨ validD s.data.toList = false ∧ e = .returned (.tuple #[.int .i64 0, .int .i64 4])) ∧ Below w.heap.size w w' := by
  have c1 := rsigns_any s w hs
  have hl := runes_le s.data.toList
  rw [← Lib.size_eq] at hl
  go_enter Tryd.func12, Tryd.ntmps12
  go_wp2_with fail
  refine c1.mono ?_; rintro e w1 ⟨⟨hv, a, cap, rfl, hr⟩ | ⟨hv, rfl⟩, hb⟩
  · have HV := Lib.hid hv
    clear hv c1 hr
    go_wp2
    go_ret2
    exact ⟨.inl ⟨HV.out, rfl⟩, hb⟩
  · have HV := Lib.hid hv
    clear hv c1
    go_wp2
    go_ret2
    exact ⟨.inr ⟨HV.out, rfl⟩, hb⟩

set_option maxRecDepth 100000 in
set_option maxHeartbeats 1000000 in
theorem rclip_any (s : ByteArray) (n : Int) (w : World) (hs : s.size ≤ 5000) (hn0 : -9223372036854775808 ≤ n) (hn1 : n ≤ 9223372036854775807) :
    Calls Tryd.prog 16 #[.string s, .int .i64 n] w fun e w' => (validD s.data.toList = true ∧ e = .returned (.string (s.extract 0 (clipL n s.data.toList))) ∨ validD s.data.toList = false ∧ e = .returned (.string ⟨#[]⟩)) ∧ Below w.heap.size w w' := by
  have c1 := rsigns_any s w hs
  have HS := Lib.hid hs
  have h0 := Lib.hid (show 0 + clipL (n - (0 : Nat)) (s.data.toList.drop 0) = clipL n s.data.toList by simp)
  generalize clipL n s.data.toList = N at h0 ⊢
  go_enter Tryd.func16, Tryd.ntmps16
  go_wp2_with fail
  refine c1.mono ?_; rintro e w1 ⟨⟨hv, a, cap, rfl, hr⟩ | ⟨hv, rfl⟩, hb⟩
  · have HV := Lib.hid hv
    have HB := Lib.hid hb
    clear hv c1 hr hb hs
    generalize (runes s.data.toList).length = m at *
    go_wp2
    go_loopw [7, 8] (fun vp vi wr => ∃ (p i : Nat), vp = .int .i64 p ∧ vi = .int .i64 i ∧ wr = w1 ∧ Hid (p ≤ s.size ∧ i ≤ p) ∧ Hid (p + clipL (n - i) (s.data.toList.drop p) = N) ∧ Hid (validD (s.data.toList.drop p) = true)) (fun vp _ _ => s.size - (intOf vp).toNat)
    case atStart => exact ⟨0, 0, rfl, rfl, rfl, Lib.hid ⟨Nat.zero_le _, Nat.le_refl _⟩, h0, Lib.hid (by rw [List.drop_zero]; exact HV.out)⟩
    case round =>
      obtain ⟨p, i, rfl, rfl, rfl, HP, HN, HVP⟩ := hrel
      clear h0
      have hps := HP.out
      have hx := run_slice_str_hi (P := Tryd.prog) 9 Tryd.underlying9 s p hps.1
      by_cases hin : (i : Int) < n
      · by_cases hp : p < s.size
        · have hp' : (p : Int) < s.size := by omega
          have hne := drop_ne s p hp
          obtain ⟨d1, d2, d3, d4⟩ := dec_at s p hp
          have cS := sign_any s p hp (by have := HS.out; omega) wr
          have hvp := HVP.out
          rw [Lib.validD_step _ hne] at hvp
          have hok : ¬ ((decodeL (s.data.toList.drop p)).1 = 65533 ∧ (decodeL (s.data.toList.drop p)).2 = 1) := fun h => by rw [if_pos h] at hvp; cases hvp
          rw [if_neg hok, List.drop_drop] at hvp
          have e : signR (decodeL (s.data.toList.drop p)) = #[.int .i64 ((decodeL (s.data.toList.drop p)).1 : Nat), .int .i64 ((decodeL (s.data.toList.drop p)).2 : Nat), .bool true] := signR_ok _ _ hok
          rw [e] at cS
          have hn := HN.out
          rw [clip_step _ _ hne (by omega), List.drop_drop] at hn
          generalize (decodeL (s.data.toList.drop p)).1 = r at *
          generalize (decodeL (s.data.toList.drop p)).2 = k at *
          have q1 := Lib.hid (show p + k ≤ s.size ∧ i + 1 ≤ p + k from ⟨d3, by omega⟩)
          have q2 : Hid ((p + k) + clipL (n - ((i + 1 : Nat) : Int)) (s.data.toList.drop (p + k)) = N) := Lib.hid (by
            have e1 : n - ((i + 1 : Nat) : Int) = n - (i : Int) - 1 := by omega
            rw [e1, ← hn]; omega)
          have q3 := Lib.hid hvp
          have q4 := Lib.hid (show s.size - (p + k) < s.size - p by omega)
          have hpk : (p : Int) + (k : Int) ≤ 5000 := by have := HS.out; omega
          have hi64 : (i : Int) + 1 ≤ 9223372036854775807 := by omega
          clear hne d1 d2 d3 d4 hvp hok e hn hp hx hps
          go_wp2_with fail
          refine cS.mono ?_; rintro e w3 ⟨rfl, rfl⟩
          go_wp2
          go_roundw
          case rel => exact ⟨p + k, i + 1, by simp, by simp, trivial, q1, q2, q3⟩
          case measure =>
            have e1 : ((p : Int) + (k : Int)).toNat = p + k := by rw [← Int.natCast_add, Int.toNat_natCast]
            simp only [intOf, e1, Int.toNat_natCast]
            exact q4.out
        · have hp' : ¬ (p : Int) < s.size := by omega
          have hn := HN.out
          rw [drop_end s p hp, clip_none _ _ (.inl rfl), Nat.add_zero] at hn
          have HNN := Lib.hid hn
          clear hn hps hp
          go_wp2
          go_ret
          exact ⟨.inl ⟨HV.out, by rw [← HNN.out]; rfl⟩, HB.out⟩
      · have hn := HN.out
        rw [clip_none _ _ (.inr (by omega)), Nat.add_zero] at hn
        have HNN := Lib.hid hn
        clear hn hps
        go_wp2
        go_ret
        exact ⟨.inl ⟨HV.out, by rw [← HNN.out]; rfl⟩, HB.out⟩
  · have HV := Lib.hid hv
    clear hv c1
    go_wp2
    go_ret
    exact ⟨.inr ⟨HV.out, rfl⟩, hb⟩

theorem textGo_eq : ∀ (rs : List Nat) (n : Nat), n ≤ 200 → textGo n rs = ((rs.all fun c => !(hid c && decide (c ≠ 10))) && decide (n + rs.length ≤ 200))
  | [], n, h => by simp [textGo, h]
  | r :: rs, n, h => by
    rw [text_cons]
    by_cases h1 : 200 < n + 1
    · rw [if_pos (.inl h1), decide_eq_false (by simp only [List.length_cons]; omega), Bool.and_false]
    · by_cases h2 : hid r = true ∧ r ≠ 10
      · rw [if_pos (.inr h2), List.all_cons, h2.1, decide_eq_true h2.2]
        rfl
      · rw [if_neg (fun x => x.elim h1 h2), textGo_eq rs (n + 1) (by omega), List.all_cons]
        have e : (!(hid r && decide (r ≠ 10))) = true := by
          cases hh : hid r with
          | false => rfl
          | true => rw [decide_eq_false (fun x => h2 ⟨hh, x⟩)]; rfl
        rw [e, Bool.true_and]
        congr 2
        simp only [List.length_cons]
        exact propext ⟨fun x => by omega, fun x => by omega⟩

theorem intL_getD (rs : List Nat) (i : Nat) : (intL rs).getD i 0 = ((rs.getD i 0 : Nat) : Int) := by
  simp only [intL, List.getD_eq_getElem?_getD, List.getElem?_map]
  cases rs[i]? <;> rfl
theorem drop_getD (rs : List Nat) (i : Nat) (h : i < rs.length) : rs.drop i = rs.getD i 0 :: rs.drop (i + 1) := by
  rw [List.drop_eq_getElem_cons h, List.getD_eq_getElem?_getD, List.getElem?_eq_getElem h]; rfl

set_option maxRecDepth 100000 in
set_option maxHeartbeats 1000000 in
theorem rtext_any (s : ByteArray) (w : World) (hs : s.size ≤ 5000) :
    Calls Tryd.prog 20 #[.string s] w fun e w' => e = .returned (.bool (textL s.data.toList)) ∧ Below w.heap.size w w' := by
  have c1 := rsigns_any s w hs
  have hll := runes_le s.data.toList
  rw [← Lib.size_eq] at hll
  cases hv : validD s.data.toList with
  | false =>
    simp only [hv, Bool.false_eq_true, false_and, false_or, true_and] at c1
    rw [text_bad _ hv]
    clear hv hll
    go_enter Tryd.func20, Tryd.ntmps20
    go_wp2_with fail
    refine c1.mono ?_; rintro e w1 ⟨rfl, hb⟩
    go_wp2
    go_loopw [5] (fun vi wr => vi = .int .i64 0 ∧ wr = w1) (fun _ _ => 0)
    case atStart => exact ⟨rfl, rfl⟩
    case round =>
      obtain ⟨rfl, rfl⟩ := hrel
      go_wp2
      go_ret
      exact ⟨rfl, hb⟩
  | true =>
    simp only [hv, Bool.true_eq_false, false_and, or_false, true_and] at c1
    have ht : textL s.data.toList = textGo 0 (runes s.data.toList) := by unfold textL; rw [hv]; rfl
    rw [ht, textGo_eq _ 0 (by omega), Nat.zero_add]
    generalize runes s.data.toList = rs at *
    have h0 := Lib.hid (show ((rs.drop 0).all fun c => !(hid c && decide (c ≠ 10))) = (rs.all fun c => !(hid c && decide (c ≠ 10))) from rfl)
    generalize (rs.all fun c => !(hid c && decide (c ≠ 10))) = A at *
    have HLL := Lib.hid (show rs.length ≤ 5000 by omega)
    clear hv ht hll
    go_enter Tryd.func20, Tryd.ntmps20
    go_wp2_with fail
    refine c1.mono ?_; rintro e w1 ⟨⟨a, cap, rfl, hr⟩, hb⟩
    have HR := Lib.hid hr
    have HB := Lib.hid hb
    clear c1 hr hb
    go_wp2
    go_loopw [5] (fun vi wr => ∃ i : Nat, vi = .int .i64 i ∧ wr = w1 ∧ Hid (i ≤ rs.length) ∧ Hid (((rs.drop i).all fun c => !(hid c && decide (c ≠ 10))) = A)) (fun vi _ => rs.length - (intOf vi).toNat)
    case atStart => exact ⟨0, rfl, rfl, Lib.hid (Nat.zero_le _), h0⟩
    case round =>
      obtain ⟨i, rfl, rfl, HI, HAL⟩ := hrel
      clear h0
      by_cases hi : i < rs.length
      · have hi' : (i : Int) < rs.length := by omega
        have hi0 : (0 : Int) ≤ i := by omega
        obtain ⟨b, off, rfl, hc⟩ := HR.out.cellAt i hi
        rw [intL_getD] at hc
        have hal := HAL.out
        rw [drop_getD rs i hi, List.all_cons] at hal
        generalize rs.getD i 0 = r at *
        have cC := fun w => control_any r w
        have q1 := Lib.hid (show i + 1 ≤ rs.length by omega)
        have q2 := Lib.hid (show rs.length - (i + 1) < rs.length - i by omega)
        have hi64 : (i : Int) + 1 ≤ 9223372036854775807 := by have := HLL.out; omega
        cases hh : hid r with
        | false =>
          rw [hh] at hal
          have q3 := Lib.hid (show ((rs.drop (i + 1)).all fun c => !(hid c && decide (c ≠ 10))) = A from hal)
          simp only [hh] at cC
          clear hal hh hi
          go_wp2_with fail
          refine (cC _).mono ?_; rintro e w3 ⟨rfl, rfl⟩
          go_wp2
          go_roundw
          case rel => exact ⟨i + 1, by simp, trivial, q1, q3⟩
          case measure =>
            have e1 : ((i : Int) + 1).toNat = i + 1 := by omega
            simp only [intOf, e1, Int.toNat_natCast]
            exact q2.out
        | true =>
          rw [hh] at hal
          simp only [hh] at cC
          by_cases h10 : r = 10
          · subst h10
            have q3 := Lib.hid (show ((rs.drop (i + 1)).all fun c => !(hid c && decide (c ≠ 10))) = A from hal)
            clear hal hh hi
            go_wp2_with fail
            refine (cC _).mono ?_; rintro e w3 ⟨rfl, rfl⟩
            go_wp2
            go_roundw
            case rel => exact ⟨i + 1, by simp, trivial, q1, q3⟩
            case measure =>
              have e1 : ((i : Int) + 1).toNat = i + 1 := by omega
              simp only [intOf, e1, Int.toNat_natCast]
              exact q2.out
          · have k10 : ((r : Int) != 10) = true := by simp; omega
            have hA : A = false := by rw [← hal, decide_eq_true h10]; rfl
            have HAA := Lib.hid hA
            have hB := HB.out
            clear hal hh hi hA h10
            go_wp2_with fail
            refine (cC _).mono ?_; rintro e w3 ⟨rfl, rfl⟩
            go_wp2
            go_ret
            exact ⟨ret_bool (by rw [HAA.out]; rfl), hB⟩
      · have hi' : ¬ (i : Int) < rs.length := by omega
        have hal := HAL.out
        rw [List.drop_eq_nil_of_le (by omega)] at hal
        have HAA := Lib.hid (show A = true from hal.symm)
        have hB := HB.out
        clear hal hi
        by_cases h2 : (rs.length : Int) ≤ 200
        · have HD := Lib.hid (show decide (rs.length ≤ 200) = true from decide_eq_true (by omega))
          go_wp2
          go_ret
          exact ⟨ret_bool (by rw [HAA.out, HD.out]; rfl), hB⟩
        · have HD := Lib.hid (show decide (rs.length ≤ 200) = false from decide_eq_false (by omega))
          go_wp2
          go_ret
          exact ⟨ret_bool (by rw [HAA.out, HD.out]; rfl), hB⟩
end Go.Proofs.YtmajdgmbcgkelaaDoor
