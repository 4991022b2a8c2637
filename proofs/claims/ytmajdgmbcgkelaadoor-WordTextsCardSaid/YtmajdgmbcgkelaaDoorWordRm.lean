/-
  The reference's Name.
-/
import Derived.Test.YtmajdgmbcgkelaaDoorWordRl
import Derived.Test.YtmajdgmbcgkelaaDoorWordRn
namespace Go.Proofs.YtmajdgmbcgkelaaDoor
open Go.RowKit
open Go.Lib (decodeL decodeN validD encodeRune decodeL_width)

theorem nmGo_cons (p c : Nat) (rs : List Nat) : nmGo p (c :: rs) = (letterP c && (!(decide (c = 47) && decide (p = 47)) && nmGo c rs)) := rfl

set_option maxRecDepth 100000 in
set_option maxHeartbeats 8000000 in
theorem rname_main (s : ByteArray) (rs : List Nat) (w : World) (hs : s.size ≤ 5000) (hv : validD s.data.toList = true) (hR : runes s.data.toList = rs) (h1 : 0 < rs.length) (h2 : rs.length ≤ 40) (H L : Nat) (hH : rs.getD 0 0 = H) (hL : rs.getD (rs.length - 1) 0 = L)
    (h3 : H ≠ 45 ∧ H ≠ 46 ∧ H ≠ 47) (h4 : L ≠ 46 ∧ L ≠ 47) :
    Calls Tryd.prog 18 #[.string s] w fun e w' => e = .returned (.bool (nmGo 0 rs)) ∧ Below w.heap.size w w' := by
  have c1 := rsigns_any s w hs
  simp only [hv, Bool.true_eq_false, false_and, or_false, true_and, hR] at c1
  clear hv hR
  have k1 : ¬ (rs.length : Int) < 1 := by omega
  have k2 : ¬ (40 : Int) < rs.length := by omega
  have e1 : ((rs.length : Int) - 1).toNat = rs.length - 1 := by omega
  have hm : (rs.length : Int) ≤ 40 := by omega
  have n1 : ((H : Int) == 45) = false := by simp; omega
  have n2 : ((H : Int) == 46) = false := by simp; omega
  have n3 : ((H : Int) == 47) = false := by simp; omega
  have hl0 : (0 : Int) ≤ (rs.length : Int) - 1 := by omega
  have hl1 : (rs.length : Int) - 1 < rs.length := by omega
  have n4 : ((L : Int) == 46) = false := by simp; omega
  have n5 : ((L : Int) == 47) = false := by simp; omega
  have h0 := Lib.hid (show nmGo 0 (rs.drop 0) = nmGo 0 rs from rfl)
  generalize nmGo 0 rs = A at h0 ⊢
  clear h3 h4
  go_enter Tryd.func18, Tryd.ntmps18
  go_wp2_with fail
  refine c1.mono ?_; rintro e w1 ⟨⟨a, cap, rfl, hr⟩, hb⟩
  have HR := Lib.hid hr
  obtain ⟨b, off, e, hd⟩ := hr.cellAt (rs.length - 1) (by omega)
  obtain ⟨b, off, rfl, hc⟩ := hr.cellAt 0 h1
  cases e
  rw [intL_getD, hH] at hc
  rw [intL_getD, hL] at hd
  have hc : w1.cell? ⟨b, off, none⟩ = some (.int .i64 H) := hc
  have hd : w1.cell? ⟨b, off + (rs.length - 1), none⟩ = some (.int .i64 L) := hd
  have HB := Lib.hid hb
  have HM := Lib.hid h2
  clear c1 hr hb
  go_wp2
  clear hc hd hl0 hl1 n1 n2 n3 n4 n5 e1 k1 k2 hm hH hL h1 h2
  go_loopw [5] (fun vi wr => ∃ (i q : Nat), vi = .int .i64 i ∧ wr = w1 ∧ Hid (i ≤ rs.length) ∧ Hid (nmGo q (rs.drop i) = A) ∧ Hid (i = 0 ∧ q = 0 ∨ 0 < i ∧ q = rs.getD (i - 1) 0)) (fun vi _ => rs.length - (intOf vi).toNat)
  case atStart => exact ⟨0, 0, rfl, rfl, Lib.hid (Nat.zero_le _), h0, Lib.hid (.inl ⟨rfl, rfl⟩)⟩
  case round =>
    obtain ⟨i, q, rfl, rfl, HI, HN, HQ⟩ := hrel
    clear h0
    by_cases hi : i < rs.length
    · have hi' : (i : Int) < rs.length := by omega
      have hi0 : (0 : Int) ≤ i := by omega
      obtain ⟨b', off', e, hc⟩ := HR.out.cellAt i hi
      cases e
      rw [intL_getD] at hc
      obtain ⟨r, hr⟩ : ∃ r, rs.getD i 0 = r := ⟨_, rfl⟩
      rw [hr] at hc
      have hn := HN.out
      rw [drop_getD rs i hi, hr, nmGo_cons] at hn
      have cL := fun w => rletter_any r w
      have q1 := Lib.hid (show i + 1 ≤ rs.length by omega)
      have q2 := Lib.hid (show rs.length - (i + 1) < rs.length - i by omega)
      have q3 : Hid (i + 1 = 0 ∧ r = 0 ∨ 0 < i + 1 ∧ r = rs.getD (i + 1 - 1) 0) := Lib.hid (.inr ⟨by omega, hr.symm⟩)
      have hi64 : (i : Int) + 1 ≤ 41 := by have := HM.out; omega
      have hB := HB.out
      clear hr
      cases hl : letterP r with
      | false =>
        rw [hl] at hn
        simp only [hl] at cL
        have HA := Lib.hid (show A = false from hn.symm)
        clear hn hl hi
        go_wp2_with fail
        refine (cL _).mono ?_; rintro e w3 ⟨rfl, rfl⟩
        clear cL
        go_wp2
        all_goals go_ret
        all_goals exact ⟨by rw [HA.out]; rfl, hB⟩
      | true =>
        rw [hl, Bool.true_and] at hn
        simp only [hl] at cL
        clear hl
        rcases HQ.out with ⟨z, zq⟩ | ⟨z, zq⟩
        · subst z
          subst zq
          have q4 : Hid (nmGo r (rs.drop (0 + 1)) = A) := Lib.hid (by
            have e : (!(decide (r = 47) && decide ((0 : Nat) = 47))) = true := by simp
            rw [e, Bool.true_and] at hn
            exact hn)
          clear hn hi
          have hc : wr.cell? ⟨b, off, none⟩ = some (.int .i64 r) := hc
          go_wp2_with fail
          refine (cL _).mono ?_; rintro e w3 ⟨rfl, rfl⟩
          clear cL
          go_wp2
          all_goals go_roundw
          case rel => exact ⟨1, r, by simp, trivial, q1, q4, q3⟩
          case measure => exact q2.out
        · obtain ⟨j, rfl⟩ : ∃ j, i = j + 1 := ⟨i - 1, by omega⟩
          rw [Nat.add_sub_cancel] at zq
          obtain ⟨b', off', e, hp⟩ := HR.out.cellAt j (by omega)
          cases e
          rw [intL_getD, ← zq] at hp
          have ej : ((((j + 1 : Nat) : Int)) - 1).toNat = j := by omega
          have ep : (0 : Int) < ((j + 1 : Nat) : Int) := by omega
          have g0 : (0 : Int) ≤ ((j + 1 : Nat) : Int) - 1 := by omega
          have g1 : ((j + 1 : Nat) : Int) - 1 < rs.length := by omega
          by_cases h47 : r = 47
          · subst h47
            by_cases p47 : q = 47
            · subst p47
              have HA := Lib.hid (show A = false from hn.symm)
              clear hn hi zq
              go_wp2_with fail
              refine (cL _).mono ?_; rintro e w3 ⟨rfl, rfl⟩
              clear cL
              go_wp2
              all_goals go_ret
              all_goals exact ⟨by rw [HA.out]; rfl, hB⟩
            · have t2 : ((q : Int) == 47) = false := by simp; omega
              have q4 : Hid (nmGo 47 (rs.drop (j + 1 + 1)) = A) := Lib.hid (by
                rw [decide_eq_false p47, Bool.and_false] at hn
                exact hn)
              clear hn hi zq
              go_wp2_with fail
              refine (cL _).mono ?_; rintro e w3 ⟨rfl, rfl⟩
              clear cL
              go_wp2
              all_goals go_roundw
              case rel => exact ⟨j + 1 + 1, 47, by simp, trivial, q1, q4, q3⟩
              case measure =>
                have e1 : (((j + 1 : Nat) : Int) + 1).toNat = j + 1 + 1 := by omega
                simp only [intOf, e1, Int.toNat_natCast]
                exact q2.out
          · have t1 : ((r : Int) == 47) = false := by simp; omega
            have q4 : Hid (nmGo r (rs.drop (j + 1 + 1)) = A) := Lib.hid (by
              rw [decide_eq_false h47, Bool.false_and] at hn
              exact hn)
            clear hn hi zq
            go_wp2_with fail
            refine (cL _).mono ?_; rintro e w3 ⟨rfl, rfl⟩
            clear cL
            go_wp2
            all_goals go_roundw
            case rel => exact ⟨j + 1 + 1, r, by simp, trivial, q1, q4, q3⟩
            case measure =>
              have e1 : (((j + 1 : Nat) : Int) + 1).toNat = j + 1 + 1 := by omega
              simp only [intOf, e1, Int.toNat_natCast]
              exact q2.out
    · have hi' : ¬ (i : Int) < rs.length := by omega
      have hn := HN.out
      rw [List.drop_eq_nil_of_le (by omega)] at hn
      have HA := Lib.hid (show A = true from hn.symm)
      have hB := HB.out
      clear hn hi
      go_wp2
      go_ret
      exact ⟨by rw [HA.out]; rfl, hB⟩

theorem rname_any (s : ByteArray) (w : World) (hs : s.size ≤ 5000) :
    Calls Tryd.prog 18 #[.string s] w fun e w' => e = .returned (.bool (nameL s.data.toList)) ∧ Below w.heap.size w w' := by
  cases hv : validD s.data.toList with
  | false => rw [name_bad _ hv]; exact rname_early s w hs (.inl hv)
  | true =>
    unfold nameL
    by_cases h1 : (runes s.data.toList).length = 0
    · rw [List.eq_nil_of_length_eq_zero h1, name_nil]
      exact rname_early s w hs (.inr ⟨hv, .inl h1⟩)
    by_cases h2 : 40 < (runes s.data.toList).length
    · rw [name_long _ h2]
      exact rname_early s w hs (.inr ⟨hv, .inr h2⟩)
    by_cases h3 : (runes s.data.toList).getD 0 0 = 45 ∨ (runes s.data.toList).getD 0 0 = 46 ∨ (runes s.data.toList).getD 0 0 = 47
    · rw [name_head _ h3]
      exact rname_head s _ w hs hv rfl (by omega) (by omega) _ _ rfl rfl (by omega)
    by_cases h4 : (runes s.data.toList).getD ((runes s.data.toList).length - 1) 0 = 46 ∨ (runes s.data.toList).getD ((runes s.data.toList).length - 1) 0 = 47
    · rw [name_last _ h4]
      exact rname_head s _ w hs hv rfl (by omega) (by omega) _ _ rfl rfl (by omega)
    rw [name_rest _ (by omega) (by omega) (by omega) (by omega)]
    exact rname_main s _ w hs hv rfl (by omega) (by omega) _ _ rfl rfl (by omega) (by omega)
end Go.Proofs.YtmajdgmbcgkelaaDoor
