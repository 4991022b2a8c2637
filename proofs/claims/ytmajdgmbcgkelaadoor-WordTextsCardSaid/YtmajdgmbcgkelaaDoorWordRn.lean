/-
  The reference's Name.
-/
import Derived.Test.YtmajdgmbcgkelaaDoorWordRo
import Derived.Test.YtmajdgmbcgkelaaDoorWordRb
namespace Go.Proofs.YtmajdgmbcgkelaaDoor
open Go.RowKit
open Go.Lib (decodeL decodeN validD encodeRune decodeL_width)

set_option maxRecDepth 100000 in
set_option maxHeartbeats 4000000 in
theorem rname_early (s : ByteArray) (w : World) (hs : s.size ≤ 5000) (h : validD s.data.toList = false ∨ validD s.data.toList = true ∧ ((runes s.data.toList).length = 0 ∨ 40 < (runes s.data.toList).length)) :
    Calls Tryd.prog 18 #[.string s] w fun e w' => e = .returned (.bool false) ∧ Below w.heap.size w w' := by
  have c1 := rsigns_any s w hs
  have hll := runes_le s.data.toList
  rw [← Lib.size_eq] at hll
  rcases h with hv | ⟨hv, h | h⟩
  · simp only [hv, Bool.false_eq_true, false_and, false_or, true_and] at c1
    clear hv hll
    go_enter Tryd.func18, Tryd.ntmps18
    go_wp2_with fail
    refine c1.mono ?_; rintro e w1 ⟨rfl, hb⟩
    go_wp2
    all_goals go_ret
    all_goals exact ⟨rfl, hb⟩
  · simp only [hv, Bool.true_eq_false, false_and, or_false, true_and] at c1
    generalize runes s.data.toList = rs at *
    rw [h] at c1
    clear hv hll
    go_enter Tryd.func18, Tryd.ntmps18
    go_wp2_with fail
    refine c1.mono ?_; rintro e w1 ⟨⟨a, cap, rfl, hr⟩, hb⟩
    clear c1 hr
    go_wp2
    all_goals go_ret
    all_goals exact ⟨rfl, hb⟩
  · simp only [hv, Bool.true_eq_false, false_and, or_false, true_and] at c1
    generalize runes s.data.toList = rs at *
    have h' : (40 : Int) < rs.length := by omega
    have h1 : ¬ (rs.length : Int) < 1 := by omega
    clear hv h
    go_enter Tryd.func18, Tryd.ntmps18
    go_wp2_with fail
    refine c1.mono ?_; rintro e w1 ⟨⟨a, cap, rfl, hr⟩, hb⟩
    clear c1 hr
    go_wp2
    all_goals go_ret
    all_goals exact ⟨rfl, hb⟩

set_option maxRecDepth 100000 in
set_option maxHeartbeats 4000000 in
theorem rname_head (s : ByteArray) (rs : List Nat) (w : World) (hs : s.size ≤ 5000) (hv : validD s.data.toList = true) (hR : runes s.data.toList = rs) (h1 : 0 < rs.length) (h2 : rs.length ≤ 40) (H L : Nat) (hH : rs.getD 0 0 = H) (hL : rs.getD (rs.length - 1) 0 = L)
    (h : H = 45 ∨ H = 46 ∨ H = 47 ∨ L = 46 ∨ L = 47) :
    Calls Tryd.prog 18 #[.string s] w fun e w' => e = .returned (.bool false) ∧ Below w.heap.size w w' := by
  have c1 := rsigns_any s w hs
  simp only [hv, Bool.true_eq_false, false_and, or_false, true_and, hR] at c1
  clear hv hR
  have k1 : ¬ (rs.length : Int) < 1 := by omega
  have k2 : ¬ (40 : Int) < rs.length := by omega
  have e1 : ((rs.length : Int) - 1).toNat = rs.length - 1 := by omega
  have hm : (rs.length : Int) ≤ 40 := by omega
  by_cases a1 : H = 45
  · subst a1
    go_enter Tryd.func18, Tryd.ntmps18
    go_wp2_with fail
    refine c1.mono ?_; rintro e w1 ⟨⟨a, cap, rfl, hr⟩, hb⟩
    obtain ⟨b, off, rfl, hc⟩ := hr.cellAt 0 h1
    rw [intL_getD, hH] at hc
    have hc : w1.cell? ⟨b, off, none⟩ = some (.int .i64 45) := hc
    clear c1 hr
    go_wp2
    all_goals go_ret
    all_goals exact ⟨rfl, hb⟩
  have n1 : ((H : Int) == 45) = false := by simp; omega
  by_cases a2 : H = 46
  · subst a2
    go_enter Tryd.func18, Tryd.ntmps18
    go_wp2_with fail
    refine c1.mono ?_; rintro e w1 ⟨⟨a, cap, rfl, hr⟩, hb⟩
    obtain ⟨b, off, rfl, hc⟩ := hr.cellAt 0 h1
    rw [intL_getD, hH] at hc
    have hc : w1.cell? ⟨b, off, none⟩ = some (.int .i64 46) := hc
    clear c1 hr
    go_wp2
    all_goals go_ret
    all_goals exact ⟨rfl, hb⟩
  have n2 : ((H : Int) == 46) = false := by simp; omega
  by_cases a3 : H = 47
  · subst a3
    go_enter Tryd.func18, Tryd.ntmps18
    go_wp2_with fail
    refine c1.mono ?_; rintro e w1 ⟨⟨a, cap, rfl, hr⟩, hb⟩
    obtain ⟨b, off, rfl, hc⟩ := hr.cellAt 0 h1
    rw [intL_getD, hH] at hc
    have hc : w1.cell? ⟨b, off, none⟩ = some (.int .i64 47) := hc
    clear c1 hr
    go_wp2
    all_goals go_ret
    all_goals exact ⟨rfl, hb⟩
  have n3 : ((H : Int) == 47) = false := by simp; omega
  have hl0 : (0 : Int) ≤ (rs.length : Int) - 1 := by omega
  have hl1 : (rs.length : Int) - 1 < rs.length := by omega
  by_cases a4 : L = 46
  · subst a4
    go_enter Tryd.func18, Tryd.ntmps18
    go_wp2_with fail
    refine c1.mono ?_; rintro e w1 ⟨⟨a, cap, rfl, hr⟩, hb⟩
    obtain ⟨b, off, e, hd⟩ := hr.cellAt (rs.length - 1) (by omega)
    obtain ⟨b, off, rfl, hc⟩ := hr.cellAt 0 h1
    cases e
    rw [intL_getD, hH] at hc
    rw [intL_getD, hL] at hd
    have hc : w1.cell? ⟨b, off, none⟩ = some (.int .i64 H) := hc
    have hd : w1.cell? ⟨b, off + (rs.length - 1), none⟩ = some (.int .i64 46) := hd
    clear c1 hr
    go_wp2
    all_goals go_ret
    all_goals exact ⟨rfl, hb⟩
  have n4 : ((L : Int) == 46) = false := by simp; omega
  have a5 : L = 47 := by omega
  subst a5
  go_enter Tryd.func18, Tryd.ntmps18
  go_wp2_with fail
  refine c1.mono ?_; rintro e w1 ⟨⟨a, cap, rfl, hr⟩, hb⟩
  obtain ⟨b, off, e, hd⟩ := hr.cellAt (rs.length - 1) (by omega)
  obtain ⟨b, off, rfl, hc⟩ := hr.cellAt 0 h1
  cases e
  rw [intL_getD, hH] at hc
  rw [intL_getD, hL] at hd
  have hc : w1.cell? ⟨b, off, none⟩ = some (.int .i64 H) := hc
  have hd : w1.cell? ⟨b, off + (rs.length - 1), none⟩ = some (.int .i64 47) := hd
  clear c1 hr
  go_wp2
  all_goals go_ret
  all_goals exact ⟨rfl, hb⟩
end Go.Proofs.YtmajdgmbcgkelaaDoor
