/-
  The document's Set of chapter 9.
-/
import Derived.Test.YtdlmcjcdmjkhhaaPixRefAt
namespace Go.Proofs.Ytdlmcjcdmjkhhaa
open Go.RowKit

theorem below_set {b : Nat} {w w' : World} (h : Below b w w') (g i : Nat) (v : Value) (hg : b ≤ g) : Below b w (w'.setCell ⟨g, i, Option.none⟩ v) := h.setCell (by simpa using hg) v

set_option maxRecDepth 100000 in
set_option maxHeartbeats 2000000 in
theorem rset_not (W H C D : Int) (a : Option Addr) (n cap : Nat) (x y c v : Int) (w : World) (hH : -9223372036854775808 ≤ H ∧ H ≤ 9223372036854775807) (hv : -9223372036854775808 ≤ v ∧ v ≤ 9223372036854775807) (he : setErr W H C D n x y c v ≠ 0) :
    Calls Try.prog 14 #[ras W H C D a n cap, .int .i64 x, .int .i64 y, .int .i64 c, .int .i64 v] w fun e w' => e = .returned (.tuple #[ras 0 0 0 0 Option.none 0 0, .int .i64 (setErr W H C D n x y c v)]) ∧ Below w.heap.size w w' := by
  have hb1 : Below w.heap.size w ((w.alloc (.cells #[.int .i64 W, .int .i64 H, .int .i64 C, .int .i64 D, .slice a n cap] 26)).alloc (.cells #[.int .i64 0, .int .i64 0, .int .i64 0, .int .i64 0, .slice Option.none 0 0] 26)) := ((Below.refl _ _).alloc (Nat.le_refl _) _).alloc (by simp) _
  have bx0 := (rbox_alloc w W H C D a n cap 26).below ((Below.refl _ _).alloc (Nat.le_refl _) (.cells #[.int .i64 0, .int .i64 0, .int .i64 0, .int .i64 0, .slice Option.none 0 0] 26))
  have by0 := rbox_alloc (w.alloc (.cells #[.int .i64 W, .int .i64 H, .int .i64 C, .int .i64 D, .slice a n cap] 26)) 0 0 0 0 Option.none 0 0 26
  rw [World.size_alloc] at by0
  have B := Lib.hid hb1; have BX := Lib.hid bx0; have BY := Lib.hid by0
  have Hv := Lib.hid (show w.heap.size + 2 ≤ ((w.alloc (.cells #[.int .i64 W, .int .i64 H, .int .i64 C, .int .i64 D, .slice a n cap] 26)).alloc (.cells #[.int .i64 0, .int .i64 0, .int .i64 0, .int .i64 0, .slice Option.none 0 0] 26)).heap.size by simp)
  have hP := fun w' => rplace_any W H C D a n cap x y c w' hH
  have hEE : plE W H C D n x y c = atErr W H C D n x y c := rfl
  rw [hEE] at hP
  by_cases h0 : atErr W H C D n x y c = 0
  · obtain ⟨hm, hi⟩ := atErr_zero.1 h0
    have hb := (mayR_spec hm).1
    have hD := hb.2.2.2.2.2.2
    have hf : fit v (D / 8) = false := by
      cases h : fit v (D / 8)
      · rfl
      · exfalso; apply he; unfold setErr; rw [if_pos hm, if_pos hi, if_pos h]
    have hS : setErr W H C D n x y c v = 1 := by unfold setErr; rw [if_pos hm, if_pos hi, if_neg (by rw [hf]; decide)]
    rw [hS]
    rw [h0] at hP
    have HP := Lib.hid hP
    have hD8 : 8 ≤ D ∧ D ≤ 16 := by omega
    clear hb1 bx0 by0 hP hS he h0 hm hi hb hEE
    by_cases hv0 : v < 0
    · go_enter Try.func14, Try.ntmps14
      go_wp2_with fail
      generalize ((w.alloc (.cells #[.int .i64 W, .int .i64 H, .int .i64 C, .int .i64 D, .slice a n cap] 26)).alloc (.cells #[.int .i64 0, .int .i64 0, .int .i64 0, .int .i64 0, .slice Option.none 0 0] 26)) = v0 at *
      refine (HP.out _).mono ?_; rintro e w1 ⟨rfl, bb⟩
      replace B := Lib.hid (below_size B.out bb)
      replace BX := Lib.hid (BX.out.below bb)
      replace BY := Lib.hid (BY.out.below bb)
      clear bb
      have c0 := BX.out.box.c0; have c1 := BX.out.box.c1; have c2 := BX.out.box.c2; have c3 := BX.out.box.c3; have c4 := BX.out.c4
      have d0 := BY.out.box.c0; have d1 := BY.out.box.c1; have d2 := BY.out.box.c2; have d3 := BY.out.box.c3; have d4 := BY.out.c4; have f0 := BY.out.box.f0; have f1 := BY.out.box.f1; have f2 := BY.out.box.f2; have f3 := BY.out.box.f3; have f4 := BY.out.f4
      go_wp2_with fail
      refine bodyPost_ret (results_ras rfl _ _ _ rfl (BY.out.set 0 0 0 0 Option.none 0 0)) rfl ?_
      exact ⟨rfl, ((((B.out.setCell (by simp) _).setCell (by simp) _).setCell (by simp) _).setCell (by simp) _).setCell (by simp) _⟩
    · obtain ⟨u, rfl⟩ := Int.eq_ofNat_of_zero_le (show 0 ≤ v by omega)
      rcases hD with rfl | rfl
      · have hbig : (0 : Int) < (u : Int) / 2 ^ 8 := by
          have h := hf
          unfold fit at h
          have h3 : ¬ ((u : Int) / 2 ^ 8 = 0) := fun hz => of_decide_eq_false h ⟨by decide, by decide, by omega, hz⟩
          have h4 : (0 : Int) ≤ (u : Int) / 2 ^ 8 := Int.ediv_nonneg (by omega) (by decide)
          omega
        have hbig2 : (0 : Int) < (u : Int) / 256 := hbig
        clear hf
        go_enter Try.func14, Try.ntmps14
        go_wp2_with fail
        generalize ((w.alloc (.cells #[.int .i64 W, .int .i64 H, .int .i64 C, .int .i64 8, .slice a n cap] 26)).alloc (.cells #[.int .i64 0, .int .i64 0, .int .i64 0, .int .i64 0, .slice Option.none 0 0] 26)) = v0 at *
        refine (HP.out _).mono ?_; rintro e w1 ⟨rfl, bb⟩
        replace B := Lib.hid (below_size B.out bb)
        replace BX := Lib.hid (BX.out.below bb)
        replace BY := Lib.hid (BY.out.below bb)
        clear bb
        have c0 := BX.out.box.c0; have c1 := BX.out.box.c1; have c2 := BX.out.box.c2; have c3 := BX.out.box.c3; have c4 := BX.out.c4
        have d0 := BY.out.box.c0; have d1 := BY.out.box.c1; have d2 := BY.out.box.c2; have d3 := BY.out.box.c3; have d4 := BY.out.c4; have f0 := BY.out.box.f0; have f1 := BY.out.box.f1; have f2 := BY.out.box.f2; have f3 := BY.out.box.f3; have f4 := BY.out.f4
        go_wp2_with fail
        refine bodyPost_ret (results_ras rfl _ _ _ rfl (BY.out.set 0 0 0 0 Option.none 0 0)) rfl ?_
        exact ⟨rfl, ((((B.out.setCell (by simp) _).setCell (by simp) _).setCell (by simp) _).setCell (by simp) _).setCell (by simp) _⟩
      · have hbig : (0 : Int) < (u : Int) / 2 ^ 16 := by
          have h := hf
          unfold fit at h
          have h3 : ¬ ((u : Int) / 2 ^ 16 = 0) := fun hz => of_decide_eq_false h ⟨by decide, by decide, by omega, hz⟩
          have h4 : (0 : Int) ≤ (u : Int) / 2 ^ 16 := Int.ediv_nonneg (by omega) (by decide)
          omega
        have hbig2 : (0 : Int) < (u : Int) / 65536 := hbig
        clear hf
        go_enter Try.func14, Try.ntmps14
        go_wp2_with fail
        generalize ((w.alloc (.cells #[.int .i64 W, .int .i64 H, .int .i64 C, .int .i64 16, .slice a n cap] 26)).alloc (.cells #[.int .i64 0, .int .i64 0, .int .i64 0, .int .i64 0, .slice Option.none 0 0] 26)) = v0 at *
        refine (HP.out _).mono ?_; rintro e w1 ⟨rfl, bb⟩
        replace B := Lib.hid (below_size B.out bb)
        replace BX := Lib.hid (BX.out.below bb)
        replace BY := Lib.hid (BY.out.below bb)
        clear bb
        have c0 := BX.out.box.c0; have c1 := BX.out.box.c1; have c2 := BX.out.box.c2; have c3 := BX.out.box.c3; have c4 := BX.out.c4
        have d0 := BY.out.box.c0; have d1 := BY.out.box.c1; have d2 := BY.out.box.c2; have d3 := BY.out.box.c3; have d4 := BY.out.c4; have f0 := BY.out.box.f0; have f1 := BY.out.box.f1; have f2 := BY.out.box.f2; have f3 := BY.out.box.f3; have f4 := BY.out.f4
        go_wp2_with fail
        refine bodyPost_ret (results_ras rfl _ _ _ rfl (BY.out.set 0 0 0 0 Option.none 0 0)) rfl ?_
        exact ⟨rfl, ((((B.out.setCell (by simp) _).setCell (by simp) _).setCell (by simp) _).setCell (by simp) _).setCell (by simp) _⟩
  · have h0' : (atErr W H C D n x y c != 0) = true := by simpa using h0
    have hS : setErr W H C D n x y c v = atErr W H C D n x y c := by
      unfold setErr atErr at *
      by_cases hm : mayR W H C D n = true
      · rw [if_pos hm, if_pos hm]
        by_cases hi : InR W H C x y c
        · exfalso; apply h0; rw [if_pos hm, if_pos hi]
        · rw [if_neg hi, if_neg hi]
      · rw [if_neg hm, if_neg hm]
    rw [hS]
    generalize atErr W H C D n x y c = E at *
    generalize plV W H C D n x y c = pv at *
    have HP := Lib.hid hP
    clear hb1 bx0 by0 hP hS he h0 hEE
    go_enter Try.func14, Try.ntmps14
    go_wp2_with fail
    generalize ((w.alloc (.cells #[.int .i64 W, .int .i64 H, .int .i64 C, .int .i64 D, .slice a n cap] 26)).alloc (.cells #[.int .i64 0, .int .i64 0, .int .i64 0, .int .i64 0, .slice Option.none 0 0] 26)) = v0 at *
    refine (HP.out _).mono ?_; rintro e w1 ⟨rfl, bb⟩
    replace B := Lib.hid (below_size B.out bb)
    replace BX := Lib.hid (BX.out.below bb)
    replace BY := Lib.hid (BY.out.below bb)
    clear bb
    have d0 := BY.out.box.c0; have d1 := BY.out.box.c1; have d2 := BY.out.box.c2; have d3 := BY.out.box.c3; have d4 := BY.out.c4; have f0 := BY.out.box.f0; have f1 := BY.out.box.f1; have f2 := BY.out.box.f2; have f3 := BY.out.box.f3; have f4 := BY.out.f4
    go_wp2_with fail
    refine bodyPost_ret (results_ras rfl _ _ _ rfl (BY.out.set 0 0 0 0 Option.none 0 0)) rfl ?_
    exact ⟨rfl, ((((B.out.setCell (by simp) _).setCell (by simp) _).setCell (by simp) _).setCell (by simp) _).setCell (by simp) _⟩

theorem setList_one (xs : List Int) (p : Nat) (v : Int) (h : p < xs.length) : xs.take p ++ (big v 1 ++ xs.drop (p + 1)) = xs.set p (v % 256) := by
  have e : big v 1 = [v % 256] := by simp [big, lit]
  apply ext_getD
  · simp [e]; omega
  · intro i hi
    rw [getD_splice _ _ _ _ _ (by omega) (by simp [e]), getD_set, e]
    by_cases h1 : i = p
    · subst h1; simp [h]
    · rw [if_neg (by omega : ¬ (p = i ∧ _))]
      by_cases h2 : i < p
      · rw [if_pos h2]
      · rw [if_neg h2, if_neg (by omega)]
theorem setList_two (xs : List Int) (p : Nat) (v : Int) (h : p + 1 < xs.length) : xs.take p ++ (big v 2 ++ xs.drop (p + 2)) = (xs.set p (v / 256 % 256)).set (p + 1) (v % 256) := by
  have e : big v 2 = [v / 256 % 256, v % 256] := by simp [big, lit, List.range_succ]
  apply ext_getD
  · simp [e]; omega
  · intro i hi
    rw [getD_splice _ _ _ _ _ (by omega) (by simp [e]), getD_set, getD_set, e]
    by_cases h1 : i = p
    · subst h1
      rw [if_neg (by omega), if_pos (by omega), if_neg (by omega), if_pos ⟨rfl, by omega⟩]; simp
    · by_cases h2 : i = p + 1
      · subst h2
        rw [if_neg (by omega), if_pos (by omega), if_pos ⟨rfl, by simp; omega⟩]; simp
      · rw [if_neg (by omega : ¬ (p + 1 = i ∧ _)), if_neg (by omega : ¬ (p = i ∧ _))]
        by_cases h3 : i < p
        · rw [if_pos h3]
        · rw [if_neg h3, if_neg (by omega)]

set_option maxRecDepth 100000 in
set_option maxHeartbeats 4000000 in
theorem rset_yes (W H C D : Int) (a : Option Addr) (n cap : Nat) (xs : List Int) (x y c v : Int) (w : World) (hr : Reads .u8 w a n cap xs) (hv : -9223372036854775808 ≤ v ∧ v ≤ 9223372036854775807) (hm : mayR W H C D n = true) (hi : InR W H C x y c) (hf : fit v (D / 8) = true) :
    Calls Try.prog 14 #[ras W H C D a n cap, .int .i64 x, .int .i64 y, .int .i64 c, .int .i64 v] w fun e w' => ∃ g k, e = .returned (.tuple #[ras W H C D (some ⟨g, 0, Option.none⟩) n k, .int .i64 0]) ∧ w'.ownsRow w.heap.size 5 1 (.slice (some ⟨g, 0, Option.none⟩) n k) n ((setList W H C D xs x y c v).map (Value.int .u8)) ∧ Below w.heap.size w w' := by
  have hb := (mayR_spec hm).1
  have hs := (mayR_spec hm).2
  have hq := plAt_in hb hi
  have hD := hb.2.2.2.2.2.2
  have hH : -9223372036854775808 ≤ H ∧ H ≤ 9223372036854775807 := by have h1 := hb.2.2.1; have h2 := hb.2.2.2.1; omega
  have hP := fun w' => rplace_any W H C D a n cap x y c w' hH
  have h0 : plE W H C D n x y c = 0 := atErr_zero.2 ⟨hm, hi⟩
  have hpv : plV W H C D n x y c = plAt W H C D x y c := by rw [plV, if_pos ⟨hm, hi⟩]
  rw [h0, hpv] at hP
  unfold setList
  generalize plAt W H C D x y c = pl at *
  obtain ⟨p, rfl⟩ : ∃ p : Nat, pl = p := ⟨pl.toNat, by omega⟩
  simp only [Int.toNat_natCast]
  have hl := hr.len
  have hn : n ≤ 16384 := by omega
  have hfv : 0 ≤ v := by unfold fit at hf; exact (of_decide_eq_true hf).2.2.1
  have hf4 : v / 2 ^ (8 * (D / 8)).toNat = 0 := by unfold fit at hf; exact (of_decide_eq_true hf).2.2.2
  obtain ⟨u, rfl⟩ := Int.eq_ofNat_of_zero_le hfv
  rcases hD with rfl | rfl
  · have hp : p < n := by omega
    have hf5 : (u : Int) / 256 = 0 := hf4
    have hf6 : ¬ (0 : Int) < (u : Int) / 256 := by omega
    have hub : u < 256 := by omega
    rw [show ((8 : Int) / 8).toNat = 1 from by decide, setList_one xs p u (by omega), show (u : Int) % 256 = u from by omega]
    have hb1 : Below w.heap.size w ((w.alloc (.cells #[.int .i64 W, .int .i64 H, .int .i64 C, .int .i64 8, .slice a n cap] 26)).alloc (.cells #[.int .i64 0, .int .i64 0, .int .i64 0, .int .i64 0, .slice Option.none 0 0] 26)) := ((Below.refl _ _).alloc (Nat.le_refl _) _).alloc (by simp) _
    have bx0 := (rbox_alloc w W H C 8 a n cap 26).below ((Below.refl _ _).alloc (Nat.le_refl _) (.cells #[.int .i64 0, .int .i64 0, .int .i64 0, .int .i64 0, .slice Option.none 0 0] 26))
    have by0 := rbox_alloc (w.alloc (.cells #[.int .i64 W, .int .i64 H, .int .i64 C, .int .i64 8, .slice a n cap] 26)) 0 0 0 0 Option.none 0 0 26
    rw [World.size_alloc] at by0
    have B := Lib.hid hb1; have BX := Lib.hid bx0; have BY := Lib.hid by0
    have Hv := Lib.hid (show w.heap.size + 2 ≤ ((w.alloc (.cells #[.int .i64 W, .int .i64 H, .int .i64 C, .int .i64 8, .slice a n cap] 26)).alloc (.cells #[.int .i64 0, .int .i64 0, .int .i64 0, .int .i64 0, .slice Option.none 0 0] 26)).heap.size by simp)
    have HP := Lib.hid hP; have HR := Lib.hid (hr.below hb1); have HL := Lib.hid hl
    clear hb1 bx0 by0 hP hf hf4 hf5 hs hq hb hm hi h0 hpv hr hl hfv
    go_enter Try.func14, Try.ntmps14
    go_wp2_with fail
    generalize ((w.alloc (.cells #[.int .i64 W, .int .i64 H, .int .i64 C, .int .i64 8, .slice a n cap] 26)).alloc (.cells #[.int .i64 0, .int .i64 0, .int .i64 0, .int .i64 0, .slice Option.none 0 0] 26)) = v0 at *
    refine (HP.out _).mono ?_; rintro e w1 ⟨rfl, bb⟩
    replace B := Lib.hid (below_size B.out bb)
    replace BX := Lib.hid (BX.out.below bb)
    replace BY := Lib.hid (BY.out.below bb)
    replace HR := Lib.hid (HR.out.below bb)
    have hsz1 := bb.size
    have Hsz1 := Lib.hid (show w.heap.size + 2 ≤ w1.heap.size by have := Hv.out; omega)
    clear bb hsz1
    have c0 := BX.out.box.c0; have c1 := BX.out.box.c1; have c2 := BX.out.box.c2; have c3 := BX.out.box.c3; have c4 := BX.out.c4
    go_wp2_with fail
    clear c0 c1 c2 c3 c4
    refine (copy_any W H C 8 a n cap xs _ HR.out (by omega)).mono ?_; rintro e w2 ⟨a2, k2, rfl, o2, bb⟩
    rw [HL.out] at o2
    rw [HL.out]
    replace B := Lib.hid (below_size B.out bb)
    replace BX := Lib.hid (BX.out.below bb)
    replace BY := Lib.hid (BY.out.below bb)
    replace o2 := owns_base o2 Hsz1.out
    obtain ⟨ga, rfl, hga⟩ := owns_addr o2 (by omega)
    have hne1 : ¬ ga = w.heap.size := by omega
    have O2 := Lib.hid o2
    clear bb o2
    have c0 := BX.out.box.c0; have c1 := BX.out.box.c1; have c2 := BX.out.box.c2; have c3 := BX.out.box.c3; have c4 := BX.out.c4; have f0 := BX.out.box.f0; have f1 := BX.out.box.f1; have f2 := BX.out.box.f2; have f3 := BX.out.box.f3; have f4 := BX.out.f4
    go_upto_region 7 with fail
    clear c0 c1 c2 c3 c4 f0 f1 f2 f3 f4
    have o3 := owns_under (owns_under (owns_under (owns_under (owns_under O2.out w.heap.size 0 (.int .i64 W) (by omega)) w.heap.size 1 (.int .i64 H) (by omega)) w.heap.size 2 (.int .i64 C) (by omega)) w.heap.size 3 (.int .i64 8) (by omega)) w.heap.size 4 (.slice (some ⟨ga, 0, Option.none⟩) n k2) (by omega)
    replace BX := Lib.hid (BX.out.set W H C 8 (some ⟨ga, 0, Option.none⟩) n k2)
    replace BY := Lib.hid (((((BY.out.setFar w.heap.size 0 (.int .i64 W) (by omega)).setFar w.heap.size 1 (.int .i64 H) (by omega)).setFar w.heap.size 2 (.int .i64 C) (by omega)).setFar w.heap.size 3 (.int .i64 8) (by omega)).setFar w.heap.size 4 (.slice (some ⟨ga, 0, Option.none⟩) n k2) (by omega))
    replace B := Lib.hid (below_set (below_set (below_set (below_set (below_set B.out w.heap.size 0 (.int .i64 W) (by omega)) w.heap.size 1 (.int .i64 H) (by omega)) w.heap.size 2 (.int .i64 C) (by omega)) w.heap.size 3 (.int .i64 8) (by omega)) w.heap.size 4 (.slice (some ⟨ga, 0, Option.none⟩) n k2) (by omega))
    generalize (((((w2.setCell ⟨w.heap.size, 0, Option.none⟩ (.int .i64 W)).setCell ⟨w.heap.size, 1, Option.none⟩ (.int .i64 H)).setCell ⟨w.heap.size, 2, Option.none⟩ (.int .i64 C)).setCell ⟨w.heap.size, 3, Option.none⟩ (.int .i64 8)).setCell ⟨w.heap.size, 4, Option.none⟩ (.slice (some ⟨ga, 0, Option.none⟩) n k2)) = w3 at *
    have xI := owns_cell o3 (p) (by omega)
    have zI := o3.frozenAt (p)
    have o4 := owns_set o3 (p) ((u : Int))
    have O4 := Lib.hid o4
    clear o3 o4
    have c0 := BX.out.box.c0; have c1 := BX.out.box.c1; have c2 := BX.out.box.c2; have c3 := BX.out.box.c3; have c4 := BX.out.c4
    go_upto_region 10 with fail
    clear c0 c1 c2 c3 c4
    clear xI zI
    replace BX := Lib.hid (BX.out.setFar ga (p) (.int .u8 ((u : Int))) (by omega))
    replace BY := Lib.hid (BY.out.setFar ga (p) (.int .u8 ((u : Int))) (by omega))
    replace B := Lib.hid (below_set B.out ga (p) (.int .u8 ((u : Int))) (by omega))
    have o3 := O4.out
    clear O4
    generalize w3.setCell ⟨ga, p, Option.none⟩ (.int .u8 ((u : Int))) = w4 at *
    have c0 := BX.out.box.c0; have c1 := BX.out.box.c1; have c2 := BX.out.box.c2; have c3 := BX.out.box.c3; have c4 := BX.out.c4
    have d0 := BY.out.box.c0; have d1 := BY.out.box.c1; have d2 := BY.out.box.c2; have d3 := BY.out.box.c3; have d4 := BY.out.c4; have f0 := BY.out.box.f0; have f1 := BY.out.box.f1; have f2 := BY.out.box.f2; have f3 := BY.out.box.f3; have f4 := BY.out.f4
    have O3 := Lib.hid o3
    clear o3
    go_wp2_with fail
    have o3 := O3.out
    have o4 := owns_under (owns_under (owns_under (owns_under (owns_under o3 (w.heap.size + 1) 0 (.int .i64 W) (by omega)) (w.heap.size + 1) 1 (.int .i64 H) (by omega)) (w.heap.size + 1) 2 (.int .i64 C) (by omega)) (w.heap.size + 1) 3 (.int .i64 8) (by omega)) (w.heap.size + 1) 4 (.slice (some ⟨ga, 0, Option.none⟩) n k2) (by omega)
    refine bodyPost_ret (results_ras rfl _ _ _ rfl (BY.out.set W H C 8 (some ⟨ga, 0, Option.none⟩) n k2)) rfl ?_
    exact ⟨ga, k2, rfl, owns_base o4 (by omega), ((((B.out.setCell (by simp) _).setCell (by simp) _).setCell (by simp) _).setCell (by simp) _).setCell (by simp) _⟩
  · have hp : p + 1 < n := by omega
    have hf5 : (u : Int) / 65536 = 0 := hf4
    have hf6 : ¬ (0 : Int) < (u : Int) / 65536 := by omega
    have hub : u < 65536 := by omega
    rw [show ((16 : Int) / 8).toNat = 2 from by decide, setList_two xs p u (by omega), show (u : Int) / 256 % 256 = (u : Int) / 256 from by omega]
    have hb1 : Below w.heap.size w ((w.alloc (.cells #[.int .i64 W, .int .i64 H, .int .i64 C, .int .i64 16, .slice a n cap] 26)).alloc (.cells #[.int .i64 0, .int .i64 0, .int .i64 0, .int .i64 0, .slice Option.none 0 0] 26)) := ((Below.refl _ _).alloc (Nat.le_refl _) _).alloc (by simp) _
    have bx0 := (rbox_alloc w W H C 16 a n cap 26).below ((Below.refl _ _).alloc (Nat.le_refl _) (.cells #[.int .i64 0, .int .i64 0, .int .i64 0, .int .i64 0, .slice Option.none 0 0] 26))
    have by0 := rbox_alloc (w.alloc (.cells #[.int .i64 W, .int .i64 H, .int .i64 C, .int .i64 16, .slice a n cap] 26)) 0 0 0 0 Option.none 0 0 26
    rw [World.size_alloc] at by0
    have B := Lib.hid hb1; have BX := Lib.hid bx0; have BY := Lib.hid by0
    have Hv := Lib.hid (show w.heap.size + 2 ≤ ((w.alloc (.cells #[.int .i64 W, .int .i64 H, .int .i64 C, .int .i64 16, .slice a n cap] 26)).alloc (.cells #[.int .i64 0, .int .i64 0, .int .i64 0, .int .i64 0, .slice Option.none 0 0] 26)).heap.size by simp)
    have HP := Lib.hid hP; have HR := Lib.hid (hr.below hb1); have HL := Lib.hid hl
    clear hb1 bx0 by0 hP hf hf4 hf5 hs hq hb hm hi h0 hpv hr hl hfv
    go_enter Try.func14, Try.ntmps14
    go_wp2_with fail
    generalize ((w.alloc (.cells #[.int .i64 W, .int .i64 H, .int .i64 C, .int .i64 16, .slice a n cap] 26)).alloc (.cells #[.int .i64 0, .int .i64 0, .int .i64 0, .int .i64 0, .slice Option.none 0 0] 26)) = v0 at *
    refine (HP.out _).mono ?_; rintro e w1 ⟨rfl, bb⟩
    replace B := Lib.hid (below_size B.out bb)
    replace BX := Lib.hid (BX.out.below bb)
    replace BY := Lib.hid (BY.out.below bb)
    replace HR := Lib.hid (HR.out.below bb)
    have hsz1 := bb.size
    have Hsz1 := Lib.hid (show w.heap.size + 2 ≤ w1.heap.size by have := Hv.out; omega)
    clear bb hsz1
    have c0 := BX.out.box.c0; have c1 := BX.out.box.c1; have c2 := BX.out.box.c2; have c3 := BX.out.box.c3; have c4 := BX.out.c4
    go_wp2_with fail
    clear c0 c1 c2 c3 c4
    refine (copy_any W H C 16 a n cap xs _ HR.out (by omega)).mono ?_; rintro e w2 ⟨a2, k2, rfl, o2, bb⟩
    rw [HL.out] at o2
    rw [HL.out]
    replace B := Lib.hid (below_size B.out bb)
    replace BX := Lib.hid (BX.out.below bb)
    replace BY := Lib.hid (BY.out.below bb)
    replace o2 := owns_base o2 Hsz1.out
    obtain ⟨ga, rfl, hga⟩ := owns_addr o2 (by omega)
    have hne1 : ¬ ga = w.heap.size := by omega
    have O2 := Lib.hid o2
    clear bb o2
    have c0 := BX.out.box.c0; have c1 := BX.out.box.c1; have c2 := BX.out.box.c2; have c3 := BX.out.box.c3; have c4 := BX.out.c4; have f0 := BX.out.box.f0; have f1 := BX.out.box.f1; have f2 := BX.out.box.f2; have f3 := BX.out.box.f3; have f4 := BX.out.f4
    go_upto_region 7 with fail
    clear c0 c1 c2 c3 c4 f0 f1 f2 f3 f4
    have o3 := owns_under (owns_under (owns_under (owns_under (owns_under O2.out w.heap.size 0 (.int .i64 W) (by omega)) w.heap.size 1 (.int .i64 H) (by omega)) w.heap.size 2 (.int .i64 C) (by omega)) w.heap.size 3 (.int .i64 16) (by omega)) w.heap.size 4 (.slice (some ⟨ga, 0, Option.none⟩) n k2) (by omega)
    replace BX := Lib.hid (BX.out.set W H C 16 (some ⟨ga, 0, Option.none⟩) n k2)
    replace BY := Lib.hid (((((BY.out.setFar w.heap.size 0 (.int .i64 W) (by omega)).setFar w.heap.size 1 (.int .i64 H) (by omega)).setFar w.heap.size 2 (.int .i64 C) (by omega)).setFar w.heap.size 3 (.int .i64 16) (by omega)).setFar w.heap.size 4 (.slice (some ⟨ga, 0, Option.none⟩) n k2) (by omega))
    replace B := Lib.hid (below_set (below_set (below_set (below_set (below_set B.out w.heap.size 0 (.int .i64 W) (by omega)) w.heap.size 1 (.int .i64 H) (by omega)) w.heap.size 2 (.int .i64 C) (by omega)) w.heap.size 3 (.int .i64 16) (by omega)) w.heap.size 4 (.slice (some ⟨ga, 0, Option.none⟩) n k2) (by omega))
    generalize (((((w2.setCell ⟨w.heap.size, 0, Option.none⟩ (.int .i64 W)).setCell ⟨w.heap.size, 1, Option.none⟩ (.int .i64 H)).setCell ⟨w.heap.size, 2, Option.none⟩ (.int .i64 C)).setCell ⟨w.heap.size, 3, Option.none⟩ (.int .i64 16)).setCell ⟨w.heap.size, 4, Option.none⟩ (.slice (some ⟨ga, 0, Option.none⟩) n k2)) = w3 at *
    have xI := owns_cell o3 (p) (by omega)
    have zI := o3.frozenAt (p)
    have o4 := owns_set o3 (p) ((u : Int) / 256)
    have O4 := Lib.hid o4
    clear o3 o4
    have c0 := BX.out.box.c0; have c1 := BX.out.box.c1; have c2 := BX.out.box.c2; have c3 := BX.out.box.c3; have c4 := BX.out.c4
    go_upto_region 9 with fail
    clear c0 c1 c2 c3 c4
    clear xI zI
    replace BX := Lib.hid (BX.out.setFar ga (p) (.int .u8 ((u : Int) / 256)) (by omega))
    replace BY := Lib.hid (BY.out.setFar ga (p) (.int .u8 ((u : Int) / 256)) (by omega))
    replace B := Lib.hid (below_set B.out ga (p) (.int .u8 ((u : Int) / 256)) (by omega))
    have o3 := O4.out
    clear O4
    generalize w3.setCell ⟨ga, p, Option.none⟩ (.int .u8 ((u : Int) / 256)) = w4 at *
    have xI := owns_cell o3 (p + 1) (by omega)
    have zI := o3.frozenAt (p + 1)
    have o4 := owns_set o3 (p + 1) ((u : Int) % 256)
    have O4 := Lib.hid o4
    clear o3 o4
    have c0 := BX.out.box.c0; have c1 := BX.out.box.c1; have c2 := BX.out.box.c2; have c3 := BX.out.box.c3; have c4 := BX.out.c4
    go_upto_region 10 with fail
    clear c0 c1 c2 c3 c4
    clear xI zI
    replace BX := Lib.hid (BX.out.setFar ga (p + 1) (.int .u8 ((u : Int) % 256)) (by omega))
    replace BY := Lib.hid (BY.out.setFar ga (p + 1) (.int .u8 ((u : Int) % 256)) (by omega))
    replace B := Lib.hid (below_set B.out ga (p + 1) (.int .u8 ((u : Int) % 256)) (by omega))
    have o3 := O4.out
    clear O4
    generalize w4.setCell ⟨ga, p + 1, Option.none⟩ (.int .u8 ((u : Int) % 256)) = w5 at *
    have c0 := BX.out.box.c0; have c1 := BX.out.box.c1; have c2 := BX.out.box.c2; have c3 := BX.out.box.c3; have c4 := BX.out.c4
    have d0 := BY.out.box.c0; have d1 := BY.out.box.c1; have d2 := BY.out.box.c2; have d3 := BY.out.box.c3; have d4 := BY.out.c4; have f0 := BY.out.box.f0; have f1 := BY.out.box.f1; have f2 := BY.out.box.f2; have f3 := BY.out.box.f3; have f4 := BY.out.f4
    have O3 := Lib.hid o3
    clear o3
    go_wp2_with fail
    have o3 := O3.out
    have o4 := owns_under (owns_under (owns_under (owns_under (owns_under o3 (w.heap.size + 1) 0 (.int .i64 W) (by omega)) (w.heap.size + 1) 1 (.int .i64 H) (by omega)) (w.heap.size + 1) 2 (.int .i64 C) (by omega)) (w.heap.size + 1) 3 (.int .i64 16) (by omega)) (w.heap.size + 1) 4 (.slice (some ⟨ga, 0, Option.none⟩) n k2) (by omega)
    refine bodyPost_ret (results_ras rfl _ _ _ rfl (BY.out.set W H C 16 (some ⟨ga, 0, Option.none⟩) n k2)) rfl ?_
    exact ⟨ga, k2, rfl, owns_base o4 (by omega), ((((B.out.setCell (by simp) _).setCell (by simp) _).setCell (by simp) _).setCell (by simp) _).setCell (by simp) _⟩
end Go.Proofs.Ytdlmcjcdmjkhhaa
