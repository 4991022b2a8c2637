/-
  aquref17.MergeTrees.
-/
import Derived.Test.YtbmbelnjgnahhaaRefRes
namespace Go.Proofs.Ytbmbelnjgnahhaa
open Go.RowKit

set_option maxRecDepth 100000 in
set_option maxHeartbeats 2000000 in
theorem rmerge_form (o a b : TV) (w : World) (ho : TOk w o) (ha : TOk w a) (hb : TOk w b) (hm : (o.may && a.may && b.may) = false) :
    Calls Try.prog 12 #[o.val, a.val, b.val] w fun e w' => e = .returned (.tuple #[ras 0 0 0 0 Option.none 0 0, .slice Option.none 0 0, .int .i64 4]) ∧ Below w.heap.size w w' := by
  obtain ⟨w1, hw1, x1, x2, x3, x4, b1, s1⟩ := four_boxes w o a b 30
  have X1 := Lib.hid x1; have X2 := Lib.hid x2; have X3 := Lib.hid x3; have X4 := Lib.hid x4; have B1 := Lib.hid b1; have HW := Lib.hid hw1
  have KO := Lib.hid (ho.below b1); have KA := Lib.hid (ha.below b1); have KB := Lib.hid (hb.below b1)
  have M1 := Lib.hid (fun w' (h : TOk w' o) => rmayV h)
  have M2 := Lib.hid (fun w' (h : TOk w' a) => rmayV h)
  have M3 := Lib.hid (fun w' (h : TOk w' b) => rmayV h)
  clear hw1 x1 x2 x3 x4 b1 s1 ho ha hb
  go_enter Try.func12, Try.ntmps12
  go_upto_region 1 with (fail)
  rw [HW.out]
  have c0 := X1.out.box.c0; have c1 := X1.out.box.c1; have c2 := X1.out.box.c2; have c3 := X1.out.box.c3; have c4 := X1.out.c4
  have d0 := X2.out.box.c0; have d1 := X2.out.box.c1; have d2 := X2.out.box.c2; have d3 := X2.out.box.c3; have d4 := X2.out.c4
  have e0 := X3.out.box.c0; have e1 := X3.out.box.c1; have e2 := X3.out.box.c2; have e3 := X3.out.box.c3; have e4 := X3.out.c4
  go_wp2_with fail
  refine (M1.out _ KO.out).mono ?_; rintro e w2 ⟨rfl, b2⟩
  clear c0 c1 c2 c3 c4 d0 d1 d2 d3 d4 e0 e1 e2 e3 e4
  replace X2 := Lib.hid (X2.out.below b2); replace X3 := Lib.hid (X3.out.below b2); replace X4 := Lib.hid (X4.out.below b2); replace KA := Lib.hid (KA.out.below b2); replace KB := Lib.hid (KB.out.below b2); replace B1 := Lib.hid (below_size B1.out b2)
  clear b2 M1
  generalize o.may = mo at *
  cases mo with
  | false =>
    clear hm
    have c0 := X4.out.box.c0; have c1 := X4.out.box.c1; have c2 := X4.out.box.c2; have c3 := X4.out.box.c3; have c4 := X4.out.c4; have f0 := X4.out.box.f0; have f1 := X4.out.box.f1; have f2 := X4.out.box.f2; have f3 := X4.out.box.f3; have f4 := X4.out.f4
    go_wp2_with fail
    refine bodyPost_ret (results_tree3r rfl _ _ _ rfl (X4.out.set 0 0 0 0 Option.none 0 0)) rfl ⟨rfl, ?_⟩
    exact ((((B1.out.setCell (by simp <;> omega) _).setCell (by simp <;> omega) _).setCell (by simp <;> omega) _).setCell (by simp <;> omega) _).setCell (by simp <;> omega) _
  | true =>
    have d0 := X2.out.box.c0; have d1 := X2.out.box.c1; have d2 := X2.out.box.c2; have d3 := X2.out.box.c3; have d4 := X2.out.c4
    have e0 := X3.out.box.c0; have e1 := X3.out.box.c1; have e2 := X3.out.box.c2; have e3 := X3.out.box.c3; have e4 := X3.out.c4
    go_wp2_with fail
    refine (M2.out _ KA.out).mono ?_; rintro e w3 ⟨rfl, b2⟩
    clear d0 d1 d2 d3 d4 e0 e1 e2 e3 e4
    replace X3 := Lib.hid (X3.out.below b2); replace X4 := Lib.hid (X4.out.below b2); replace KB := Lib.hid (KB.out.below b2); replace B1 := Lib.hid (below_size B1.out b2)
    clear b2 M2
    generalize a.may = ma at *
    cases ma with
    | false =>
      clear hm
      have c0 := X4.out.box.c0; have c1 := X4.out.box.c1; have c2 := X4.out.box.c2; have c3 := X4.out.box.c3; have c4 := X4.out.c4; have f0 := X4.out.box.f0; have f1 := X4.out.box.f1; have f2 := X4.out.box.f2; have f3 := X4.out.box.f3; have f4 := X4.out.f4
      go_wp2_with fail
      refine bodyPost_ret (results_tree3r rfl _ _ _ rfl (X4.out.set 0 0 0 0 Option.none 0 0)) rfl ⟨rfl, ?_⟩
      exact ((((B1.out.setCell (by simp <;> omega) _).setCell (by simp <;> omega) _).setCell (by simp <;> omega) _).setCell (by simp <;> omega) _).setCell (by simp <;> omega) _
    | true =>
      have HBM := Lib.hid (show b.may = false by simpa using hm)
      clear hm
      have e0 := X3.out.box.c0; have e1 := X3.out.box.c1; have e2 := X3.out.box.c2; have e3 := X3.out.box.c3; have e4 := X3.out.c4
      go_wp2_with fail
      refine (M3.out _ KB.out).mono ?_; rintro e w4 ⟨rfl, b2⟩
      rw [HBM.out]
      clear e0 e1 e2 e3 e4
      replace X4 := Lib.hid (X4.out.below b2); replace B1 := Lib.hid (below_size B1.out b2)
      clear b2
      have c0 := X4.out.box.c0; have c1 := X4.out.box.c1; have c2 := X4.out.box.c2; have c3 := X4.out.box.c3; have c4 := X4.out.c4; have f0 := X4.out.box.f0; have f1 := X4.out.box.f1; have f2 := X4.out.box.f2; have f3 := X4.out.box.f3; have f4 := X4.out.f4
      go_wp2_with fail
      refine bodyPost_ret (results_tree3r rfl _ _ _ rfl (X4.out.set 0 0 0 0 Option.none 0 0)) rfl ⟨rfl, ?_⟩
      exact ((((B1.out.setCell (by simp <;> omega) _).setCell (by simp <;> omega) _).setCell (by simp <;> omega) _).setCell (by simp <;> omega) _).setCell (by simp <;> omega) _

set_option maxRecDepth 100000 in
set_option maxHeartbeats 2000000 in
theorem rmerge_shape (o a b : TV) (w : World) (ho : TOk w o) (ha : TOk w a) (hb : TOk w b) (hm : (o.may && a.may && b.may) = true) (hs : ¬ (o.alike a ∧ o.alike b)) :
    Calls Try.prog 12 #[o.val, a.val, b.val] w fun e w' => e = .returned (.tuple #[ras 0 0 0 0 Option.none 0 0, .slice Option.none 0 0, .int .i64 13]) ∧ Below w.heap.size w w' := by
  simp only [Bool.and_eq_true] at hm
  obtain ⟨w1, hw1, x1, x2, x3, x4, b1, s1⟩ := four_boxes w o a b 30
  have X1 := Lib.hid x1; have X2 := Lib.hid x2; have X3 := Lib.hid x3; have X4 := Lib.hid x4; have B1 := Lib.hid b1; have HW := Lib.hid hw1
  have KO := Lib.hid (ho.below b1); have KA := Lib.hid (ha.below b1); have KB := Lib.hid (hb.below b1)
  have M1 := Lib.hid (fun w' (h : TOk w' o) => by have := rmayV h; rw [hm.1.1] at this; exact this)
  have M2 := Lib.hid (fun w' (h : TOk w' a) => by have := rmayV h; rw [hm.1.2] at this; exact this)
  have M3 := Lib.hid (fun w' (h : TOk w' b) => by have := rmayV h; rw [hm.2] at this; exact this)
  have S1 := Lib.hid (fun w' => shapeV o a w'); have S2 := Lib.hid (fun w' => shapeV a b w')
  have HS := Lib.hid hs
  clear hw1 x1 x2 x3 x4 b1 s1 ho ha hb hm hs
  go_enter Try.func12, Try.ntmps12
  go_upto_region 1 with (fail)
  rw [HW.out]
  have c0 := X1.out.box.c0; have c1 := X1.out.box.c1; have c2 := X1.out.box.c2; have c3 := X1.out.box.c3; have c4 := X1.out.c4
  have d0 := X2.out.box.c0; have d1 := X2.out.box.c1; have d2 := X2.out.box.c2; have d3 := X2.out.box.c3; have d4 := X2.out.c4
  have e0 := X3.out.box.c0; have e1 := X3.out.box.c1; have e2 := X3.out.box.c2; have e3 := X3.out.box.c3; have e4 := X3.out.c4
  go_wp2_with fail
  refine (M1.out _ KO.out).mono ?_; rintro e w2 ⟨rfl, b2⟩
  clear c0 c1 c2 c3 c4 d0 d1 d2 d3 d4 e0 e1 e2 e3 e4
  replace X1 := Lib.hid (X1.out.below b2); replace X2 := Lib.hid (X2.out.below b2); replace X3 := Lib.hid (X3.out.below b2); replace X4 := Lib.hid (X4.out.below b2); replace KA := Lib.hid (KA.out.below b2); replace KB := Lib.hid (KB.out.below b2); replace B1 := Lib.hid (below_size B1.out b2)
  clear b2 M1
  have d0 := X2.out.box.c0; have d1 := X2.out.box.c1; have d2 := X2.out.box.c2; have d3 := X2.out.box.c3; have d4 := X2.out.c4
  have e0 := X3.out.box.c0; have e1 := X3.out.box.c1; have e2 := X3.out.box.c2; have e3 := X3.out.box.c3; have e4 := X3.out.c4
  go_wp2_with fail
  refine (M2.out _ KA.out).mono ?_; rintro e w3 ⟨rfl, b2⟩
  clear d0 d1 d2 d3 d4 e0 e1 e2 e3 e4
  replace X1 := Lib.hid (X1.out.below b2); replace X2 := Lib.hid (X2.out.below b2); replace X3 := Lib.hid (X3.out.below b2); replace X4 := Lib.hid (X4.out.below b2); replace KB := Lib.hid (KB.out.below b2); replace B1 := Lib.hid (below_size B1.out b2)
  clear b2 M2
  have e0 := X3.out.box.c0; have e1 := X3.out.box.c1; have e2 := X3.out.box.c2; have e3 := X3.out.box.c3; have e4 := X3.out.c4
  go_wp2_with fail
  refine (M3.out _ KB.out).mono ?_; rintro e w4 ⟨rfl, b2⟩
  clear e0 e1 e2 e3 e4
  replace X1 := Lib.hid (X1.out.below b2); replace X2 := Lib.hid (X2.out.below b2); replace X3 := Lib.hid (X3.out.below b2); replace X4 := Lib.hid (X4.out.below b2); replace B1 := Lib.hid (below_size B1.out b2)
  clear b2 M3
  have c0 := X1.out.box.c0; have c1 := X1.out.box.c1; have c2 := X1.out.box.c2; have c3 := X1.out.box.c3; have c4 := X1.out.c4
  have d0 := X2.out.box.c0; have d1 := X2.out.box.c1; have d2 := X2.out.box.c2; have d3 := X2.out.box.c3; have d4 := X2.out.c4
  go_wp2_with fail
  refine (S1.out _).mono ?_; rintro e w5 ⟨rfl, b2⟩
  clear c0 c1 c2 c3 c4 d0 d1 d2 d3 d4
  replace X2 := Lib.hid (X2.out.below b2); replace X3 := Lib.hid (X3.out.below b2); replace X4 := Lib.hid (X4.out.below b2); replace B1 := Lib.hid (below_size B1.out b2)
  clear b2 S1
  by_cases hk : o.alike a
  · rw [decide_eq_true hk]
    have HK2 := Lib.hid (show ¬ a.alike b from fun h => HS.out ⟨hk, hk.1.trans h.1, hk.2.1.trans h.2.1, hk.2.2.1.trans h.2.2.1, hk.2.2.2.trans h.2.2.2⟩)
    clear hk
    have d0 := X2.out.box.c0; have d1 := X2.out.box.c1; have d2 := X2.out.box.c2; have d3 := X2.out.box.c3; have d4 := X2.out.c4
    have e0 := X3.out.box.c0; have e1 := X3.out.box.c1; have e2 := X3.out.box.c2; have e3 := X3.out.box.c3; have e4 := X3.out.c4
    go_wp2_with fail
    refine (S2.out _).mono ?_; rintro e w6 ⟨rfl, b2⟩
    rw [decide_eq_false HK2.out]
    clear d0 d1 d2 d3 d4 e0 e1 e2 e3 e4
    replace X4 := Lib.hid (X4.out.below b2); replace B1 := Lib.hid (below_size B1.out b2)
    clear b2
    have c0 := X4.out.box.c0; have c1 := X4.out.box.c1; have c2 := X4.out.box.c2; have c3 := X4.out.box.c3; have c4 := X4.out.c4; have f0 := X4.out.box.f0; have f1 := X4.out.box.f1; have f2 := X4.out.box.f2; have f3 := X4.out.box.f3; have f4 := X4.out.f4
    go_wp2_with fail
    refine bodyPost_ret (results_tree3r rfl _ _ _ rfl (X4.out.set 0 0 0 0 Option.none 0 0)) rfl ⟨rfl, ?_⟩
    exact ((((B1.out.setCell (by simp <;> omega) _).setCell (by simp <;> omega) _).setCell (by simp <;> omega) _).setCell (by simp <;> omega) _).setCell (by simp <;> omega) _
  · rw [decide_eq_false hk]
    clear hk
    have c0 := X4.out.box.c0; have c1 := X4.out.box.c1; have c2 := X4.out.box.c2; have c3 := X4.out.box.c3; have c4 := X4.out.c4; have f0 := X4.out.box.f0; have f1 := X4.out.box.f1; have f2 := X4.out.box.f2; have f3 := X4.out.box.f3; have f4 := X4.out.f4
    go_wp2_with fail
    refine bodyPost_ret (results_tree3r rfl _ _ _ rfl (X4.out.set 0 0 0 0 Option.none 0 0)) rfl ⟨rfl, ?_⟩
    exact ((((B1.out.setCell (by simp <;> omega) _).setCell (by simp <;> omega) _).setCell (by simp <;> omega) _).setCell (by simp <;> omega) _).setCell (by simp <;> omega) _
end Go.Proofs.Ytbmbelnjgnahhaa
