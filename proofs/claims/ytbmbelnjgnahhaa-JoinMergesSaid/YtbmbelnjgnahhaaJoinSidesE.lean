/-
  The walk of JoinSides: too great, not valid, not alike; then for every three trees.
-/
import Derived.Test.YtbmbelnjgnahhaaJoinSidesW
namespace Go.Proofs.Ytbmbelnjgnahhaa
open Go.RowKit

/-- The three arguments, where they lie: nothing of their form. -/
structure Args3S (w : World) (g : Nat) (o a b : TV) : Prop where
  bo : TBox w g o
  ba : TBox w (g + 1) a
  bb : TBox w (g + 1 + 1) b
  so : Strs w o.a o.n o.cap o.ks
  sa : Strs w a.a a.n a.cap a.ks
  sb : Strs w b.a b.n b.cap b.ks
theorem Args3S.below {w w' : World} {g : Nat} {o a b : TV} (h : Args3S w g o a b) (hb : Below w.heap.size w w') : Args3S w' g o a b :=
  ⟨h.bo.below hb, h.ba.below hb, h.bb.below hb, h.so.below hb, h.sa.below hb, h.sb.below hb⟩

set_option maxRecDepth 100000 in
set_option maxHeartbeats 2000000 in
theorem sides_few (o a b : TV) (w : World) (ho : Strs w o.a o.n o.cap o.ks) (ha : Strs w a.a a.n a.cap a.ks) (hb : Strs w b.a b.n b.cap b.ks) (hs : ¬ (Short o.ks ∧ Short a.ks ∧ Short b.ks)) :
    Calls Try.prog 4 #[o.val, a.val, b.val] w fun e w' => e = .returned (.bool true) ∧ Below w.heap.size w w' := by
  obtain ⟨w1, hw1, x1, x2, x3, b1, s1⟩ := three_boxes w o a b 26
  have AR := Lib.hid (Args3S.mk x1 x2 x3 (ho.below b1) (ha.below b1) (hb.below b1))
  have HW1 := Lib.hid hw1; have B1 := Lib.hid b1
  have HS := Lib.hid hs
  clear hw1 x1 x2 x3 b1 s1 ho ha hb hs
  go_enter Try.func4, Try.ntmps4
  go_upto_region 1 with (fail)
  rw [HW1.out]
  go_wp2_with fail
  refine (first_any _).mono ?_; rintro e w2 ⟨rfl, b2⟩
  replace AR := Lib.hid (AR.out.below b2); replace B1 := Lib.hid (below_size B1.out b2)
  clear b2
  have c0 := AR.out.bo.box.c0; have c1 := AR.out.bo.box.c1; have c2 := AR.out.bo.box.c2; have c3 := AR.out.bo.box.c3; have c4 := AR.out.bo.c4
  have d0 := AR.out.ba.box.c0; have d1 := AR.out.ba.box.c1; have d2 := AR.out.ba.box.c2; have d3 := AR.out.ba.box.c3; have d4 := AR.out.ba.c4
  have e0 := AR.out.bb.box.c0; have e1 := AR.out.bb.box.c1; have e2 := AR.out.bb.box.c2; have e3 := AR.out.bb.box.c3; have e4 := AR.out.bb.c4
  go_wp2_with fail
  refine (fewTree_any _ _ _ _ _ _ _ _ _ AR.out.so).mono ?_; rintro e w2 ⟨rfl, b2⟩
  clear c0 c1 c2 c3 c4 d0 d1 d2 d3 d4 e0 e1 e2 e3 e4
  replace AR := Lib.hid (AR.out.below b2); replace B1 := Lib.hid (below_size B1.out b2)
  clear b2
  by_cases h1 : Short o.ks
  case neg =>
    rw [decide_eq_false h1]
    clear h1
    have c0 := AR.out.bo.box.c0; have c1 := AR.out.bo.box.c1; have c2 := AR.out.bo.box.c2; have c3 := AR.out.bo.box.c3; have c4 := AR.out.bo.c4
    have d0 := AR.out.ba.box.c0; have d1 := AR.out.ba.box.c1; have d2 := AR.out.ba.box.c2; have d3 := AR.out.ba.box.c3; have d4 := AR.out.ba.c4
    have e0 := AR.out.bb.box.c0; have e1 := AR.out.bb.box.c1; have e2 := AR.out.bb.box.c2; have e3 := AR.out.bb.box.c3; have e4 := AR.out.bb.c4
    go_wp2_with fail
    refine (first_any _).mono ?_; rintro e w3 ⟨rfl, b3⟩
    clear c0 c1 c2 c3 c4 d0 d1 d2 d3 d4 e0 e1 e2 e3 e4
    go_wp2_with fail
    go_returns
    exact ⟨rfl, below_size B1.out b3⟩
  rw [decide_eq_true h1]
  have H1 := Lib.hid h1
  clear h1
  have c0 := AR.out.bo.box.c0; have c1 := AR.out.bo.box.c1; have c2 := AR.out.bo.box.c2; have c3 := AR.out.bo.box.c3; have c4 := AR.out.bo.c4
  have d0 := AR.out.ba.box.c0; have d1 := AR.out.ba.box.c1; have d2 := AR.out.ba.box.c2; have d3 := AR.out.ba.box.c3; have d4 := AR.out.ba.c4
  have e0 := AR.out.bb.box.c0; have e1 := AR.out.bb.box.c1; have e2 := AR.out.bb.box.c2; have e3 := AR.out.bb.box.c3; have e4 := AR.out.bb.c4
  go_wp2_with fail
  refine (fewTree_any _ _ _ _ _ _ _ _ _ AR.out.sa).mono ?_; rintro e w2 ⟨rfl, b2⟩
  clear c0 c1 c2 c3 c4 d0 d1 d2 d3 d4 e0 e1 e2 e3 e4
  replace AR := Lib.hid (AR.out.below b2); replace B1 := Lib.hid (below_size B1.out b2)
  clear b2
  by_cases h1 : Short a.ks
  case neg =>
    rw [decide_eq_false h1]
    clear h1
    have c0 := AR.out.bo.box.c0; have c1 := AR.out.bo.box.c1; have c2 := AR.out.bo.box.c2; have c3 := AR.out.bo.box.c3; have c4 := AR.out.bo.c4
    have d0 := AR.out.ba.box.c0; have d1 := AR.out.ba.box.c1; have d2 := AR.out.ba.box.c2; have d3 := AR.out.ba.box.c3; have d4 := AR.out.ba.c4
    have e0 := AR.out.bb.box.c0; have e1 := AR.out.bb.box.c1; have e2 := AR.out.bb.box.c2; have e3 := AR.out.bb.box.c3; have e4 := AR.out.bb.c4
    go_wp2_with fail
    refine (first_any _).mono ?_; rintro e w3 ⟨rfl, b3⟩
    clear c0 c1 c2 c3 c4 d0 d1 d2 d3 d4 e0 e1 e2 e3 e4
    go_wp2_with fail
    go_returns
    exact ⟨rfl, below_size B1.out b3⟩
  rw [decide_eq_true h1]
  have H2 := Lib.hid h1
  clear h1
  have c0 := AR.out.bo.box.c0; have c1 := AR.out.bo.box.c1; have c2 := AR.out.bo.box.c2; have c3 := AR.out.bo.box.c3; have c4 := AR.out.bo.c4
  have d0 := AR.out.ba.box.c0; have d1 := AR.out.ba.box.c1; have d2 := AR.out.ba.box.c2; have d3 := AR.out.ba.box.c3; have d4 := AR.out.ba.c4
  have e0 := AR.out.bb.box.c0; have e1 := AR.out.bb.box.c1; have e2 := AR.out.bb.box.c2; have e3 := AR.out.bb.box.c3; have e4 := AR.out.bb.c4
  go_wp2_with fail
  refine (fewTree_any _ _ _ _ _ _ _ _ _ AR.out.sb).mono ?_; rintro e w2 ⟨rfl, b2⟩
  clear c0 c1 c2 c3 c4 d0 d1 d2 d3 d4 e0 e1 e2 e3 e4
  replace AR := Lib.hid (AR.out.below b2); replace B1 := Lib.hid (below_size B1.out b2)
  clear b2
  rw [decide_eq_false (fun h => HS.out ⟨H1.out, H2.out, h⟩)]
  go_wp2_with fail
  refine (first_any _).mono ?_; rintro e w3 ⟨rfl, b3⟩
  go_wp2_with fail
  go_returns
  exact ⟨rfl, below_size B1.out b3⟩

set_option maxRecDepth 100000 in
set_option maxHeartbeats 2000000 in
theorem sides_err (o a b : TV) (er : Int) (he : ¬ er = 0) (w : World) (ho : TOk w o) (ha : TOk w a) (hb : TOk w b)
    (m1 : ∀ w', TOk w' o → TOk w' a → TOk w' b → Calls Try.prog 11 #[o.val, a.val, b.val] w' fun e w'' => e = .returned (.tuple #[ras 0 0 0 0 Option.none 0 0, .slice Option.none 0 0, .int .i64 er]) ∧ Below w'.heap.size w' w'')
    (m2 : ∀ w', TOk w' o → TOk w' a → TOk w' b → Calls Try.prog 11 #[o.val, b.val, a.val] w' fun e w'' => e = .returned (.tuple #[ras 0 0 0 0 Option.none 0 0, .slice Option.none 0 0, .int .i64 er]) ∧ Below w'.heap.size w' w'') :
    Calls Try.prog 4 #[o.val, a.val, b.val] w fun e w' => e = .returned (.bool true) ∧ Below w.heap.size w w' := by
  obtain ⟨w1, hw1, x1, x2, x3, b1, s1⟩ := three_boxes w o a b 26
  have AR := Lib.hid (Args3.mk x1 x2 x3 (ho.below b1) (ha.below b1) (hb.below b1))
  have SO := Lib.hid (decide_eq_true ho.short); have SA := Lib.hid (decide_eq_true ha.short); have SB := Lib.hid (decide_eq_true hb.short)
  have HW1 := Lib.hid hw1; have B1 := Lib.hid b1; have M1 := Lib.hid m1; have M2 := Lib.hid m2
  have BN := Lib.hid (fun w' => bools_any Option.none Option.none 0 0 0 0 [] [] w' (ReadsA.none _ _ _) (ReadsA.none _ _ _))
  clear hw1 x1 x2 x3 b1 s1 ho ha hb m1 m2
  go_enter Try.func4, Try.ntmps4
  go_upto_region 1 with (fail)
  rw [HW1.out]
  go_wp2_with fail
  refine (first_any _).mono ?_; rintro e w2 ⟨rfl, b2⟩
  replace AR := Lib.hid (AR.out.below b2); replace B1 := Lib.hid (below_size B1.out b2)
  clear b2
  have c0 := AR.out.bo.box.c0; have c1 := AR.out.bo.box.c1; have c2 := AR.out.bo.box.c2; have c3 := AR.out.bo.box.c3; have c4 := AR.out.bo.c4
  have d0 := AR.out.ba.box.c0; have d1 := AR.out.ba.box.c1; have d2 := AR.out.ba.box.c2; have d3 := AR.out.ba.box.c3; have d4 := AR.out.ba.c4
  have e0 := AR.out.bb.box.c0; have e1 := AR.out.bb.box.c1; have e2 := AR.out.bb.box.c2; have e3 := AR.out.bb.box.c3; have e4 := AR.out.bb.c4
  go_wp2_with fail
  refine (fewTree_any _ _ _ _ _ _ _ _ _ AR.out.ko.strs).mono ?_; rintro e w2 ⟨rfl, b2⟩
  rw [SO.out]
  clear c0 c1 c2 c3 c4 d0 d1 d2 d3 d4 e0 e1 e2 e3 e4
  replace AR := Lib.hid (AR.out.below b2); replace B1 := Lib.hid (below_size B1.out b2)
  clear b2
  have c0 := AR.out.bo.box.c0; have c1 := AR.out.bo.box.c1; have c2 := AR.out.bo.box.c2; have c3 := AR.out.bo.box.c3; have c4 := AR.out.bo.c4
  have d0 := AR.out.ba.box.c0; have d1 := AR.out.ba.box.c1; have d2 := AR.out.ba.box.c2; have d3 := AR.out.ba.box.c3; have d4 := AR.out.ba.c4
  have e0 := AR.out.bb.box.c0; have e1 := AR.out.bb.box.c1; have e2 := AR.out.bb.box.c2; have e3 := AR.out.bb.box.c3; have e4 := AR.out.bb.c4
  go_wp2_with fail
  refine (fewTree_any _ _ _ _ _ _ _ _ _ AR.out.ka.strs).mono ?_; rintro e w2 ⟨rfl, b2⟩
  rw [SA.out]
  clear c0 c1 c2 c3 c4 d0 d1 d2 d3 d4 e0 e1 e2 e3 e4
  replace AR := Lib.hid (AR.out.below b2); replace B1 := Lib.hid (below_size B1.out b2)
  clear b2
  have c0 := AR.out.bo.box.c0; have c1 := AR.out.bo.box.c1; have c2 := AR.out.bo.box.c2; have c3 := AR.out.bo.box.c3; have c4 := AR.out.bo.c4
  have d0 := AR.out.ba.box.c0; have d1 := AR.out.ba.box.c1; have d2 := AR.out.ba.box.c2; have d3 := AR.out.ba.box.c3; have d4 := AR.out.ba.c4
  have e0 := AR.out.bb.box.c0; have e1 := AR.out.bb.box.c1; have e2 := AR.out.bb.box.c2; have e3 := AR.out.bb.box.c3; have e4 := AR.out.bb.c4
  go_wp2_with fail
  refine (fewTree_any _ _ _ _ _ _ _ _ _ AR.out.kb.strs).mono ?_; rintro e w2 ⟨rfl, b2⟩
  rw [SB.out]
  clear c0 c1 c2 c3 c4 d0 d1 d2 d3 d4 e0 e1 e2 e3 e4
  replace AR := Lib.hid (AR.out.below b2); replace B1 := Lib.hid (below_size B1.out b2)
  clear b2
  have c0 := AR.out.bo.box.c0; have c1 := AR.out.bo.box.c1; have c2 := AR.out.bo.box.c2; have c3 := AR.out.bo.box.c3; have c4 := AR.out.bo.c4
  have d0 := AR.out.ba.box.c0; have d1 := AR.out.ba.box.c1; have d2 := AR.out.ba.box.c2; have d3 := AR.out.ba.box.c3; have d4 := AR.out.ba.c4
  have e0 := AR.out.bb.box.c0; have e1 := AR.out.bb.box.c1; have e2 := AR.out.bb.box.c2; have e3 := AR.out.bb.box.c3; have e4 := AR.out.bb.c4
  go_wp2_with fail
  refine (M1.out _ AR.out.ko AR.out.ka AR.out.kb).mono ?_; rintro e w2 ⟨rfl, b2⟩
  clear c0 c1 c2 c3 c4 d0 d1 d2 d3 d4 e0 e1 e2 e3 e4
  replace AR := Lib.hid (AR.out.below b2); replace B1 := Lib.hid (below_size B1.out b2)
  clear b2
  go_upto_region 6 with (fail)
  obtain ⟨w3, hw3, xt, b3⟩ := var_tree w2 0 0 0 0 Option.none 0 0
  rw [hw3]
  replace AR := Lib.hid (AR.out.below b3); replace B1 := Lib.hid (below_size B1.out b3)
  have TT := Lib.hid xt
  clear hw3 xt b3
  generalize w2.heap.size = g7 at *
  have c0 := AR.out.bo.box.c0; have c1 := AR.out.bo.box.c1; have c2 := AR.out.bo.box.c2; have c3 := AR.out.bo.box.c3; have c4 := AR.out.bo.c4
  have d0 := AR.out.ba.box.c0; have d1 := AR.out.ba.box.c1; have d2 := AR.out.ba.box.c2; have d3 := AR.out.ba.box.c3; have d4 := AR.out.ba.c4
  have e0 := AR.out.bb.box.c0; have e1 := AR.out.bb.box.c1; have e2 := AR.out.bb.box.c2; have e3 := AR.out.bb.box.c3; have e4 := AR.out.bb.c4
  go_wp2_with fail
  refine (M2.out _ AR.out.ko AR.out.ka AR.out.kb).mono ?_; rintro e w4 ⟨rfl, b2⟩
  clear c0 c1 c2 c3 c4 d0 d1 d2 d3 d4 e0 e1 e2 e3 e4
  replace B1 := Lib.hid (below_size B1.out b2); replace TT := Lib.hid (TT.out.below b2)
  clear b2 AR
  go_upto_region 7 with (fail)
  obtain ⟨w5, hw5, xt, b3⟩ := var_tree w4 0 0 0 0 Option.none 0 0
  rw [hw5]
  replace B1 := Lib.hid (below_size B1.out b3); replace TT := Lib.hid (TT.out.below b3)
  clear hw5 xt b3
  generalize w4.heap.size = g10 at *
  go_wp2_with fail
  refine (BN.out _).mono ?_; rintro e w6 ⟨rfl, b2⟩
  replace B1 := Lib.hid (below_size B1.out b2); replace TT := Lib.hid (TT.out.below b2)
  clear b2
  have hne : (er == 0) = false := beq_eq_false_iff_ne.2 he
  have c0 := TT.out.box.c0; have c1 := TT.out.box.c1; have c2 := TT.out.box.c2; have c3 := TT.out.box.c3; have c4 := TT.out.c4
  go_wp2_with fail
  refine (first_any _).mono ?_; rintro e w7 ⟨rfl, b2⟩
  clear c0 c1 c2 c3 c4
  replace B1 := Lib.hid (below_size B1.out b2); replace TT := Lib.hid (TT.out.below b2)
  have c0 := TT.out.box.c0; have c1 := TT.out.box.c1; have c2 := TT.out.box.c2; have c3 := TT.out.box.c3; have c4 := TT.out.c4
  go_wp2_with fail
  go_returns
  exact ⟨rfl, B1.out⟩

theorem grid_pos {W H C D : Int} (h : mayN W H C D = true) : 1 ≤ (W + 7) / 8 * ((H + 7) / 8) := by
  unfold mayN Bnds at h
  have h := of_decide_eq_true h
  have h1 : 1 ≤ (W + 7) / 8 := by omega
  have h2 : 1 ≤ (H + 7) / 8 := by omega
  calc (1 : Int) = 1 * 1 := rfl
    _ ≤ (W + 7) / 8 * ((H + 7) / 8) := Int.mul_le_mul h1 h2 (by decide) (by omega)
/-- For every three trees. -/
theorem walk_JoinSides (Wo Ho Co Do : Int) (ao : Option Addr) (no co : Nat) (ko : List ByteArray) (Wa Ha Ca Da : Int) (aa : Option Addr) (na ca : Nat) (ka : List ByteArray) (Wb Hb Cb Db : Int) (ab : Option Addr) (nb cb : Nat) (kb : List ByteArray) (w : World)
    (i1 : i64In Wo) (i2 : i64In Ho) (i3 : i64In Co) (i4 : i64In Do) (ho : Strs w ao no co ko) (j1 : i64In Wa) (j2 : i64In Ha) (j3 : i64In Ca) (j4 : i64In Da) (ha : Strs w aa na ca ka) (l1 : i64In Wb) (l2 : i64In Hb) (l3 : i64In Cb) (l4 : i64In Db) (hb : Strs w ab nb cb kb) :
    Calls Try.prog 4 #[ras Wo Ho Co Do ao no co, ras Wa Ha Ca Da aa na ca, ras Wb Hb Cb Db ab nb cb] w fun e w' => e = .returned (.bool true) ∧ Below w.heap.size w w' := by
  by_cases hs : Short ko ∧ Short ka ∧ Short kb
  case neg => exact sides_few ⟨Wo, Ho, Co, Do, ao, no, co, ko⟩ ⟨Wa, Ha, Ca, Da, aa, na, ca, ka⟩ ⟨Wb, Hb, Cb, Db, ab, nb, cb, kb⟩ w ho ha hb hs
  have tko : TOk w ⟨Wo, Ho, Co, Do, ao, no, co, ko⟩ := ⟨i1, i2, i3, i4, ho, hs.1⟩
  have ta : TOk w ⟨Wa, Ha, Ca, Da, aa, na, ca, ka⟩ := ⟨j1, j2, j3, j4, ha, hs.2.1⟩
  have tb : TOk w ⟨Wb, Hb, Cb, Db, ab, nb, cb, kb⟩ := ⟨l1, l2, l3, l4, hb, hs.2.2⟩
  by_cases hm : [(⟨Wo, Ho, Co, Do, ao, no, co, ko⟩ : TV), ⟨Wa, Ha, Ca, Da, aa, na, ca, ka⟩, ⟨Wb, Hb, Cb, Db, ab, nb, cb, kb⟩].all TV.may = true
  case neg =>
    have hm1 := Bool.eq_false_iff.2 hm
    refine sides_err ⟨Wo, Ho, Co, Do, ao, no, co, ko⟩ ⟨Wa, Ha, Ca, Da, aa, na, ca, ka⟩ ⟨Wb, Hb, Cb, Db, ab, nb, cb, kb⟩ 4 (by decide) w tko ta tb (fun w' h1 h2 h3 => merge_form _ _ _ w' h1 h2 h3 hm1) (fun w' h1 h2 h3 => merge_form _ _ _ w' h1 h3 h2 ?_)
    rw [← hm1]; simp only [List.all_cons, List.all_nil, Bool.and_true]; rw [Bool.and_comm (TV.may ⟨Wb, Hb, Cb, Db, ab, nb, cb, kb⟩)]
  have hm1 := hm
  simp only [List.all_cons, List.all_nil, Bool.and_true, Bool.and_eq_true] at hm1
  obtain ⟨m1, m2, m3⟩ := hm1
  by_cases hk : TV.alike ⟨Wo, Ho, Co, Do, ao, no, co, ko⟩ ⟨Wa, Ha, Ca, Da, aa, na, ca, ka⟩ ∧ TV.alike ⟨Wo, Ho, Co, Do, ao, no, co, ko⟩ ⟨Wb, Hb, Cb, Db, ab, nb, cb, kb⟩
  case neg =>
    exact sides_err ⟨Wo, Ho, Co, Do, ao, no, co, ko⟩ ⟨Wa, Ha, Ca, Da, aa, na, ca, ka⟩ ⟨Wb, Hb, Cb, Db, ab, nb, cb, kb⟩ 13 (by decide) w tko ta tb (fun w' h1 h2 h3 => merge_shape _ _ _ w' h1 h2 h3 hm hk)
      (fun w' h1 h2 h3 => merge_shape _ _ _ w' h1 h3 h2 (by simp only [List.all_cons, List.all_nil, Bool.and_true, Bool.and_eq_true]; exact ⟨m1, m3, m2⟩) (fun h => hk ⟨h.2, h.1⟩))
  unfold TV.alike at hk
  simp only at hk
  obtain ⟨⟨rfl, rfl, rfl, rfl⟩, rfl, rfl, rfl, rfl⟩ := hk
  have g1 := mayT_keys m1; have g2 := mayT_keys m2; have g3 := mayT_keys m3
  simp only at g1 g2 g3
  have q1 := ho.len; have q2 := ha.len; have q3 := hb.len
  obtain rfl : na = no := by omega
  obtain rfl : nb = na := by omega
  have hn : 0 < nb := by
    have := grid_pos g1.1
    omega
  obtain ⟨po, xo, rfl, _⟩ := ho.cells hn
  obtain ⟨pa, xa, rfl, _⟩ := ha.cells hn
  obtain ⟨pb, xb, rfl, _⟩ := hb.cells hn
  exact sides_ok _ _ _ _ _ _ _ _ _ _ _ _ _ _ _ _ _ w tko ta tb m1 m2 m3 hn
end Go.Proofs.Ytbmbelnjgnahhaa
