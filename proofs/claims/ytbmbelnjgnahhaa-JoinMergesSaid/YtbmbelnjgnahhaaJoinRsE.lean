/-
  The walk of JoinResolves: too great, not valid, not alike; then for every input.
-/
import Derived.Test.YtbmbelnjgnahhaaJoinRsW
namespace Go.Proofs.Ytbmbelnjgnahhaa
open Go.RowKit

set_option maxRecDepth 100000 in
set_option maxHeartbeats 2000000 in
theorem resolves_few (o a : TV) (am : Option Addr) (nm cm : Nat) (ms : List Bool) (w : World) (ho : Strs w o.a o.n o.cap o.ks) (ha : Strs w a.a a.n a.cap a.ks) (hms : Bls w am nm cm ms) (hs : ¬ (Short o.ks ∧ Short a.ks ∧ nm ≤ 400)) :
    Calls Try.prog 5 #[o.val, a.val, .slice am nm cm] w fun e w' => e = .returned (.bool true) ∧ Below w.heap.size w w' := by
  obtain ⟨w1, hw1, x1, x2, b1⟩ := two_boxes w o a 26
  have AR := Lib.hid (ArgsR.mk x1 x2 (ho.below b1) (ha.below b1) (hms.below b1))
  have HW1 := Lib.hid hw1; have B1 := Lib.hid b1
  have HS := Lib.hid hs
  clear hw1 x1 x2 b1 ho ha hms hs
  go_enter Try.func5, Try.ntmps5
  go_upto_region 1 with (fail)
  rw [HW1.out]
  go_wp2_with fail
  refine (first_any _).mono ?_; rintro e w2 ⟨rfl, b2⟩
  replace AR := Lib.hid (AR.out.below b2); replace B1 := Lib.hid (below_size B1.out b2)
  clear b2
  have c0 := AR.out.bo.box.c0; have c1 := AR.out.bo.box.c1; have c2 := AR.out.bo.box.c2; have c3 := AR.out.bo.box.c3; have c4 := AR.out.bo.c4
  have d0 := AR.out.ba.box.c0; have d1 := AR.out.ba.box.c1; have d2 := AR.out.ba.box.c2; have d3 := AR.out.ba.box.c3; have d4 := AR.out.ba.c4
  go_wp2_with fail
  refine (fewTree_any _ _ _ _ _ _ _ _ _ AR.out.so).mono ?_; rintro e w2 ⟨rfl, b2⟩
  clear c0 c1 c2 c3 c4 d0 d1 d2 d3 d4
  replace AR := Lib.hid (AR.out.below b2); replace B1 := Lib.hid (below_size B1.out b2)
  clear b2
  by_cases h1 : Short o.ks
  case neg =>
    rw [decide_eq_false h1]
    clear h1
    have c0 := AR.out.bo.box.c0; have c1 := AR.out.bo.box.c1; have c2 := AR.out.bo.box.c2; have c3 := AR.out.bo.box.c3; have c4 := AR.out.bo.c4
    have d0 := AR.out.ba.box.c0; have d1 := AR.out.ba.box.c1; have d2 := AR.out.ba.box.c2; have d3 := AR.out.ba.box.c3; have d4 := AR.out.ba.c4
    go_wp2_with fail
    refine (first_any _).mono ?_; rintro e w3 ⟨rfl, b3⟩
    clear c0 c1 c2 c3 c4 d0 d1 d2 d3 d4
    go_wp2_with fail
    go_returns
    exact ⟨rfl, below_size B1.out b3⟩
  rw [decide_eq_true h1]
  have H1 := Lib.hid h1
  clear h1
  have c0 := AR.out.bo.box.c0; have c1 := AR.out.bo.box.c1; have c2 := AR.out.bo.box.c2; have c3 := AR.out.bo.box.c3; have c4 := AR.out.bo.c4
  have d0 := AR.out.ba.box.c0; have d1 := AR.out.ba.box.c1; have d2 := AR.out.ba.box.c2; have d3 := AR.out.ba.box.c3; have d4 := AR.out.ba.c4
  go_wp2_with fail
  refine (fewTree_any _ _ _ _ _ _ _ _ _ AR.out.sa).mono ?_; rintro e w2 ⟨rfl, b2⟩
  clear c0 c1 c2 c3 c4 d0 d1 d2 d3 d4
  replace AR := Lib.hid (AR.out.below b2); replace B1 := Lib.hid (below_size B1.out b2)
  clear b2
  by_cases h1 : Short a.ks
  case neg =>
    rw [decide_eq_false h1]
    clear h1
    go_wp2_with fail
    refine (first_any _).mono ?_; rintro e w3 ⟨rfl, b3⟩
    go_wp2_with fail
    go_returns
    exact ⟨rfl, below_size B1.out b3⟩
  rw [decide_eq_true h1]
  have h400 : (400 : Int) < nm := by
    have h2 : ¬ nm ≤ 400 := fun h => HS.out ⟨H1.out, h1, h⟩
    omega
  clear h1
  go_wp2_with fail
  refine (first_any _).mono ?_; rintro e w3 ⟨rfl, b3⟩
  go_wp2_with fail
  go_returns
  exact ⟨rfl, below_size B1.out b3⟩

set_option maxRecDepth 100000 in
set_option maxHeartbeats 2000000 in
theorem resolves_err (o a : TV) (am : Option Addr) (nm cm : Nat) (ms : List Bool) (er : Int) (he : ¬ er = 0) (w : World) (ho : TOk w o) (ha : TOk w a) (hms : Bls w am nm cm ms) (hn : nm ≤ 400)
    (m1 : ∀ w', TOk w' o → TOk w' a → Calls Try.prog 14 #[o.val, .slice am nm cm, a.val] w' fun e w'' => e = .returned (.tuple #[ras 0 0 0 0 Option.none 0 0, .int .i64 er]) ∧ Below w'.heap.size w' w'') :
    Calls Try.prog 5 #[o.val, a.val, .slice am nm cm] w fun e w' => e = .returned (.bool true) ∧ Below w.heap.size w w' := by
  obtain ⟨w1, hw1, x1, x2, b1⟩ := two_boxes w o a 26
  have AR := Lib.hid (ArgsR.mk x1 x2 (ho.below b1).strs (ha.below b1).strs (hms.below b1))
  have KO := Lib.hid (fun (w' : World) (h : Strs w' o.a o.n o.cap o.ks) => (⟨ho.iW, ho.iH, ho.iC, ho.iD, h, ho.short⟩ : TOk w' o))
  have KA := Lib.hid (fun (w' : World) (h : Strs w' a.a a.n a.cap a.ks) => (⟨ha.iW, ha.iH, ha.iC, ha.iD, h, ha.short⟩ : TOk w' a))
  have SO := Lib.hid (decide_eq_true ho.short); have SA := Lib.hid (decide_eq_true ha.short)
  have HW1 := Lib.hid hw1; have B1 := Lib.hid b1; have M1 := Lib.hid m1
  clear hw1 x1 x2 b1 ho ha hms m1
  go_enter Try.func5, Try.ntmps5
  go_upto_region 1 with (fail)
  rw [HW1.out]
  go_wp2_with fail
  refine (first_any _).mono ?_; rintro e w2 ⟨rfl, b2⟩
  replace AR := Lib.hid (AR.out.below b2); replace B1 := Lib.hid (below_size B1.out b2)
  clear b2
  have c0 := AR.out.bo.box.c0; have c1 := AR.out.bo.box.c1; have c2 := AR.out.bo.box.c2; have c3 := AR.out.bo.box.c3; have c4 := AR.out.bo.c4
  have d0 := AR.out.ba.box.c0; have d1 := AR.out.ba.box.c1; have d2 := AR.out.ba.box.c2; have d3 := AR.out.ba.box.c3; have d4 := AR.out.ba.c4
  go_wp2_with fail
  refine (fewTree_any _ _ _ _ _ _ _ _ _ AR.out.so).mono ?_; rintro e w2 ⟨rfl, b2⟩
  rw [SO.out]
  clear c0 c1 c2 c3 c4 d0 d1 d2 d3 d4
  replace AR := Lib.hid (AR.out.below b2); replace B1 := Lib.hid (below_size B1.out b2)
  clear b2
  have c0 := AR.out.bo.box.c0; have c1 := AR.out.bo.box.c1; have c2 := AR.out.bo.box.c2; have c3 := AR.out.bo.box.c3; have c4 := AR.out.bo.c4
  have d0 := AR.out.ba.box.c0; have d1 := AR.out.ba.box.c1; have d2 := AR.out.ba.box.c2; have d3 := AR.out.ba.box.c3; have d4 := AR.out.ba.c4
  go_wp2_with fail
  refine (fewTree_any _ _ _ _ _ _ _ _ _ AR.out.sa).mono ?_; rintro e w2 ⟨rfl, b2⟩
  rw [SA.out]
  clear c0 c1 c2 c3 c4 d0 d1 d2 d3 d4
  replace AR := Lib.hid (AR.out.below b2); replace B1 := Lib.hid (below_size B1.out b2)
  clear b2
  have h400 : ¬ (400 : Int) < nm := by omega
  have c0 := AR.out.bo.box.c0; have c1 := AR.out.bo.box.c1; have c2 := AR.out.bo.box.c2; have c3 := AR.out.bo.box.c3; have c4 := AR.out.bo.c4
  have d0 := AR.out.ba.box.c0; have d1 := AR.out.ba.box.c1; have d2 := AR.out.ba.box.c2; have d3 := AR.out.ba.box.c3; have d4 := AR.out.ba.c4
  go_wp2_with fail
  refine (M1.out _ (KO.out _ AR.out.so) (KA.out _ AR.out.sa)).mono ?_; rintro e w2 ⟨rfl, b2⟩
  clear c0 c1 c2 c3 c4 d0 d1 d2 d3 d4
  replace B1 := Lib.hid (below_size B1.out b2)
  clear b2 AR
  go_upto_region 6 with (fail)
  obtain ⟨w3, hw3, xt, b3⟩ := var_tree w2 0 0 0 0 Option.none 0 0
  rw [hw3]
  replace B1 := Lib.hid (below_size B1.out b3)
  have TT := Lib.hid xt
  clear hw3 xt b3
  generalize w2.heap.size = g7 at *
  have hne : (er == 0) = false := beq_eq_false_iff_ne.2 he
  have c0 := TT.out.box.c0; have c1 := TT.out.box.c1; have c2 := TT.out.box.c2; have c3 := TT.out.box.c3; have c4 := TT.out.c4
  go_wp2_with fail
  refine (first_any _).mono ?_; rintro e w7 ⟨rfl, b2⟩
  clear c0 c1 c2 c3 c4
  replace B1 := Lib.hid (below_size B1.out b2); replace TT := Lib.hid (TT.out.below b2)
  have c0 := TT.out.box.c0; have c1 := TT.out.box.c1; have c2 := TT.out.box.c2; have c3 := TT.out.box.c3; have c4 := TT.out.c4
  go_wp2_with fail
  go_returns
  exact ⟨rfl, B1.out⟩

/-- For every input. -/
theorem walk_JoinResolves (Wo Ho Co Do : Int) (ao : Option Addr) (no co : Nat) (ko : List ByteArray) (Wa Ha Ca Da : Int) (aa : Option Addr) (na ca : Nat) (ka : List ByteArray) (am : Option Addr) (nm cm : Nat) (ms : List Bool) (w : World)
    (i1 : i64In Wo) (i2 : i64In Ho) (i3 : i64In Co) (i4 : i64In Do) (ho : Strs w ao no co ko) (j1 : i64In Wa) (j2 : i64In Ha) (j3 : i64In Ca) (j4 : i64In Da) (ha : Strs w aa na ca ka) (hms : Bls w am nm cm ms) :
    Calls Try.prog 5 #[ras Wo Ho Co Do ao no co, ras Wa Ha Ca Da aa na ca, .slice am nm cm] w fun e w' => e = .returned (.bool true) ∧ Below w.heap.size w w' := by
  by_cases hs : Short ko ∧ Short ka ∧ nm ≤ 400
  case neg => exact resolves_few ⟨Wo, Ho, Co, Do, ao, no, co, ko⟩ ⟨Wa, Ha, Ca, Da, aa, na, ca, ka⟩ am nm cm ms w ho ha hms hs
  have tko : TOk w ⟨Wo, Ho, Co, Do, ao, no, co, ko⟩ := ⟨i1, i2, i3, i4, ho, hs.1⟩
  have ta : TOk w ⟨Wa, Ha, Ca, Da, aa, na, ca, ka⟩ := ⟨j1, j2, j3, j4, ha, hs.2.1⟩
  by_cases hm : [(⟨Wo, Ho, Co, Do, ao, no, co, ko⟩ : TV), ⟨Wa, Ha, Ca, Da, aa, na, ca, ka⟩].all TV.may = true
  case neg =>
    have hm1 := Bool.eq_false_iff.2 hm
    exact resolves_err ⟨Wo, Ho, Co, Do, ao, no, co, ko⟩ ⟨Wa, Ha, Ca, Da, aa, na, ca, ka⟩ am nm cm ms 4 (by decide) w tko ta hms hs.2.2 (fun w' h1 h2 => resolve_form _ _ _ _ _ w' h1 h2 hm1)
  have hm1 := hm
  simp only [List.all_cons, List.all_nil, Bool.and_true, Bool.and_eq_true] at hm1
  obtain ⟨m1, m2⟩ := hm1
  by_cases hk : TV.alike ⟨Wo, Ho, Co, Do, ao, no, co, ko⟩ ⟨Wa, Ha, Ca, Da, aa, na, ca, ka⟩ ∧ nm = no
  case neg =>
    exact resolves_err ⟨Wo, Ho, Co, Do, ao, no, co, ko⟩ ⟨Wa, Ha, Ca, Da, aa, na, ca, ka⟩ am nm cm ms 13 (by decide) w tko ta hms hs.2.2 (fun w' h1 h2 => resolve_shape _ _ _ _ _ w' h1 h2 hm hk)
  unfold TV.alike at hk
  simp only at hk
  obtain ⟨⟨rfl, rfl, rfl, rfl⟩, rfl⟩ := hk
  have g1 := mayT_keys m1; have g2 := mayT_keys m2
  simp only at g1 g2
  have q1 := ho.len; have q2 := ha.len
  obtain rfl : na = nm := by omega
  have hn : 0 < na := by
    have := grid_pos g1.1
    omega
  obtain ⟨po, xo, rfl, _⟩ := ho.cells hn
  obtain ⟨pa, xa, rfl, _⟩ := ha.cells hn
  obtain ⟨pm, xm, rfl, _⟩ := hms.cells hn
  exact resolves_ok _ _ _ _ _ _ _ _ _ _ _ _ _ _ _ _ _ w tko ta hms m1 m2 hn
end Go.Proofs.Ytbmbelnjgnahhaa
