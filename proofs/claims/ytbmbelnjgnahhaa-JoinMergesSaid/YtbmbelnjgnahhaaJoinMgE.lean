/-
  The walk of JoinMerges: too great; then for every input.
-/
import Derived.Test.YtbmbelnjgnahhaaJoinMgW
namespace Go.Proofs.Ytbmbelnjgnahhaa
open Go.RowKit

set_option maxRecDepth 100000 in
set_option maxHeartbeats 2000000 in
theorem merges_few (o a b : TV) (am : Option Addr) (nm cm : Nat) (w : World) (ho : Strs w o.a o.n o.cap o.ks) (ha : Strs w a.a a.n a.cap a.ks) (hb : Strs w b.a b.n b.cap b.ks) (hs : ¬ (Short o.ks ∧ Short a.ks ∧ Short b.ks ∧ nm ≤ 400)) :
    Calls Try.prog 3 #[o.val, a.val, b.val, .slice am nm cm] w fun e w' => e = .returned (.bool true) ∧ Below w.heap.size w w' := by
  obtain ⟨w1, hw1, x1, x2, x3, b1, s1⟩ := three_boxes w o a b 26
  have AR := Lib.hid (Args3S.mk x1 x2 x3 (ho.below b1) (ha.below b1) (hb.below b1))
  have HW1 := Lib.hid hw1; have B1 := Lib.hid b1
  have HS := Lib.hid hs
  clear hw1 x1 x2 x3 b1 s1 ho ha hb hs
  go_enter Try.func3, Try.ntmps3
  go_upto_region 1 with (fail)
  rw [HW1.out]
  go_wp2_with fail
  refine (first_any _).mono ?_; rintro e w2 ⟨rfl, b2⟩
  replace AR := Lib.hid (AR.out.below b2); replace B1 := Lib.hid (below_size B1.out b2)
  clear b2
  have c0 := AR.out.bo.box.c0; have c1 := AR.out.bo.box.c1; have c2 := AR.out.bo.box.c2; have c3 := AR.out.bo.box.c3; have c4 := AR.out.bo.c4
  have d0 := AR.out.ba.box.c0; have d1 := AR.out.ba.box.c1; have d2 := AR.out.ba.box.c2; have d3 := AR.out.ba.box.c3; have d4 := AR.out.ba.c4
  have e0 := AR.out.bb.box.c0; have e1 := AR.out.bb.box.c1; have e2 := AR.out.bb.box.c2; have e3 := AR.out.bb.box.c3; have e4 := AR.out.bb.c4
  go_wp2_with fail
  refine (fewTree_any _ _ _ _ _ _ _ _ _ AR.out.so).mono ?_; rintro e w2 ⟨rfl, b2⟩
  clear c0 c1 c2 c3 c4 d0 d1 d2 d3 d4 e0 e1 e2 e3 e4
  replace AR := Lib.hid (AR.out.below b2); replace B1 := Lib.hid (below_size B1.out b2)
  clear b2
  by_cases h1 : Short o.ks
  case neg =>
    rw [decide_eq_false h1]
    clear h1
    have c0 := AR.out.bo.box.c0; have c1 := AR.out.bo.box.c1; have c2 := AR.out.bo.box.c2; have c3 := AR.out.bo.box.c3; have c4 := AR.out.bo.c4
    have d0 := AR.out.ba.box.c0; have d1 := AR.out.ba.box.c1; have d2 := AR.out.ba.box.c2; have d3 := AR.out.ba.box.c3; have d4 := AR.out.ba.c4
    have e0 := AR.out.bb.box.c0; have e1 := AR.out.bb.box.c1; have e2 := AR.out.bb.box.c2; have e3 := AR.out.bb.box.c3; have e4 := AR.out.bb.c4
    go_wp2_with fail
    refine (first_any _).mono ?_; rintro e w3 ⟨rfl, b3⟩
    clear c0 c1 c2 c3 c4 d0 d1 d2 d3 d4 e0 e1 e2 e3 e4
    go_wp2_with fail
    go_returns
    exact ⟨rfl, below_size B1.out b3⟩
  rw [decide_eq_true h1]
  have H1 := Lib.hid h1
  clear h1
  have c0 := AR.out.bo.box.c0; have c1 := AR.out.bo.box.c1; have c2 := AR.out.bo.box.c2; have c3 := AR.out.bo.box.c3; have c4 := AR.out.bo.c4
  have d0 := AR.out.ba.box.c0; have d1 := AR.out.ba.box.c1; have d2 := AR.out.ba.box.c2; have d3 := AR.out.ba.box.c3; have d4 := AR.out.ba.c4
  have e0 := AR.out.bb.box.c0; have e1 := AR.out.bb.box.c1; have e2 := AR.out.bb.box.c2; have e3 := AR.out.bb.box.c3; have e4 := AR.out.bb.c4
  go_wp2_with fail
  refine (fewTree_any _ _ _ _ _ _ _ _ _ AR.out.sa).mono ?_; rintro e w2 ⟨rfl, b2⟩
  clear c0 c1 c2 c3 c4 d0 d1 d2 d3 d4 e0 e1 e2 e3 e4
  replace AR := Lib.hid (AR.out.below b2); replace B1 := Lib.hid (below_size B1.out b2)
  clear b2
  by_cases h1 : Short a.ks
  case neg =>
    rw [decide_eq_false h1]
    clear h1
    have c0 := AR.out.bo.box.c0; have c1 := AR.out.bo.box.c1; have c2 := AR.out.bo.box.c2; have c3 := AR.out.bo.box.c3; have c4 := AR.out.bo.c4
    have d0 := AR.out.ba.box.c0; have d1 := AR.out.ba.box.c1; have d2 := AR.out.ba.box.c2; have d3 := AR.out.ba.box.c3; have d4 := AR.out.ba.c4
    have e0 := AR.out.bb.box.c0; have e1 := AR.out.bb.box.c1; have e2 := AR.out.bb.box.c2; have e3 := AR.out.bb.box.c3; have e4 := AR.out.bb.c4
    go_wp2_with fail
    refine (first_any _).mono ?_; rintro e w3 ⟨rfl, b3⟩
    clear c0 c1 c2 c3 c4 d0 d1 d2 d3 d4 e0 e1 e2 e3 e4
    go_wp2_with fail
    go_returns
    exact ⟨rfl, below_size B1.out b3⟩
  rw [decide_eq_true h1]
  have H2 := Lib.hid h1
  clear h1
  have c0 := AR.out.bo.box.c0; have c1 := AR.out.bo.box.c1; have c2 := AR.out.bo.box.c2; have c3 := AR.out.bo.box.c3; have c4 := AR.out.bo.c4
  have d0 := AR.out.ba.box.c0; have d1 := AR.out.ba.box.c1; have d2 := AR.out.ba.box.c2; have d3 := AR.out.ba.box.c3; have d4 := AR.out.ba.c4
  have e0 := AR.out.bb.box.c0; have e1 := AR.out.bb.box.c1; have e2 := AR.out.bb.box.c2; have e3 := AR.out.bb.box.c3; have e4 := AR.out.bb.c4
  go_wp2_with fail
  refine (fewTree_any _ _ _ _ _ _ _ _ _ AR.out.sb).mono ?_; rintro e w2 ⟨rfl, b2⟩
  clear c0 c1 c2 c3 c4 d0 d1 d2 d3 d4 e0 e1 e2 e3 e4
  replace AR := Lib.hid (AR.out.below b2); replace B1 := Lib.hid (below_size B1.out b2)
  clear b2
  by_cases h1 : Short b.ks
  case neg =>
    rw [decide_eq_false h1]
    clear h1
    go_wp2_with fail
    refine (first_any _).mono ?_; rintro e w3 ⟨rfl, b3⟩
    go_wp2_with fail
    go_returns
    exact ⟨rfl, below_size B1.out b3⟩
  rw [decide_eq_true h1]
  have h400 : (400 : Int) < nm := by
    have h2 : ¬ nm ≤ 400 := fun h => HS.out ⟨H1.out, H2.out, h1, h⟩
    omega
  clear h1
  go_wp2_with fail
  refine (first_any _).mono ?_; rintro e w3 ⟨rfl, b3⟩
  go_wp2_with fail
  go_returns
  exact ⟨rfl, below_size B1.out b3⟩

/-- For every input. -/
theorem walk_JoinMerges (Wo Ho Co Do : Int) (ao : Option Addr) (no co : Nat) (ko : List ByteArray) (Wa Ha Ca Da : Int) (aa : Option Addr) (na ca : Nat) (ka : List ByteArray) (Wb Hb Cb Db : Int) (ab : Option Addr) (nb cb : Nat) (kb : List ByteArray) (am : Option Addr) (nm cm : Nat) (ms : List Bool) (w : World)
    (i1 : i64In Wo) (i2 : i64In Ho) (i3 : i64In Co) (i4 : i64In Do) (ho : Strs w ao no co ko) (j1 : i64In Wa) (j2 : i64In Ha) (j3 : i64In Ca) (j4 : i64In Da) (ha : Strs w aa na ca ka) (l1 : i64In Wb) (l2 : i64In Hb) (l3 : i64In Cb) (l4 : i64In Db) (hb : Strs w ab nb cb kb) (hms : Bls w am nm cm ms) :
    Calls Try.prog 3 #[ras Wo Ho Co Do ao no co, ras Wa Ha Ca Da aa na ca, ras Wb Hb Cb Db ab nb cb, .slice am nm cm] w fun e w' => e = .returned (.bool true) ∧ Below w.heap.size w w' := by
  by_cases hs : Short ko ∧ Short ka ∧ Short kb ∧ nm ≤ 400
  case neg => exact merges_few ⟨Wo, Ho, Co, Do, ao, no, co, ko⟩ ⟨Wa, Ha, Ca, Da, aa, na, ca, ka⟩ ⟨Wb, Hb, Cb, Db, ab, nb, cb, kb⟩ am nm cm w ho ha hb hs
  exact merges_walk ⟨Wo, Ho, Co, Do, ao, no, co, ko⟩ ⟨Wa, Ha, Ca, Da, aa, na, ca, ka⟩ ⟨Wb, Hb, Cb, Db, ab, nb, cb, kb⟩ am nm cm ms w ⟨i1, i2, i3, i4, ho, hs.1⟩ ⟨j1, j2, j3, j4, ha, hs.2.1⟩ ⟨l1, l2, l3, l4, hb, hs.2.2.1⟩ hms hs.2.2.2
end Go.Proofs.Ytbmbelnjgnahhaa
