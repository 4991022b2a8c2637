/-
  The walk of JoinMerges.
-/
import Derived.Test.YtbmbelnjgnahhaaJoinMgJ
import Derived.Deep.RegionHeld3
import Derived.Deep.DeepCutAuto
namespace Go.Proofs.Ytbmbelnjgnahhaa
open Go.RowKit

theorem mgMK_len (o a b : TV) : (mgM o a b).length = (mgK o a b).length := by
  unfold mgM mgK
  by_cases h : mgE o a b = 0
  · rw [if_pos h, if_pos h, mergeMs_len, mergeKs_len]
  · rw [if_neg h, if_neg h]; rfl
theorem var_treeT (T : TypeId) (w : World) (W H C D : Int) (a : Option Addr) (n k : Nat) : ∃ w2, w.alloc (.cells #[.int .i64 W, .int .i64 H, .int .i64 C, .int .i64 D, .slice a n k] T) = w2 ∧ RBox w2 w.heap.size W H C D a n k ∧ Below w.heap.size w w2 :=
  ⟨_, rfl, rbox_alloc w W H C D a n k _, (Below.refl _ _).alloc (Nat.le_refl _) _⟩
/-- While the answer's keys are spoilt: what stands. -/
structure Sp (wc : World) (B8 g13 : Nat) (W H C D : Int) (ga : Option Addr) (n ka : Nat) (gm : Option Addr) (km : Nat) (gn : Option Addr) (kn : Nat) (M : List Bool) (wr : World) : Prop where
  own : ∃ L : List ByteArray, wr.ownsRow wc.heap.size 9 1 (.slice ga n ka) n (L.map Value.string)
  box : RBox wr g13 W H C D ga n ka
  bm : wr.ownsRow wc.heap.size 4 1 (.slice gm n km) n (M.map Value.bool)
  bn : wr.ownsRow B8 4 1 (.slice gn n kn) n (M.map Value.bool)
  bel : Below wc.heap.size wc wr
  glt : ∀ g, ga = some ⟨g, 0, Option.none⟩ → g < g13 ∧ g < B8
theorem Sp.store {wc wr : World} {B8 g13 : Nat} {W H C D : Int} {g n ka : Nat} {gm : Option Addr} {km : Nat} {gn : Option Addr} {kn : Nat} {M : List Bool} (h : Sp wc B8 g13 W H C D (some ⟨g, 0, Option.none⟩) n ka gm km gn kn M wr) (i : Nat) (hi : i < n) (v : ByteArray) :
    Sp wc B8 g13 W H C D (some ⟨g, 0, Option.none⟩) n ka gm km gn kn M (wr.setCell ⟨g, i, Option.none⟩ (.string v)) := by
  obtain ⟨L, hL⟩ := h.own
  obtain ⟨l1, l2⟩ := h.glt g rfl
  obtain ⟨g2, rfl, _⟩ := owns_addr h.bm (by omega)
  obtain ⟨g3, rfl, l3⟩ := owns_addr h.bn (by omega)
  have hne : g ≠ g2 := fun e => by
    subst e
    have c1 := ownsA_cell ByteArray.empty hL i hi
    have c2 := ownsA_cell false h.bm i hi
    rw [c1] at c2
    simp at c2
  exact ⟨⟨L.set i v, ownsA_set hL i v⟩, h.box.setFar g i _ (by omega), owns_far h.bm g i _ hne, owns_far h.bn g i _ (by omega), h.bel.setCell (hL.lt g rfl).1 _, h.glt⟩
set_option maxRecDepth 100000 in
set_option maxHeartbeats 4000000 in
theorem merges_walk (o a b : TV) (am : Option Addr) (nm cm : Nat) (ms : List Bool) (w : World) (ho : TOk w o) (ha : TOk w a) (hb : TOk w b) (hms : Bls w am nm cm ms) (hn : nm ≤ 400) :
    Calls Try.prog 3 #[o.val, a.val, b.val, .slice am nm cm] w fun e w' => e = .returned (.bool true) ∧ Below w.heap.size w w' := by
  obtain ⟨w1, hw1, x1, x2, x3, b1, s1⟩ := three_boxes w o a b 26
  have AR := Lib.hid (Args3.mk x1 x2 x3 (ho.below b1) (ha.below b1) (hb.below b1))
  have SO := Lib.hid (decide_eq_true ho.short); have SA := Lib.hid (decide_eq_true ha.short); have SB := Lib.hid (decide_eq_true hb.short)
  have KM := Lib.hid (hms.below b1)
  have HW1 := Lib.hid hw1; have B1 := Lib.hid b1
  clear hw1 x1 x2 x3 b1 s1 ho ha hb hms
  have h400 : ¬ (400 : Int) < nm := by omega
  go_enter Try.func3, Try.ntmps3
  go_upto_region 1 with (fail)
  rw [HW1.out]
  go_wp2_with fail
  refine (first_any _).mono ?_; rintro e w2 ⟨rfl, b2⟩
  replace AR := Lib.hid (AR.out.below b2); replace B1 := Lib.hid (below_size B1.out b2); replace KM := Lib.hid (KM.out.below b2)
  clear b2
  have c0 := AR.out.bo.box.c0; have c1 := AR.out.bo.box.c1; have c2 := AR.out.bo.box.c2; have c3 := AR.out.bo.box.c3; have c4 := AR.out.bo.c4
  have d0 := AR.out.ba.box.c0; have d1 := AR.out.ba.box.c1; have d2 := AR.out.ba.box.c2; have d3 := AR.out.ba.box.c3; have d4 := AR.out.ba.c4
  have e0 := AR.out.bb.box.c0; have e1 := AR.out.bb.box.c1; have e2 := AR.out.bb.box.c2; have e3 := AR.out.bb.box.c3; have e4 := AR.out.bb.c4
  go_wp2_with fail
  refine (fewTree_any _ _ _ _ _ _ _ _ _ AR.out.ko.strs).mono ?_; rintro e w2 ⟨rfl, b2⟩
  rw [SO.out]
  clear c0 c1 c2 c3 c4 d0 d1 d2 d3 d4 e0 e1 e2 e3 e4
  replace AR := Lib.hid (AR.out.below b2); replace B1 := Lib.hid (below_size B1.out b2); replace KM := Lib.hid (KM.out.below b2)
  clear b2
  have c0 := AR.out.bo.box.c0; have c1 := AR.out.bo.box.c1; have c2 := AR.out.bo.box.c2; have c3 := AR.out.bo.box.c3; have c4 := AR.out.bo.c4
  have d0 := AR.out.ba.box.c0; have d1 := AR.out.ba.box.c1; have d2 := AR.out.ba.box.c2; have d3 := AR.out.ba.box.c3; have d4 := AR.out.ba.c4
  have e0 := AR.out.bb.box.c0; have e1 := AR.out.bb.box.c1; have e2 := AR.out.bb.box.c2; have e3 := AR.out.bb.box.c3; have e4 := AR.out.bb.c4
  go_wp2_with fail
  refine (fewTree_any _ _ _ _ _ _ _ _ _ AR.out.ka.strs).mono ?_; rintro e w2 ⟨rfl, b2⟩
  rw [SA.out]
  clear c0 c1 c2 c3 c4 d0 d1 d2 d3 d4 e0 e1 e2 e3 e4
  replace AR := Lib.hid (AR.out.below b2); replace B1 := Lib.hid (below_size B1.out b2); replace KM := Lib.hid (KM.out.below b2)
  clear b2
  have c0 := AR.out.bo.box.c0; have c1 := AR.out.bo.box.c1; have c2 := AR.out.bo.box.c2; have c3 := AR.out.bo.box.c3; have c4 := AR.out.bo.c4
  have d0 := AR.out.ba.box.c0; have d1 := AR.out.ba.box.c1; have d2 := AR.out.ba.box.c2; have d3 := AR.out.ba.box.c3; have d4 := AR.out.ba.c4
  have e0 := AR.out.bb.box.c0; have e1 := AR.out.bb.box.c1; have e2 := AR.out.bb.box.c2; have e3 := AR.out.bb.box.c3; have e4 := AR.out.bb.c4
  go_wp2_with fail
  refine (fewTree_any _ _ _ _ _ _ _ _ _ AR.out.kb.strs).mono ?_; rintro e w2 ⟨rfl, b2⟩
  rw [SB.out]
  clear c0 c1 c2 c3 c4 d0 d1 d2 d3 d4 e0 e1 e2 e3 e4
  replace AR := Lib.hid (AR.out.below b2); replace B1 := Lib.hid (below_size B1.out b2); replace KM := Lib.hid (KM.out.below b2)
  clear b2
  go_upto_region 5 with (fail)
  refine wp_region_inv_at [50, 51, 52, 53, 54, 55, 9, 10, 11] (fun l vs wx => ∃ (v0 v1 v2 v3 v4 v5 v6 v7 v8 : Value) (r : Nat → Nat), vs = [v0, v1, v2, v3, v4, v5, v6, v7, v8] ∧ l.size = 12 ∧ mjJ o a b w2.heap.size w2 l v0 v1 v2 v3 v4 v5 v6 v7 v8 r wx) [undef, undef, undef, undef, undef, undef, undef, undef, undef] (by kernel_rfl) (by kernel_rfl) ?_ ?_ ?_
  · exact ⟨_, _, _, _, _, _, _, _, _, fun _ => 0, rfl, by simp, mjJ.start o a b _ _ _ _ _ _ _ _ _ _ _⟩
  · refine ⟨?_, ?_, ?_, ?_, ?_, ?_, ?_, ?_, ?_, ?_, ?_, ?_, trivial⟩
    all_goals
      rintro l _ wx h0 hd ⟨v0, v1, v2, v3, v4, v5, v6, v7, v8, r, rfl, hsz, J⟩ K hK
      have hK' := fun u0 u1 u2 u3 u4 u5 u6 u7 u8 w => hK [u0, u1, u2, u3, u4, u5, u6, u7, u8] w
      clear hK
      simp only [layAt, Act.put, List.setIfInBounds_toArray, List.set_cons_zero, List.set_cons_succ] at hK' ⊢
      have HK := Lib.hid hK'; clear hK'
    · have HJ := Lib.hid J
      have bx := (AR.out.below HJ.out.bk.bel).bo
      have c0 := bx.box.c0; have c1 := bx.box.c1; have c2 := bx.box.c2; have c3 := bx.box.c3; have c4 := bx.c4
      clear bx
      clear J hd h0
      go_simp
      exact HK.out _ _ _ _ _ _ _ _ _ _ ⟨_, _, _, _, _, _, _, _, _, r, rfl, by simp [hsz], HJ.out.op0⟩
    · have d0 := hd ⟨0, .data⟩ (by simp) (by rfl)
      obtain rfl := J.f0 d0
      have HJ := Lib.hid J
      clear J hd h0
      go_simp
      refine (toTree_any _ _ _ _ _ _ _ _).mono ?_; rintro e wy ⟨rfl, hgw⟩
      exact HK.out _ _ _ _ _ _ _ _ _ _ ⟨_, _, _, _, _, _, _, _, _, r, rfl, by simp [hsz], HJ.out.op1 d0 hgw⟩
    · have HJ := Lib.hid J
      have bx := (AR.out.below HJ.out.bk.bel).ba
      have c0 := bx.box.c0; have c1 := bx.box.c1; have c2 := bx.box.c2; have c3 := bx.box.c3; have c4 := bx.c4
      clear bx
      clear J hd h0
      go_simp
      exact HK.out _ _ _ _ _ _ _ _ _ _ ⟨_, _, _, _, _, _, _, _, _, r, rfl, by simp [hsz], HJ.out.op2⟩
    · have d2 := hd ⟨2, .data⟩ (by simp) (by rfl)
      obtain rfl := J.f2 d2
      have HJ := Lib.hid J
      clear J hd h0
      go_simp
      refine (toTree_any _ _ _ _ _ _ _ _).mono ?_; rintro e wy ⟨rfl, hgw⟩
      exact HK.out _ _ _ _ _ _ _ _ _ _ ⟨_, _, _, _, _, _, _, _, _, r, rfl, by simp [hsz], HJ.out.op3 d2 hgw⟩
    · have HJ := Lib.hid J
      have bx := (AR.out.below HJ.out.bk.bel).bb
      have c0 := bx.box.c0; have c1 := bx.box.c1; have c2 := bx.box.c2; have c3 := bx.box.c3; have c4 := bx.c4
      clear bx
      clear J hd h0
      go_simp
      exact HK.out _ _ _ _ _ _ _ _ _ _ ⟨_, _, _, _, _, _, _, _, _, r, rfl, by simp [hsz], HJ.out.op4⟩
    · have d4 := hd ⟨4, .data⟩ (by simp) (by rfl)
      obtain rfl := J.f4 d4
      have HJ := Lib.hid J
      clear J hd h0
      go_simp
      refine (toTree_any _ _ _ _ _ _ _ _).mono ?_; rintro e wy ⟨rfl, hgw⟩
      exact HK.out _ _ _ _ _ _ _ _ _ _ ⟨_, _, _, _, _, _, _, _, _, r, rfl, by simp [hsz], HJ.out.op5 d4 hgw⟩
    · have hz : l.getD 6 false = false := by rw [both (by omega) false true]; exact h0
      have HJ := Lib.hid J
      clear J hd h0
      go_simp
      exact HK.out _ _ _ _ _ _ _ _ _ _ ⟨_, _, _, _, _, _, _, _, _, _, rfl, by simp [hsz], HJ.out.op6 hz⟩
    · have hz : l.getD 7 false = false := by rw [both (by omega) false true]; exact h0
      have HJ := Lib.hid J
      clear J hd h0
      go_simp
      exact HK.out _ _ _ _ _ _ _ _ _ _ ⟨_, _, _, _, _, _, _, _, _, _, rfl, by simp [hsz], HJ.out.op7 hz⟩
    · have hz : l.getD 8 false = false := by rw [both (by omega) false true]; exact h0
      have HJ := Lib.hid J
      clear J hd h0
      go_simp
      exact HK.out _ _ _ _ _ _ _ _ _ _ ⟨_, _, _, _, _, _, _, _, _, _, rfl, by simp [hsz], HJ.out.op8 hz⟩
    · have d6 := hd ⟨6, .data⟩ (by simp) (by rfl)
      have d1 := hd ⟨1, .data⟩ (by simp) (by rfl)
      have hz : l.getD 9 false = false := by rw [both (by omega) false true]; exact h0
      obtain rfl := J.f6 d6
      obtain rfl := J.f1 d1
      have HJ := Lib.hid J
      have hm := HJ.out.m6 d6
      rw [hz] at hm
      simp only [Bool.false_eq_true, if_false] at hm
      have bx := rbox_of_heap hm
      have c0 := bx.box.c0; have c1 := bx.box.c1; have c2 := bx.box.c2; have c3 := bx.box.c3; have c4 := bx.c4; have f0 := bx.box.f0; have f1 := bx.box.f1; have f2 := bx.box.f2; have f3 := bx.box.f3; have f4 := bx.f4
      clear hm bx
      clear J hd h0
      go_simp
      exact HK.out _ _ _ _ _ _ _ _ _ _ ⟨_, _, _, _, _, _, _, _, _, r, rfl, by simp [hsz], HJ.out.op9 hsz hz d6 d1⟩
    · have d7 := hd ⟨7, .data⟩ (by simp) (by rfl)
      have d3 := hd ⟨3, .data⟩ (by simp) (by rfl)
      have hz : l.getD 10 false = false := by rw [both (by omega) false true]; exact h0
      obtain rfl := J.f7 d7
      obtain rfl := J.f3 d3
      have HJ := Lib.hid J
      have hm := HJ.out.m7 d7
      rw [hz] at hm
      simp only [Bool.false_eq_true, if_false] at hm
      have bx := rbox_of_heap hm
      have c0 := bx.box.c0; have c1 := bx.box.c1; have c2 := bx.box.c2; have c3 := bx.box.c3; have c4 := bx.c4; have f0 := bx.box.f0; have f1 := bx.box.f1; have f2 := bx.box.f2; have f3 := bx.box.f3; have f4 := bx.f4
      clear hm bx
      clear J hd h0
      go_simp
      exact HK.out _ _ _ _ _ _ _ _ _ _ ⟨_, _, _, _, _, _, _, _, _, r, rfl, by simp [hsz], HJ.out.op10 hsz hz d7 d3⟩
    · have d8 := hd ⟨8, .data⟩ (by simp) (by rfl)
      have d5 := hd ⟨5, .data⟩ (by simp) (by rfl)
      have hz : l.getD 11 false = false := by rw [both (by omega) false true]; exact h0
      obtain rfl := J.f8 d8
      obtain rfl := J.f5 d5
      have HJ := Lib.hid J
      have hm := HJ.out.m8 d8
      rw [hz] at hm
      simp only [Bool.false_eq_true, if_false] at hm
      have bx := rbox_of_heap hm
      have c0 := bx.box.c0; have c1 := bx.box.c1; have c2 := bx.box.c2; have c3 := bx.box.c3; have c4 := bx.c4; have f0 := bx.box.f0; have f1 := bx.box.f1; have f2 := bx.box.f2; have f3 := bx.box.f3; have f4 := bx.f4
      clear hm bx
      clear J hd h0
      go_simp
      exact HK.out _ _ _ _ _ _ _ _ _ _ ⟨_, _, _, _, _, _, _, _, _, r, rfl, by simp [hsz], HJ.out.op11 hsz hz d8 d5⟩
  · rintro l _ wx hr ⟨v0, v1, v2, v3, v4, v5, v6, v7, v8, r, rfl, hsz, J⟩
    have hall := all_done (by rw [hsz]; rfl) (by kernel_rfl) hr
    have d0 := hall 0 (by decide)
    have d1 := hall 1 (by decide)
    have d2 := hall 2 (by decide)
    have d3 := hall 3 (by decide)
    have d4 := hall 4 (by decide)
    have d5 := hall 5 (by decide)
    have d6 := hall 6 (by decide)
    have d7 := hall 7 (by decide)
    have d8 := hall 8 (by decide)
    have d9 := hall 9 (by decide)
    have d10 := hall 10 (by decide)
    have d11 := hall 11 (by decide)
    obtain rfl := J.f0 d0
    obtain rfl := J.f1 d1
    obtain rfl := J.f2 d2
    obtain rfl := J.f3 d3
    obtain rfl := J.f4 d4
    obtain rfl := J.f5 d5
    obtain rfl := J.f6 d6
    obtain rfl := J.f7 d7
    obtain rfl := J.f8 d8
    simp only [layAt, Act.put, List.setIfInBounds_toArray, List.set_cons_zero, List.set_cons_succ]
    have HX1 := J.m6 d6; have HX2 := J.m7 d7; have HX3 := J.m8 d8
    rw [d9] at HX1; rw [d10] at HX2; rw [d11] at HX3
    simp only [if_true] at HX1 HX2 HX3
    have X1 := Lib.hid (rbox_of_heap HX1); have X2 := Lib.hid (rbox_of_heap HX2); have X3 := Lib.hid (rbox_of_heap HX3)
    replace AR := Lib.hid (AR.out.below J.bk.bel); replace B1 := Lib.hid (below_size B1.out J.bk.bel); replace KM := Lib.hid (KM.out.below J.bk.bel)
    generalize r 6 = g9 at *
    generalize r 7 = g10 at *
    generalize r 8 = g11 at *
    clear HX1 HX2 HX3 J hall hr d0 d1 d2 d3 d4 d5 d6 d7 d8 d9 d10 d11
    obtain ⟨w6, rfl⟩ : ∃ w6 : World, w6 = wx := ⟨_, rfl⟩
    have HLA := Lib.hid AR.out.ka.strs.len
    have hna : a.n ≤ 300 := by have h1 := AR.out.ka.short.1; have h2 := AR.out.ka.strs.len; omega
    have hg1 : w.heap.size + 1 < w6.heap.size := AR.out.ba.lt
    go_upto_region 6 with (fail)
    go_cut [12] (fun s wx => ∃ gb a' k', s = .pointer (some ⟨gb, 0, Option.none⟩) ∧ OutS w6 a.W a.H a.C a.D a.n gb a' k' a.ks wx)
    case first =>
      have Keep : Hid (∀ w' : World, Below w6.heap.size w6 w' → w'.cell? ⟨w.heap.size + 1, 0, Option.none⟩ = some (.int .i64 a.W) ∧ w'.cell? ⟨w.heap.size + 1, 1, Option.none⟩ = some (.int .i64 a.H) ∧ w'.cell? ⟨w.heap.size + 1, 2, Option.none⟩ = some (.int .i64 a.C) ∧ w'.cell? ⟨w.heap.size + 1, 3, Option.none⟩ = some (.int .i64 a.D) ∧ w'.cell? ⟨w.heap.size + 1, 4, Option.none⟩ = some (.slice a.a a.n a.cap)) := Lib.hid fun w' e => by
        have h := AR.out.ba.below e
        exact ⟨h.box.c0, h.box.c1, h.box.c2, h.box.c3, h.c4⟩
      have CL : Hid (∀ w', Below w6.heap.size w6 w' → Calls Try.prog 10 #[.slice a.a a.n a.cap] w' (RetStrs w' a.ks)) := Lib.hid fun w' h => copyTexts_any a.a a.n a.cap a.ks w' (AR.out.ka.strs.below h) (by omega)
      have e0 : Below w6.heap.size w6 w6.drew := (Below.refl _ _).drew
      have hz3 : w6.heap.size ≤ w6.drew.heap.size := Nat.le_refl _
      go_region_held3 (fun w' => w'.cell? ⟨w.heap.size + 1, 0, Option.none⟩ = some (.int .i64 a.W) ∧ w'.cell? ⟨w.heap.size + 1, 1, Option.none⟩ = some (.int .i64 a.H) ∧ w'.cell? ⟨w.heap.size + 1, 2, Option.none⟩ = some (.int .i64 a.C) ∧ w'.cell? ⟨w.heap.size + 1, 3, Option.none⟩ = some (.int .i64 a.D) ∧ w'.cell? ⟨w.heap.size + 1, 4, Option.none⟩ = some (.slice a.a a.n a.cap))
        ((refine Keep.out _ ?_; repeat (first | with_reducible exact e0 | with_reducible exact e1 | with_reducible exact Below.refl _ _ | with_reducible refine Below.drew ?_ | (refine Below.setCell ?_ (by first | omega | (simp <;> omega)) _) | (refine Below.alloc ?_ (by first | omega | (simp <;> omega)) _))))
        (first
        | (go_at_call 10; refine (CL.out _ (by repeat (first | with_reducible exact e0 | with_reducible exact Below.refl _ _ | with_reducible refine Below.drew ?_ | (refine Below.alloc ?_ (by first | omega | (simp <;> omega)) _)))).mono ?_; rintro e x1 ⟨a', k', rfl, o1, bb1⟩; rw [HLA.out] at o1 ⊢; have e1 : Below w6.heap.size w6 x1 := Below.trans (by repeat (first | with_reducible exact e0 | with_reducible exact Below.refl _ _ | with_reducible refine Below.drew ?_ | (refine Below.alloc ?_ (by first | omega | (simp <;> omega)) _))) (bb1.mono (by first | omega | (simp <;> omega))); have hz4 : w6.heap.size ≤ x1.heap.size := e1.size; try (have k9 := ((rbox_alloc w6 0 0 0 0 Option.none 0 0 26).below (Below.refl _ _).drew).below bb1; have k0 := k9.box.c0; have k1 := k9.box.c1; have k2 := k9.box.c2; have k3 := k9.box.c3; have k4 := k9.c4; have f0 := k9.box.f0; have f1 := k9.box.f1; have f2 := k9.box.f2; have f3 := k9.box.f3; have f4 := k9.f4; have hz5 : w6.heap.size < x1.heap.size := k9.box.lt; have hz6 : ¬ w6.heap.size = x1.heap.size := Nat.ne_of_lt hz5; have hz7 : ¬ x1.heap.size = w6.heap.size := fun e => hz6 e.symm)))
      all_goals go_wp2_with fail
      all_goals go_meet
      · exact ⟨_, _, _, rfl, outS_aT _ e1 a.W a.H a.C a.D o1⟩
      · exact ⟨_, _, _, rfl, outS_b e1 a.W a.H a.C a.D (Nat.le_refl _) k9 (owns_base o1 (by simp)) (fun e => by have := (o1.lt _ e).1; simp at this; omega)⟩
    case rest =>
      obtain ⟨gc, a', k', rfl, hO⟩ := hcut
      have XC := Lib.hid hO.box
      have KC : Hid (TOk wc (⟨a.W, a.H, a.C, a.D, a', a.n, k', a.ks⟩ : TV)) := Lib.hid ⟨AR.out.ka.iW, AR.out.ka.iH, AR.out.ka.iC, AR.out.ka.iD, readsA_of_owns ByteArray.empty hO.own, AR.out.ka.short⟩
      replace AR := Lib.hid (AR.out.below hO.bel); replace B1 := Lib.hid (below_size B1.out hO.bel); replace KM := Lib.hid (KM.out.below hO.bel)
      replace X1 := Lib.hid (X1.out.below hO.bel); replace X2 := Lib.hid (X2.out.below hO.bel); replace X3 := Lib.hid (X3.out.below hO.bel)
      clear hO
      have c0 := AR.out.bo.box.c0; have c1 := AR.out.bo.box.c1; have c2 := AR.out.bo.box.c2; have c3 := AR.out.bo.box.c3; have c4 := AR.out.bo.c4
      have d0 := XC.out.box.c0; have d1 := XC.out.box.c1; have d2 := XC.out.box.c2; have d3 := XC.out.box.c3; have d4 := XC.out.c4
      have e0 := AR.out.bb.box.c0; have e1 := AR.out.bb.box.c1; have e2 := AR.out.bb.box.c2; have e3 := AR.out.bb.box.c3; have e4 := AR.out.bb.c4
      go_wp2_with fail
      refine (merge_mg o (⟨a.W, a.H, a.C, a.D, a', a.n, k', a.ks⟩ : TV) b _ AR.out.ko KC.out AR.out.kb).mono ?_
      rintro e w7 ⟨ga, ka, gm, km, rfl, o1, o2, b2⟩
      clear c0 c1 c2 c3 c4 d0 d1 d2 d3 d4 e0 e1 e2 e3 e4
      change w7.ownsRow _ _ _ (.slice ga (mgK o a b).length ka) (mgK o a b).length ((mgK o a b).map Value.string) at o1
      change w7.ownsRow _ _ _ (.slice gm (mgM o a b).length km) (mgM o a b).length ((mgM o a b).map Value.bool) at o2
      have HB0 := Lib.hid b2
      have hga : ∀ g, ga = some ⟨g, 0, Option.none⟩ → g < w7.heap.size := fun g e => by subst e; exact (o1.lt g rfl).2
      have HML := Lib.hid (show (mgM o a b).length = (mgK o a b).length from mgMK_len o a b)
      go_upto_region 8 with (fail)
      obtain ⟨w8, hw8, xt, b3⟩ := var_tree w7 (zS (mgE o a b) o.W) (zS (mgE o a b) o.H) (zS (mgE o a b) o.C) (zS (mgE o a b) o.D) ga (mgK o a b).length ka
      have hw8' : w7.alloc (.cells #[.int .i64 (zS (mgE o (⟨a.W, a.H, a.C, a.D, a', a.n, k', a.ks⟩ : TV) b) o.W), .int .i64 (zS (mgE o (⟨a.W, a.H, a.C, a.D, a', a.n, k', a.ks⟩ : TV) b) o.H), .int .i64 (zS (mgE o (⟨a.W, a.H, a.C, a.D, a', a.n, k', a.ks⟩ : TV) b) o.C), .int .i64 (zS (mgE o (⟨a.W, a.H, a.C, a.D, a', a.n, k', a.ks⟩ : TV) b) o.D), .slice ga (mgK o (⟨a.W, a.H, a.C, a.D, a', a.n, k', a.ks⟩ : TV) b).length ka] 26) = w8 := hw8
      rw [hw8']
      have O1 := Lib.hid (owns_below o1 b3); have O2 := Lib.hid (owns_below o2 b3)
      have XD := Lib.hid xt
      have BC := Lib.hid (below_size HB0.out b3)
      have Y1 := Lib.hid (X1.out.below BC.out); have Y2 := Lib.hid (X2.out.below BC.out); have Y3 := Lib.hid (X3.out.below BC.out)
      have hs8 : w7.heap.size < w8.heap.size := XD.out.lt
      clear hw8 hw8' xt b3 o1 o2 b2 HB0
      have c0 := Y1.out.box.c0; have c1 := Y1.out.box.c1; have c2 := Y1.out.box.c2; have c3 := Y1.out.box.c3; have c4 := Y1.out.c4
      have d0 := Y2.out.box.c0; have d1 := Y2.out.box.c1; have d2 := Y2.out.box.c2; have d3 := Y2.out.box.c3; have d4 := Y2.out.c4
      have e0 := Y3.out.box.c0; have e1 := Y3.out.box.c1; have e2 := Y3.out.box.c2; have e3 := Y3.out.box.c3; have e4 := Y3.out.c4
      go_wp2_with fail
      refine (rmerge_mg o a b _ (AR.out.below BC.out).ko (AR.out.below BC.out).ka (AR.out.below BC.out).kb).mono ?_
      rintro e w9 ⟨gr, kr, gn, kn, rfl, r1, r2, b2⟩
      clear c0 c1 c2 c3 c4 d0 d1 d2 d3 d4 e0 e1 e2 e3 e4
      replace XD := Lib.hid (XD.out.below b2); replace O1 := Lib.hid (owns_below O1.out b2); replace O2 := Lib.hid (owns_below O2.out b2); replace BC := Lib.hid (below_size BC.out b2)
      have R1 := Lib.hid r1; have R2 := Lib.hid r2
      clear b2 r1 r2 Y1 Y2 Y3
      go_upto_region 9 with (fail)
      obtain ⟨w10, hw10, xt, b3⟩ := var_treeT 30 w9 (zS (mgE o a b) o.W) (zS (mgE o a b) o.H) (zS (mgE o a b) o.C) (zS (mgE o a b) o.D) gr (mgK o a b).length kr
      rw [hw10]
      replace XD := Lib.hid (XD.out.below b3); replace O1 := Lib.hid (owns_below O1.out b3); replace O2 := Lib.hid (owns_below O2.out b3); replace BC := Lib.hid (below_size BC.out b3)
      replace R1 := Lib.hid (owns_below R1.out b3); replace R2 := Lib.hid (owns_below R2.out b3)
      have XE := Lib.hid xt
      clear hw10 xt b3
      have hTo : ∀ (A B C D : Int) (p : Option Addr) (k m : Nat) (x : GrownW w10), Calls Try.prog 9 #[ras A B C D p k m] x.val fun e w' => e = .returned (ras A B C D p k m) ∧ Below x.val.heap.size x.val w' := fun A B C D p k m x => toTree_any A B C D p k m x.val
      have hS : ∀ x : GrownW w10, Calls Try.prog 13 #[ras (zS (mgE o a b) o.W) (zS (mgE o a b) o.H) (zS (mgE o a b) o.C) (zS (mgE o a b) o.D) ga (mgK o a b).length ka, ras (zS (mgE o a b) o.W) (zS (mgE o a b) o.H) (zS (mgE o a b) o.C) (zS (mgE o a b) o.D) gr (mgK o a b).length kr] x.val fun e w' => e = .returned (.bool true) ∧ Below x.val.heap.size x.val w' := fun x =>
        (same_any _ _ _ _ _ _ _ _ _ _ _ _ _ _ _ _ x.val (readsA_of_owns ByteArray.empty (owns_below O1.out x.below)) (readsA_of_owns ByteArray.empty (owns_below R1.out x.below))).mono fun _ _ ⟨h1, h2⟩ => ⟨by rw [h1, decide_eq_true (show eqS (zS (mgE o a b) o.W) (zS (mgE o a b) o.H) (zS (mgE o a b) o.C) (zS (mgE o a b) o.D) (zS (mgE o a b) o.W) (zS (mgE o a b) o.H) (zS (mgE o a b) o.C) (zS (mgE o a b) o.D) from ⟨rfl, rfl, rfl, rfl⟩), decide_eq_true rfl]; rfl, h2⟩
      have c0 := fun x : GrownW w10 => x.cell XD.out.lt XD.out.box.c0; have c1 := fun x : GrownW w10 => x.cell XD.out.lt XD.out.box.c1; have c2 := fun x : GrownW w10 => x.cell XD.out.lt XD.out.box.c2; have c3 := fun x : GrownW w10 => x.cell XD.out.lt XD.out.box.c3; have c4 := fun x : GrownW w10 => x.cell XD.out.lt XD.out.c4
      have d0 := fun x : GrownW w10 => x.cell XE.out.lt XE.out.box.c0; have d1 := fun x : GrownW w10 => x.cell XE.out.lt XE.out.box.c1; have d2 := fun x : GrownW w10 => x.cell XE.out.lt XE.out.box.c2; have d3 := fun x : GrownW w10 => x.cell XE.out.lt XE.out.box.c3; have d4 := fun x : GrownW w10 => x.cell XE.out.lt XE.out.c4
      refine wp_region_grow_fast (by kernel_rfl) (by kernel_rfl) ?_
      repeat (go_big_quiet_step (first
        | (go_at_call 9; exact grow_call (hTo _ _ _ _ _ _ _ _))
        | (go_at_call 13; exact grow_call (hS _))))
      refine wpQuiet_nil ?_
      intro wg hw'
      obtain ⟨⟨wz, hbg⟩, hw''⟩ := hw'
      subst hw''
      clear c0 c1 c2 c3 c4 d0 d1 d2 d3 d4
      replace XD := Lib.hid (XD.out.below hbg); replace O1 := Lib.hid (owns_below O1.out hbg); replace O2 := Lib.hid (owns_below O2.out hbg); replace BC := Lib.hid (below_size BC.out hbg); replace R2 := Lib.hid (owns_below R2.out hbg)
      clear hTo hS R1 XE hbg
      have o2 := O2.out; have r2 := R2.out
      rw [HML.out] at o2 r2
      have SP := Lib.hid (Sp.mk (gm := gm) (gn := gn) ⟨_, O1.out⟩ XD.out o2 r2 BC.out (fun g e => ⟨hga g e, Nat.lt_trans (hga g e) hs8⟩))
      have HME := Lib.hid (rfl : mgM o a b = mgM o a b)
      clear o2 r2 O1 O2 XD R2 BC hga
      have hkn : (mgK o a b).length ≤ 9223372036854775807 := by
        obtain ⟨L, hL⟩ := SP.out.own
        exact (readsA_of_owns ByteArray.empty hL).n63.1
      have V6 : mgM o (⟨a.W, a.H, a.C, a.D, a', a.n, k', a.ks⟩ : TV) b = mgM o a b := rfl
      try rw [V6]
      clear V6
      rw [HML.out]
      generalize (mgK o a b).length = kk at *
      generalize w7.heap.size = g13 at *
      generalize mgM o a b = mm at *
      go_wp2_with fail
      go_loopw [20] (fun vi wr => ∃ i : Nat, i ≤ kk ∧ vi = .int .i64 i ∧ Hid (Sp wc w8.heap.size g13 (zS (mgE o a b) o.W) (zS (mgE o a b) o.H) (zS (mgE o a b) o.C) (zS (mgE o a b) o.D) ga kk ka gm km gn kn mm wr)) (fun vi _ => kk - (intOf vi).toNat)
      case atStart => exact ⟨0, Nat.zero_le _, rfl, SP⟩
      case round =>
        clear SP
        obtain ⟨i, hi, rfl, J⟩ := hrel
        have XD := Lib.hid J.out.box
        by_cases hlt : i < kk
        · have j1 : (i : Int) < kk := by omega
          have j2 : (0 : Int) ≤ i := by omega
          obtain ⟨L, hL⟩ := J.out.own
          obtain ⟨g1, rfl, _⟩ := owns_addr hL (by omega)
          have hc := ownsA_cell ByteArray.empty hL i hlt
          have hf := hL.frozenAt i
          generalize L.getD i ByteArray.empty = old at *
          clear hL
          have c0 := XD.out.box.c0; have c1 := XD.out.box.c1; have c2 := XD.out.box.c2; have c3 := XD.out.box.c3; have c4 := XD.out.c4
          go_wp2_with fail
          go_roundw
          case rel => exact ⟨i + 1, by omega, by go_num, Lib.hid (J.out.store i hlt _)⟩
          case measure => simp [intOf]; omega
        · have hin : i = kk := by omega
          have j1 : ¬ (i : Int) < kk := by omega
          have c0 := XD.out.box.c0; have c1 := XD.out.box.c1; have c2 := XD.out.box.c2; have c3 := XD.out.box.c3; have c4 := XD.out.c4
          go_upto_region 14 with (fail)
          clear c0 c1 c2 c3 c4
          have bl := J.out.bel
          replace AR := Lib.hid (AR.out.below bl); replace KC := Lib.hid (KC.out.below bl); replace XC := Lib.hid (XC.out.below bl); replace X2 := Lib.hid (X2.out.below bl); replace X3 := Lib.hid (X3.out.below bl); replace KM := Lib.hid (KM.out.below bl); replace B1 := Lib.hid (below_size B1.out bl)
          have DB := Lib.hid (readsA_of_owns false J.out.bm); have DN := Lib.hid (readsA_of_owns false J.out.bn)
          clear J XD bl X1
          have c0 := XC.out.box.c0; have c1 := XC.out.box.c1; have c2 := XC.out.box.c2; have c3 := XC.out.box.c3; have c4 := XC.out.c4
          have d0 := AR.out.bb.box.c0; have d1 := AR.out.bb.box.c1; have d2 := AR.out.bb.box.c2; have d3 := AR.out.bb.box.c3; have d4 := AR.out.bb.c4
          go_wp2_with fail
          refine (resolve_rs (⟨a.W, a.H, a.C, a.D, a', a.n, k', a.ks⟩ : TV) b am nm cm ms _ KC.out AR.out.kb KM.out).mono ?_
          rintro e w11 ⟨gs, kq, rfl, q1, b2⟩
          clear c0 c1 c2 c3 c4 d0 d1 d2 d3 d4
          replace AR := Lib.hid (AR.out.below b2); replace KC := Lib.hid (KC.out.below b2); replace XC := Lib.hid (XC.out.below b2); replace X2 := Lib.hid (X2.out.below b2); replace X3 := Lib.hid (X3.out.below b2); replace KM := Lib.hid (KM.out.below b2); replace DB := Lib.hid (DB.out.below b2); replace DN := Lib.hid (DN.out.below b2); replace B1 := Lib.hid (below_size B1.out b2)
          have S1 := Lib.hid (readsA_of_owns ByteArray.empty q1)
          clear b2 q1
          go_upto_region 15 with (fail)
          obtain ⟨w12, hw12, xt, b3⟩ := var_tree w11 (zS (rsE (⟨a.W, a.H, a.C, a.D, a', a.n, k', a.ks⟩ : TV) b nm) a.W) (zS (rsE (⟨a.W, a.H, a.C, a.D, a', a.n, k', a.ks⟩ : TV) b nm) a.H) (zS (rsE (⟨a.W, a.H, a.C, a.D, a', a.n, k', a.ks⟩ : TV) b nm) a.C) (zS (rsE (⟨a.W, a.H, a.C, a.D, a', a.n, k', a.ks⟩ : TV) b nm) a.D) gs (rsK (⟨a.W, a.H, a.C, a.D, a', a.n, k', a.ks⟩ : TV) b nm ms).length kq
          rw [hw12]
          replace AR := Lib.hid (AR.out.below b3); replace KC := Lib.hid (KC.out.below b3); replace XC := Lib.hid (XC.out.below b3); replace X2 := Lib.hid (X2.out.below b3); replace X3 := Lib.hid (X3.out.below b3); replace KM := Lib.hid (KM.out.below b3); replace DB := Lib.hid (DB.out.below b3); replace DN := Lib.hid (DN.out.below b3); replace B1 := Lib.hid (below_size B1.out b3)
          replace S1 := Lib.hid (S1.out.below b3)
          have XG := Lib.hid xt
          clear hw12 xt b3
          generalize w11.heap.size = g21 at *
          have c0 := X2.out.box.c0; have c1 := X2.out.box.c1; have c2 := X2.out.box.c2; have c3 := X2.out.box.c3; have c4 := X2.out.c4
          have d0 := X3.out.box.c0; have d1 := X3.out.box.c1; have d2 := X3.out.box.c2; have d3 := X3.out.box.c3; have d4 := X3.out.c4
          go_wp2_with fail
          refine (rresolve_rs a b am nm cm ms _ AR.out.ka AR.out.kb KM.out).mono ?_
          rintro e w13 ⟨gt, kt, rfl, q1, b2⟩
          clear c0 c1 c2 c3 c4 d0 d1 d2 d3 d4
          replace AR := Lib.hid (AR.out.below b2); replace KC := Lib.hid (KC.out.below b2); replace XC := Lib.hid (XC.out.below b2); replace X2 := Lib.hid (X2.out.below b2); replace X3 := Lib.hid (X3.out.below b2); replace KM := Lib.hid (KM.out.below b2); replace DB := Lib.hid (DB.out.below b2); replace DN := Lib.hid (DN.out.below b2); replace S1 := Lib.hid (S1.out.below b2); replace XG := Lib.hid (XG.out.below b2); replace B1 := Lib.hid (below_size B1.out b2)
          have S2 := Lib.hid (readsA_of_owns ByteArray.empty q1)
          clear b2 q1
          go_upto_region 16 with (fail)
          obtain ⟨w14, hw14, xt, b3⟩ := var_treeT 30 w13 (zS (rsE a b nm) a.W) (zS (rsE a b nm) a.H) (zS (rsE a b nm) a.C) (zS (rsE a b nm) a.D) gt (rsK a b nm ms).length kt
          rw [hw14]
          replace AR := Lib.hid (AR.out.below b3); replace KC := Lib.hid (KC.out.below b3); replace XC := Lib.hid (XC.out.below b3); replace X2 := Lib.hid (X2.out.below b3); replace X3 := Lib.hid (X3.out.below b3); replace KM := Lib.hid (KM.out.below b3); replace DB := Lib.hid (DB.out.below b3); replace DN := Lib.hid (DN.out.below b3); replace S1 := Lib.hid (S1.out.below b3); replace XG := Lib.hid (XG.out.below b3); replace S2 := Lib.hid (S2.out.below b3); replace B1 := Lib.hid (below_size B1.out b3)
          have XH := Lib.hid xt
          clear hw14 xt b3
          generalize w13.heap.size = g23 at *
          have c0 := XC.out.box.c0; have c1 := XC.out.box.c1; have c2 := XC.out.box.c2; have c3 := XC.out.box.c3; have c4 := XC.out.c4
          have d0 := AR.out.bb.box.c0; have d1 := AR.out.bb.box.c1; have d2 := AR.out.bb.box.c2; have d3 := AR.out.bb.box.c3; have d4 := AR.out.bb.c4
          go_wp2_with fail
          refine (changed_any (⟨a.W, a.H, a.C, a.D, a', a.n, k', a.ks⟩ : TV) b _ KC.out AR.out.kb).mono ?_
          rintro e w15 ⟨gu, ku, rfl, q1, b2⟩
          clear c0 c1 c2 c3 c4 d0 d1 d2 d3 d4
          replace AR := Lib.hid (AR.out.below b2); replace KC := Lib.hid (KC.out.below b2); replace XC := Lib.hid (XC.out.below b2); replace X2 := Lib.hid (X2.out.below b2); replace X3 := Lib.hid (X3.out.below b2); replace KM := Lib.hid (KM.out.below b2); replace DB := Lib.hid (DB.out.below b2); replace DN := Lib.hid (DN.out.below b2); replace S1 := Lib.hid (S1.out.below b2); replace XG := Lib.hid (XG.out.below b2); replace S2 := Lib.hid (S2.out.below b2); replace XH := Lib.hid (XH.out.below b2); replace B1 := Lib.hid (below_size B1.out b2)
          have I1 := Lib.hid q1
          clear b2 q1
          have c0 := X2.out.box.c0; have c1 := X2.out.box.c1; have c2 := X2.out.box.c2; have c3 := X2.out.box.c3; have c4 := X2.out.c4
          have d0 := X3.out.box.c0; have d1 := X3.out.box.c1; have d2 := X3.out.box.c2; have d3 := X3.out.box.c3; have d4 := X3.out.c4
          go_wp2_with fail
          refine (rdiffer_any a b _ AR.out.ka AR.out.kb).mono ?_
          rintro e w16 ⟨gv, kv, rfl, q1, b2⟩
          clear c0 c1 c2 c3 c4 d0 d1 d2 d3 d4
          replace AR := Lib.hid (AR.out.below b2); replace KC := Lib.hid (KC.out.below b2); replace XC := Lib.hid (XC.out.below b2); replace X2 := Lib.hid (X2.out.below b2); replace X3 := Lib.hid (X3.out.below b2); replace KM := Lib.hid (KM.out.below b2); replace DB := Lib.hid (DB.out.below b2); replace DN := Lib.hid (DN.out.below b2); replace S1 := Lib.hid (S1.out.below b2); replace XG := Lib.hid (XG.out.below b2); replace S2 := Lib.hid (S2.out.below b2); replace XH := Lib.hid (XH.out.below b2); replace I1 := Lib.hid (I1.out.below b2); replace B1 := Lib.hid (below_size B1.out b2)
          have I2 := Lib.hid q1
          clear b2 q1
          change Hid (Strs _ _ (rsK a b nm ms).length _ (rsK a b nm ms)) at S1
          change Hid (RBox _ _ (zS (rsE a b nm) a.W) (zS (rsE a b nm) a.H) (zS (rsE a b nm) a.C) (zS (rsE a b nm) a.D) _ (rsK a b nm ms).length _) at XG
          change Hid (Reads .i64 _ _ (chX a b).length _ (chX a b)) at I1
          have V2 : chE (⟨a.W, a.H, a.C, a.D, a', a.n, k', a.ks⟩ : TV) b = chE a b := rfl
          have V1 : rsE (⟨a.W, a.H, a.C, a.D, a', a.n, k', a.ks⟩ : TV) b nm = rsE a b nm := rfl
          have V3 : rsK (⟨a.W, a.H, a.C, a.D, a', a.n, k', a.ks⟩ : TV) b nm ms = rsK a b nm ms := rfl
          have V4 : chX (⟨a.W, a.H, a.C, a.D, a', a.n, k', a.ks⟩ : TV) b = chX a b := rfl
          have V5 : mgE o (⟨a.W, a.H, a.C, a.D, a', a.n, k', a.ks⟩ : TV) b = mgE o a b := rfl
          try rw [V5]
          try rw [V1]
          try rw [V2]
          try rw [V3]
          try rw [V4]
          clear V1 V2 V3 V4 V5
          have KS := Lib.hid KC.out.strs
          change Hid (Strs _ a' a.n k' a.ks) at KS
          generalize rsK a b nm ms = rk at *
          generalize rsE a b nm = re at *
          generalize chX a b = cx at *
          generalize chE a b = ce at *
          generalize mgE o a b = me at *
          have hF : ∀ x : GrownW w16, Calls Try.prog 7 #[] x.val fun e w' => e = .returned (.bool true) ∧ Below x.val.heap.size x.val w' := fun x => first_any x.val
          have hB : ∀ x : GrownW w16, Calls Try.prog 18 #[.slice gm kk km, .slice gn kk kn] x.val fun e w' => e = .returned (.bool true) ∧ Below x.val.heap.size x.val w' := fun x => (bools_any _ _ _ _ _ _ _ _ x.val (DB.out.below x.below) (DN.out.below x.below)).mono fun _ _ ⟨h1, h2⟩ => ⟨by rw [h1, decide_eq_true rfl], h2⟩
          have hTo : ∀ (A B C D : Int) (p : Option Addr) (k m : Nat) (x : GrownW w16), Calls Try.prog 9 #[ras A B C D p k m] x.val fun e w' => e = .returned (ras A B C D p k m) ∧ Below x.val.heap.size x.val w' := fun A B C D p k m x => toTree_any A B C D p k m x.val
          have hS1 : ∀ x : GrownW w16, Calls Try.prog 13 #[ras (zS re a.W) (zS re a.H) (zS re a.C) (zS re a.D) gs rk.length kq, ras (zS re a.W) (zS re a.H) (zS re a.C) (zS re a.D) gt rk.length kt] x.val fun e w' => e = .returned (.bool true) ∧ Below x.val.heap.size x.val w' := fun x =>
            (same_any _ _ _ _ _ _ _ _ _ _ _ _ _ _ _ _ x.val (S1.out.below x.below) (S2.out.below x.below)).mono fun _ _ ⟨h1, h2⟩ => ⟨by rw [h1, decide_eq_true (show eqS (zS re a.W) (zS re a.H) (zS re a.C) (zS re a.D) (zS re a.W) (zS re a.H) (zS re a.C) (zS re a.D) from ⟨rfl, rfl, rfl, rfl⟩), decide_eq_true rfl]; rfl, h2⟩
          have hS2 : ∀ x : GrownW w16, Calls Try.prog 13 #[ras a.W a.H a.C a.D a' a.n k', ras a.W a.H a.C a.D a.a a.n a.cap] x.val fun e w' => e = .returned (.bool true) ∧ Below x.val.heap.size x.val w' := fun x =>
            (same_any _ _ _ _ _ _ _ _ _ _ _ _ _ _ _ _ x.val (KS.out.below x.below) (AR.out.below x.below).ka.strs).mono fun _ _ ⟨h1, h2⟩ => ⟨by rw [h1, decide_eq_true (show eqS a.W a.H a.C a.D a.W a.H a.C a.D from ⟨rfl, rfl, rfl, rfl⟩), decide_eq_true rfl]; rfl, h2⟩
          have hI : ∀ x : GrownW w16, Calls Try.prog 19 #[.slice gu cx.length ku, .slice gv cx.length kv] x.val fun e w' => e = .returned (.bool true) ∧ Below x.val.heap.size x.val w' := fun x => (ints_any _ _ _ _ _ _ _ _ x.val (I1.out.below x.below) (I2.out.below x.below)).mono fun _ _ ⟨h1, h2⟩ => ⟨by rw [h1, decide_eq_true rfl], h2⟩
          have hC : ∀ x : GrownW w16, Calls Try.prog 20 #[.slice am nm cm] x.val fun e w' => e = .returned (.bool (cleanB ms)) ∧ w' = x.val := fun x => clean_any _ _ _ _ _ (KM.out.below x.below)
          have hR : ∀ x : GrownW w16, Calls Try.prog 21 #[.slice am nm cm] x.val fun e w' => e = .returned (.bool (cleanB ms)) ∧ w' = x.val := fun x => rclean_any _ _ _ _ _ (KM.out.below x.below)
          generalize cleanB ms = cb at *
          go_upto_region 18 with (fail)
          have c0 := fun x : GrownW w16 => x.cell XG.out.lt XG.out.box.c0; have c1 := fun x : GrownW w16 => x.cell XG.out.lt XG.out.box.c1; have c2 := fun x : GrownW w16 => x.cell XG.out.lt XG.out.box.c2; have c3 := fun x : GrownW w16 => x.cell XG.out.lt XG.out.box.c3; have c4 := fun x : GrownW w16 => x.cell XG.out.lt XG.out.c4
          have d0 := fun x : GrownW w16 => x.cell XH.out.lt XH.out.box.c0; have d1 := fun x : GrownW w16 => x.cell XH.out.lt XH.out.box.c1; have d2 := fun x : GrownW w16 => x.cell XH.out.lt XH.out.box.c2; have d3 := fun x : GrownW w16 => x.cell XH.out.lt XH.out.box.c3; have d4 := fun x : GrownW w16 => x.cell XH.out.lt XH.out.c4
          have e0 := fun x : GrownW w16 => x.cell XC.out.lt XC.out.box.c0; have e1 := fun x : GrownW w16 => x.cell XC.out.lt XC.out.box.c1; have e2 := fun x : GrownW w16 => x.cell XC.out.lt XC.out.box.c2; have e3 := fun x : GrownW w16 => x.cell XC.out.lt XC.out.box.c3; have e4 := fun x : GrownW w16 => x.cell XC.out.lt XC.out.c4
          have f0 := fun x : GrownW w16 => x.cell X2.out.lt X2.out.box.c0; have f1 := fun x : GrownW w16 => x.cell X2.out.lt X2.out.box.c1; have f2 := fun x : GrownW w16 => x.cell X2.out.lt X2.out.box.c2; have f3 := fun x : GrownW w16 => x.cell X2.out.lt X2.out.box.c3; have f4 := fun x : GrownW w16 => x.cell X2.out.lt X2.out.c4
          refine wp_region_grow_fast (by kernel_rfl) (by kernel_rfl) ?_
          repeat (go_big_quiet_step (first
            | (go_at_call 7; exact grow_call (hF _))
            | (go_at_call 18; with_reducible exact grow_call (hB _))
            | (go_at_call 9; exact grow_call (hTo _ _ _ _ _ _ _ _))
            | (go_at_call 13; first | with_reducible exact grow_call (hS1 _) | with_reducible exact grow_call (hS2 _))
            | (go_at_call 19; with_reducible exact grow_call (hI _))
            | (go_at_call 20; exact grow_call_same (hC _))
            | (go_at_call 21; exact grow_call_same (hR _))))
          refine wpQuiet_nil ?_
          intro wg hw'
          obtain ⟨⟨wz, hbg⟩, hw''⟩ := hw'
          subst hw''
          clear c0 c1 c2 c3 c4 d0 d1 d2 d3 d4 e0 e1 e2 e3 e4 f0 f1 f2 f3 f4
          clear hF hB hTo hS1 hS2 hI hC hR
          go_wp2_with fail
          go_returns
          exact ⟨rfl, below_size B1.out hbg⟩
end Go.Proofs.Ytbmbelnjgnahhaa
