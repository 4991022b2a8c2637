/-
  The walk of JoinChanges.
-/
import Derived.Test.YtbmbelnjgnahhaaJoinCsP
namespace Go.Proofs.Ytbmbelnjgnahhaa
open Go.RowKit

theorem toList_madeI (n : Nat) : (madeCells (Value.int .i64 0).cells (n * 1)).toList = (List.replicate n 0).map (Value.int .i64) := by
  have hz : (Value.int .i64 0).cells = #[Value.int .i64 0] := rfl
  rw [hz, Nat.mul_one, toList_madeCells_one]; simp
set_option maxRecDepth 100000 in
set_option maxHeartbeats 4000000 in
theorem changes_walk (o a b : TV) (w : World) (ho : TOk w o) (ha : TOk w a) (hb : TOk w b) :
    Calls Try.prog 6 #[o.val, a.val, b.val] w fun e w' => e = .returned (.bool true) ∧ Below w.heap.size w w' := by
  obtain ⟨w1, hw1, x1, x2, x3, b1, s1⟩ := three_boxes w o a b 26
  have AR := Lib.hid (Args3.mk x1 x2 x3 (ho.below b1) (ha.below b1) (hb.below b1))
  have SO := Lib.hid (decide_eq_true ho.short); have SA := Lib.hid (decide_eq_true ha.short); have SB := Lib.hid (decide_eq_true hb.short)
  have X2 := Lib.hid (chX_comm ha hb)
  have HW1 := Lib.hid hw1; have B1 := Lib.hid b1
  clear hw1 x1 x2 x3 b1 s1 ho ha hb
  go_enter Try.func6, Try.ntmps6
  go_upto_region 1 with (fail)
  rw [HW1.out]
  go_wp2_with fail
  refine (first_any _).mono ?_; rintro e w2 ⟨rfl, b2⟩
  replace AR := Lib.hid (AR.out.below b2); replace B1 := Lib.hid (below_size B1.out b2)
  clear b2
  have c0 := AR.out.bo.box.c0; have c1 := AR.out.bo.box.c1; have c2 := AR.out.bo.box.c2; have c3 := AR.out.bo.box.c3; have c4 := AR.out.bo.c4
  have d0 := AR.out.ba.box.c0; have d1 := AR.out.ba.box.c1; have d2 := AR.out.ba.box.c2; have d3 := AR.out.ba.box.c3; have d4 := AR.out.ba.c4
  have e0 := AR.out.bb.box.c0; have e1 := AR.out.bb.box.c1; have e2 := AR.out.bb.box.c2; have e3 := AR.out.bb.box.c3; have e4 := AR.out.bb.c4
  go_wp2_with fail
  refine (fewTree_any _ _ _ _ _ _ _ _ _ AR.out.ko.strs).mono ?_; rintro e w2 ⟨rfl, b2⟩
  rw [SO.out]
  clear c0 c1 c2 c3 c4 d0 d1 d2 d3 d4 e0 e1 e2 e3 e4
  replace AR := Lib.hid (AR.out.below b2); replace B1 := Lib.hid (below_size B1.out b2)
  clear b2
  have c0 := AR.out.bo.box.c0; have c1 := AR.out.bo.box.c1; have c2 := AR.out.bo.box.c2; have c3 := AR.out.bo.box.c3; have c4 := AR.out.bo.c4
  have d0 := AR.out.ba.box.c0; have d1 := AR.out.ba.box.c1; have d2 := AR.out.ba.box.c2; have d3 := AR.out.ba.box.c3; have d4 := AR.out.ba.c4
  have e0 := AR.out.bb.box.c0; have e1 := AR.out.bb.box.c1; have e2 := AR.out.bb.box.c2; have e3 := AR.out.bb.box.c3; have e4 := AR.out.bb.c4
  go_wp2_with fail
  refine (fewTree_any _ _ _ _ _ _ _ _ _ AR.out.ka.strs).mono ?_; rintro e w2 ⟨rfl, b2⟩
  rw [SA.out]
  clear c0 c1 c2 c3 c4 d0 d1 d2 d3 d4 e0 e1 e2 e3 e4
  replace AR := Lib.hid (AR.out.below b2); replace B1 := Lib.hid (below_size B1.out b2)
  clear b2
  have c0 := AR.out.bo.box.c0; have c1 := AR.out.bo.box.c1; have c2 := AR.out.bo.box.c2; have c3 := AR.out.bo.box.c3; have c4 := AR.out.bo.c4
  have d0 := AR.out.ba.box.c0; have d1 := AR.out.ba.box.c1; have d2 := AR.out.ba.box.c2; have d3 := AR.out.ba.box.c3; have d4 := AR.out.ba.c4
  have e0 := AR.out.bb.box.c0; have e1 := AR.out.bb.box.c1; have e2 := AR.out.bb.box.c2; have e3 := AR.out.bb.box.c3; have e4 := AR.out.bb.c4
  go_wp2_with fail
  refine (fewTree_any _ _ _ _ _ _ _ _ _ AR.out.kb.strs).mono ?_; rintro e w2 ⟨rfl, b2⟩
  rw [SB.out]
  clear c0 c1 c2 c3 c4 d0 d1 d2 d3 d4 e0 e1 e2 e3 e4
  replace AR := Lib.hid (AR.out.below b2); replace B1 := Lib.hid (below_size B1.out b2)
  clear b2
  have c0 := AR.out.bo.box.c0; have c1 := AR.out.bo.box.c1; have c2 := AR.out.bo.box.c2; have c3 := AR.out.bo.box.c3; have c4 := AR.out.bo.c4
  have d0 := AR.out.ba.box.c0; have d1 := AR.out.ba.box.c1; have d2 := AR.out.ba.box.c2; have d3 := AR.out.ba.box.c3; have d4 := AR.out.ba.c4
  have e0 := AR.out.bb.box.c0; have e1 := AR.out.bb.box.c1; have e2 := AR.out.bb.box.c2; have e3 := AR.out.bb.box.c3; have e4 := AR.out.bb.c4
  go_wp2_with fail
  refine (changed_any a b _ AR.out.ka AR.out.kb).mono ?_; rintro e w2 ⟨q1, l1, rfl, rd1, b2⟩
  clear c0 c1 c2 c3 c4 d0 d1 d2 d3 d4 e0 e1 e2 e3 e4
  replace AR := Lib.hid (AR.out.below b2); replace B1 := Lib.hid (below_size B1.out b2)
  have R1 := Lib.hid rd1
  clear b2 rd1
  have c0 := AR.out.bo.box.c0; have c1 := AR.out.bo.box.c1; have c2 := AR.out.bo.box.c2; have c3 := AR.out.bo.box.c3; have c4 := AR.out.bo.c4
  have d0 := AR.out.ba.box.c0; have d1 := AR.out.ba.box.c1; have d2 := AR.out.ba.box.c2; have d3 := AR.out.ba.box.c3; have d4 := AR.out.ba.c4
  have e0 := AR.out.bb.box.c0; have e1 := AR.out.bb.box.c1; have e2 := AR.out.bb.box.c2; have e3 := AR.out.bb.box.c3; have e4 := AR.out.bb.c4
  go_wp2_with fail
  refine (changed_any b a _ AR.out.kb AR.out.ka).mono ?_; rintro e w2 ⟨q2, l2, rfl, rd2, b2⟩
  clear c0 c1 c2 c3 c4 d0 d1 d2 d3 d4 e0 e1 e2 e3 e4
  rw [← X2.out] at rd2 ⊢
  rw [chE_comm b a]
  replace AR := Lib.hid (AR.out.below b2); replace B1 := Lib.hid (below_size B1.out b2); replace R1 := Lib.hid (R1.out.below b2)
  have R2 := Lib.hid rd2
  clear b2 rd2
  have d0 := AR.out.ba.box.c0; have d1 := AR.out.ba.box.c1; have d2 := AR.out.ba.box.c2; have d3 := AR.out.ba.box.c3; have d4 := AR.out.ba.c4
  go_wp2_with fail
  refine (changed_any a a _ AR.out.ka AR.out.ka).mono ?_; rintro e w2 ⟨q3, l3, rfl, rd3, b2⟩
  clear d0 d1 d2 d3 d4
  rw [chX_self, chE_self]
  replace AR := Lib.hid (AR.out.below b2); replace B1 := Lib.hid (below_size B1.out b2); replace R1 := Lib.hid (R1.out.below b2); replace R2 := Lib.hid (R2.out.below b2)
  clear b2 rd3
  have IN := Lib.hid (fun w' (h1 : Reads .i64 w' q1 (chX a b).length l1 (chX a b)) (h2 : Reads .i64 w' q2 (chX a b).length l2 (chX a b)) => ints_any q1 q2 _ l1 _ l2 (chX a b) (chX a b) w' h1 h2)
  generalize chX a b = cs at *
  generalize chE a b = er at *
  have MA := Lib.hid (fun w' (h : TOk w' a) => rtreeMay_any a.W a.H a.C a.D a.a a.n a.cap a.ks w' h.iH h.strs h.short)
  obtain ⟨am, ham⟩ : ∃ am, a.may = am := ⟨_, rfl⟩
  have HAM := Lib.hid ham
  rw [ham]
  change Hid (∀ w' (h : TOk w' a), Calls _ _ _ w' fun e w'' => e = .returned (.bool a.may) ∧ _) at MA
  rw [ham] at MA
  clear ham
  obtain ⟨e3, he3⟩ : ∃ e3 : Int, (if am = true then (0 : Int) else 4) = e3 := ⟨_, rfl⟩
  rw [he3]
  have h30 : (e3 == 0) = am := by subst he3; cases am <;> rfl
  clear he3
  go_wp2_with fail
  refine (IN.out _ R1.out R2.out).mono ?_; rintro e w3 ⟨rfl, b2⟩
  rw [show decide True = true from rfl]
  replace AR := Lib.hid (AR.out.below b2); replace B1 := Lib.hid (below_size B1.out b2)
  clear b2 R1 R2 IN
  have d0 := AR.out.ba.box.c0; have d1 := AR.out.ba.box.c1; have d2 := AR.out.ba.box.c2; have d3 := AR.out.ba.box.c3; have d4 := AR.out.ba.c4
  go_wp2_with fail
  refine (toTree_any _ _ _ _ _ _ _ _).mono ?_; rintro e w4 ⟨rfl, b2⟩
  clear d0 d1 d2 d3 d4
  replace AR := Lib.hid (AR.out.below b2); replace B1 := Lib.hid (below_size B1.out b2)
  clear b2
  go_wp2_with fail
  refine (MA.out _ AR.out.ka).mono ?_; rintro e w5 ⟨rfl, b2⟩
  replace AR := Lib.hid (AR.out.below b2); replace B1 := Lib.hid (below_size B1.out b2)
  clear b2 MA
  have c0 := AR.out.bo.box.c0; have c1 := AR.out.bo.box.c1; have c2 := AR.out.bo.box.c2; have c3 := AR.out.bo.box.c3; have c4 := AR.out.bo.c4
  have d0 := AR.out.ba.box.c0; have d1 := AR.out.ba.box.c1; have d2 := AR.out.ba.box.c2; have d3 := AR.out.ba.box.c3; have d4 := AR.out.ba.c4
  have e0 := AR.out.bb.box.c0; have e1 := AR.out.bb.box.c1; have e2 := AR.out.bb.box.c2; have e3 := AR.out.bb.box.c3; have e4 := AR.out.bb.c4
  go_wp2_with fail
  by_cases hall : [o, a, b].all TV.may = true ∧ o.alike a ∧ o.alike b
  case neg =>
    refine (merge_err o a b _ AR.out.ko AR.out.ka AR.out.kb hall).mono ?_; rintro e w6 ⟨er2, h0, rfl, b2⟩
    clear c0 c1 c2 c3 c4 d0 d1 d2 d3 d4 e0 e1 e2 e3 e4
    have h1 : ¬ er2 = 0 := by simpa using h0
    replace B1 := Lib.hid (below_size B1.out b2)
    clear b2 AR
    go_upto_region 11 with (fail)
    obtain ⟨w7, hw7, xt, b3⟩ := var_tree w6 0 0 0 0 Option.none 0 0
    rw [hw7]
    replace B1 := Lib.hid (below_size B1.out b3)
    clear hw7 xt b3
    go_wp2_with fail
    refine (first_any _).mono ?_; rintro e w8 ⟨rfl, b2⟩
    go_wp2_with fail
    go_returns
    exact ⟨rfl, below_size B1.out b2⟩
  obtain ⟨hm, k1, k2⟩ := hall
  simp only [List.all_cons, List.all_nil, Bool.and_true, Bool.and_eq_true] at hm
  obtain ⟨m1, m2, m3⟩ := hm
  have N1 := n_of_may AR.out.ko AR.out.ka m1 m2 k1
  have N2 := n_of_may AR.out.ko AR.out.kb m1 m3 k2
  have LO := Lib.hid AR.out.ko.strs.len
  have LA := Lib.hid (AR.out.ka.strs.len.trans N1.1.symm)
  have LB := Lib.hid (AR.out.kb.strs.len.trans N2.1.symm)
  have hn300 : o.n ≤ 300 := by have h1 := AR.out.ko.short.1; have h2 := AR.out.ko.strs.len; omega
  have hp := N1.2
  refine (merge_alike o a b _ AR.out.ko AR.out.ka AR.out.kb m1 m2 m3 k1 k2).mono ?_; rintro e w6 ⟨gt, kt, gm, lm, rfl, t1, t2, b2⟩
  clear c0 c1 c2 c3 c4 d0 d1 d2 d3 d4 e0 e1 e2 e3 e4
  have HE := Lib.hid (show chE o a = 0 ∧ chE o b = 0 from ⟨chE_ok m1 m2 k1, chE_ok m1 m3 k2⟩)
  have HX := Lib.hid (show chX o a = difI o.ks a.ks o.n ∧ chX o b = difI o.ks b.ks o.n by unfold chX; rw [if_pos HE.out.1, if_pos HE.out.2]; exact ⟨rfl, rfl⟩)
  replace AR := Lib.hid (AR.out.below b2); replace B1 := Lib.hid (below_size B1.out b2)
  have TK := Lib.hid (show ∀ w', Strs w' (some ⟨gt, 0, Option.none⟩) o.n kt (mergeKs o.ks a.ks b.ks o.n) → TOk w' (⟨o.W, o.H, o.C, o.D, some ⟨gt, 0, Option.none⟩, o.n, kt, mergeKs o.ks a.ks b.ks o.n⟩ : TV) from fun w' h =>
    ⟨AR.out.ko.iW, AR.out.ko.iH, AR.out.ko.iC, AR.out.ko.iD, h, short_mix AR.out.ka.short AR.out.kb.short (mergeKs_len _ _ _ _) (mergeKs_mem LA.out LB.out)⟩)
  have MT := Lib.hid (show TV.may (⟨o.W, o.H, o.C, o.D, some ⟨gt, 0, Option.none⟩, o.n, kt, mergeKs o.ks a.ks b.ks o.n⟩ : TV) = true by
    have q2 : mayT o.W o.H o.C o.D a.ks = true := by rw [k1.1, k1.2.1, k1.2.2.1, k1.2.2.2]; exact m2
    have q3 : mayT o.W o.H o.C o.D b.ks = true := by rw [k2.1, k2.2.1, k2.2.2.1, k2.2.2.2]; exact m3
    exact mayT_mix q2 q3 (mergeKs_len _ _ _ _) (mergeKs_mem LA.out LB.out))
  have HT := Lib.hid (show chE o (⟨o.W, o.H, o.C, o.D, some ⟨gt, 0, Option.none⟩, o.n, kt, mergeKs o.ks a.ks b.ks o.n⟩ : TV) = 0 ∧ chX o (⟨o.W, o.H, o.C, o.D, some ⟨gt, 0, Option.none⟩, o.n, kt, mergeKs o.ks a.ks b.ks o.n⟩ : TV) = difI o.ks (mergeKs o.ks a.ks b.ks o.n) o.n by
    have e := chE_ok m1 MT.out (o := o) ⟨rfl, rfl, rfl, rfl⟩
    refine ⟨e, ?_⟩
    unfold chX; rw [if_pos e])
  have T1 := Lib.hid t1; have T2 := Lib.hid t2
  clear b2 t1 t2 m1 m2 m3 k1 k2 N1 N2
  go_upto_region 11 with (fail)
  obtain ⟨w7, hw7, xt, b3⟩ := var_tree w6 o.W o.H o.C o.D (some ⟨gt, 0, Option.none⟩) o.n kt
  rw [hw7]
  replace AR := Lib.hid (AR.out.below b3); replace B1 := Lib.hid (below_size B1.out b3)
  have TT := Lib.hid (Got3.mk xt (T1.out.below b3) (T2.out.below b3))
  clear hw7 xt b3 T1 T2
  generalize w6.heap.size = g13 at *
  go_wp2_with fail
  refine (clean_any _ _ _ _ _ TT.out.bls).mono ?_; rintro e w8 ⟨rfl, rfl⟩
  cases hcl : cleanB (mergeMs o.ks a.ks b.ks o.n) with
  | false =>
    clear hcl
    go_wp2_with fail
    refine (first_any _).mono ?_; rintro e w8 ⟨rfl, b2⟩
    go_wp2_with fail
    go_returns
    exact ⟨rfl, below_size B1.out b2⟩
  | true =>
    have DM := Lib.hid (fun x => dif_merged (x := x) LA.out hcl)
    have DJ := Lib.hid (fun x => difI_mem o.ks (mergeKs o.ks a.ks b.ks o.n) o.n x)
    clear hcl
    have T7 := Lib.hid TT.out.box
    have c0 := AR.out.bo.box.c0; have c1 := AR.out.bo.box.c1; have c2 := AR.out.bo.box.c2; have c3 := AR.out.bo.box.c3; have c4 := AR.out.bo.c4
    have d0 := T7.out.box.c0; have d1 := T7.out.box.c1; have d2 := T7.out.box.c2; have d3 := T7.out.box.c3; have d4 := T7.out.c4
    go_wp2_with fail
    refine (changed_any o (⟨o.W, o.H, o.C, o.D, some ⟨gt, 0, Option.none⟩, o.n, kt, mergeKs o.ks a.ks b.ks o.n⟩ : TV) _ AR.out.ko (TK.out _ TT.out.strs)).mono ?_; rintro e w8 ⟨q1, l1, rfl, rd1, b2⟩
    rw [HT.out.1, HT.out.2]
    rw [HT.out.2] at rd1
    clear c0 c1 c2 c3 c4 d0 d1 d2 d3 d4
    replace AR := Lib.hid (AR.out.below b2); replace B1 := Lib.hid (below_size B1.out b2)
    have R1 := Lib.hid rd1
    clear b2 rd1 T7 TT TK MT HT
    have c0 := AR.out.bo.box.c0; have c1 := AR.out.bo.box.c1; have c2 := AR.out.bo.box.c2; have c3 := AR.out.bo.box.c3; have c4 := AR.out.bo.c4
    have d0 := AR.out.ba.box.c0; have d1 := AR.out.ba.box.c1; have d2 := AR.out.ba.box.c2; have d3 := AR.out.ba.box.c3; have d4 := AR.out.ba.c4
    go_wp2_with fail
    refine (changed_any o a _ AR.out.ko AR.out.ka).mono ?_; rintro e w9 ⟨q2, l2, rfl, rd1, b2⟩
    rw [HE.out.1, HX.out.1]
    rw [HX.out.1] at rd1
    clear c0 c1 c2 c3 c4 d0 d1 d2 d3 d4
    replace AR := Lib.hid (AR.out.below b2); replace B1 := Lib.hid (below_size B1.out b2); replace R1 := Lib.hid (R1.out.below b2)
    have R2 := Lib.hid rd1
    clear b2 rd1
    have c0 := AR.out.bo.box.c0; have c1 := AR.out.bo.box.c1; have c2 := AR.out.bo.box.c2; have c3 := AR.out.bo.box.c3; have c4 := AR.out.bo.c4
    have d0 := AR.out.bb.box.c0; have d1 := AR.out.bb.box.c1; have d2 := AR.out.bb.box.c2; have d3 := AR.out.bb.box.c3; have d4 := AR.out.bb.c4
    go_wp2_with fail
    refine (changed_any o b _ AR.out.ko AR.out.kb).mono ?_; rintro e w10 ⟨q3, l3, rfl, rd1, b2⟩
    rw [HE.out.2, HX.out.2]
    rw [HX.out.2] at rd1
    clear c0 c1 c2 c3 c4 d0 d1 d2 d3 d4
    replace AR := Lib.hid (AR.out.below b2); replace B1 := Lib.hid (below_size B1.out b2); replace R1 := Lib.hid (R1.out.below b2); replace R2 := Lib.hid (R2.out.below b2)
    have R3 := Lib.hid rd1
    clear b2 rd1 HE HX
    have CN := Lib.hid (fun i => difI_count o.ks (mergeKs o.ks a.ks b.ks o.n) i)
    have LX := difI_len o.ks a.ks o.n
    have LY := difI_len o.ks b.ks o.n
    have LZ := difI_len o.ks (mergeKs o.ks a.ks b.ks o.n) o.n
    generalize mergeKs o.ks a.ks b.ks o.n = mks at *
    generalize difI o.ks a.ks o.n = xs at *
    generalize difI o.ks b.ks o.n = ys at *
    obtain ⟨i1, ki, kz0, kz1, kz2⟩ := info_parts infoInt
    have Ki := Lib.hid ki; have Kz0 := Lib.hid kz0; have Kz1 := Lib.hid kz1; have Kz2 := Lib.hid kz2
    clear ki kz0 kz1 kz2
    have c0 := AR.out.bo.box.c0; have c1 := AR.out.bo.box.c1; have c2 := AR.out.bo.box.c2; have c3 := AR.out.bo.box.c3; have c4 := AR.out.bo.c4
    go_upto_region 17 with (at_make; refine wpList_make_full _ rfl _ _ 43 rfl w10.heap.size 3 i1 _ 1 Try.underlying43 Ki.out Kz0.out Kz1.out _ _ _ _ o.n rfl rfl (by first | rfl | omega) (by first | rfl | omega) (by rw [Kz2.out]; omega) (by unfold maxLen; omega) (Nat.le_refl _) ?_; intro w11 o4 g4; have b4 : Below w10.heap.size w10 w11 := (Below.refl _ _).grown g4 (Nat.le_refl _) (fun k h => nomatch h); have O4 := Lib.hid (And.intro o4 b4); clear o4 g4 b4)
    clear c0 c1 c2 c3 c4
    have o4 := O4.out.1
    rw [toList_madeI] at o4
    have M4 := Lib.hid o4
    have L4 := Lib.hid O4.out.2
    clear o4 O4 Ki Kz0 Kz1 Kz2
    go_wp2_with fail
    go_loopw [23, 24] (fun vi _ wr => ∃ i : Nat, i ≤ xs.length + ys.length ∧ vi = .int .i64 i ∧ Hid (∃ L, Marks o.n ((xs ++ ys).take i) L ∧ wr.ownsRow w10.heap.size 3 1 (.slice (some ⟨w10.heap.size, 0, Option.none⟩) o.n o.n) o.n (L.map (Value.int .i64)) ∧ Below w10.heap.size w10 wr)) (fun vi _ _ => xs.length + ys.length - (intOf vi).toNat)
    case atStart => exact ⟨0, Nat.zero_le _, rfl, Lib.hid ⟨_, marks_nil _, M4.out, L4.out⟩⟩
    case round =>
      clear M4 L4
      obtain ⟨i, hi, rfl, J⟩ := hrel
      by_cases hlt : i < xs.length + ys.length
      · have j1 : (i : Int) < (xs.length : Int) + ys.length := by omega
        obtain ⟨L, hM, hO, hB⟩ := J.out
        have hmem : (xs ++ ys).getD i 0 ∈ xs ++ ys := by
          have hl : i < (xs ++ ys).length := by simpa using hlt
          rw [List.getD, List.getElem?_eq_getElem hl]; exact List.getElem_mem hl
        obtain ⟨j, hj, hx, _⟩ := (DJ.out _).1 ((DM.out _).2 hmem)
        have hM2 := marks_snoc hM j hj
        rw [← hx, ← take_getDA 0 (xs ++ ys) i (by simpa using hlt)] at hM2
        have NX : Hid (∃ L', Marks o.n ((xs ++ ys).take (i + 1)) L' ∧ (wr.setCell ⟨w10.heap.size, j, Option.none⟩ (.int .i64 1)).ownsRow w10.heap.size 3 1 (.slice (some ⟨w10.heap.size, 0, Option.none⟩) o.n o.n) o.n (L'.map (Value.int .i64)) ∧ Below w10.heap.size w10 (wr.setCell ⟨w10.heap.size, j, Option.none⟩ (.int .i64 1))) := Lib.hid ⟨_, hM2, ownsA_set hO j 1, hB.setCell (Nat.le_refl _) _⟩
        have hmc := ownsA_cell 0 hO j hj
        have hmf := hO.frozenAt j
        have g1 : ¬ (j : Int) < 0 := by omega
        have g2 : ¬ (o.n : Int) ≤ j := by omega
        have g3 : (j : Int) < o.n := by omega
        have g4 : (0 : Int) ≤ j := by omega
        have g5 : (0 : Int) ≤ i := by omega
        by_cases hA : i < xs.length
        · have a1 : (i : Int) < xs.length := by omega
          obtain ⟨b2, o2, rfl, hb2, hc2⟩ := (R2.out.below hB).cells (by omega)
          have sd := hc2 i hA
          rw [show xs.getD i 0 = (j : Int) by rw [← hx, List.getD, List.getD, List.getElem?_append_left hA]] at sd
          clear hM hO hB hmem hx hM2 hc2 J
          go_wp2_with fail
          go_roundw
          case rel => exact ⟨i + 1, by omega, by go_num, NX⟩
          case measure => simp [intOf]; omega
        · have a1 : ¬ (i : Int) < xs.length := by omega
          obtain ⟨b2, o2, rfl, hb2, hc2⟩ := (R3.out.below hB).cells (by omega)
          obtain ⟨q, rfl⟩ : ∃ q, i = xs.length + q := ⟨i - xs.length, by omega⟩
          have sd := hc2 q (by omega)
          rw [show ys.getD q 0 = (j : Int) by rw [← hx, List.getD, List.getD, List.getElem?_append_right (by omega)]; congr 3; omega] at sd
          have a2 : (q : Int) < ys.length := by omega
          have a3 : (0 : Int) ≤ q := by omega
          have a4 : ((xs.length + q : Nat) : Int) - xs.length = q := by omega
          clear hM hO hB hmem hx hM2 hc2 J
          go_wp2_with fail
          go_roundw
          case rel => exact ⟨xs.length + q + 1, by omega, by first | go_num | (congr 1; omega), NX⟩
          case measure => simp [intOf]; omega
      · have hin : i = xs.length + ys.length := by omega
        have j1 : ¬ (i : Int) < (xs.length : Int) + ys.length := by omega
        obtain ⟨L, hM, hO, hB⟩ := J.out
        rw [hin, List.take_of_length_le (by simp)] at hM
        have ML : Hid (∀ j, j < o.n → L.getD j 0 = if kAt o.ks j = kAt mks j then 0 else 1) := Lib.hid fun j hj => by
          rw [hM.at_ j hj]
          by_cases hk : kAt o.ks j = kAt mks j
          · rw [if_pos hk, if_neg fun hmem => ?_]
            obtain ⟨j', hj', e, hne⟩ := (DJ.out _).1 ((DM.out _).2 hmem)
            have : j = j' := by omega
            subst this
            exact hne hk
          · rw [if_neg hk, if_pos ((DM.out _).1 ((DJ.out _).2 ⟨j, hj, rfl, hk⟩))]
        have RL := Lib.hid (reads_of_owns hO)
        replace B1 := Lib.hid (below_size B1.out hB); replace R1 := Lib.hid (R1.out.below hB)
        clear hM hO hB J R2 R3 AR
        generalize w10.heap.size = gm2 at *
        go_wp2_with fail
        have hp0 : 0 < o.n := hp
        obtain ⟨bL, oL, hqL, hbL, hcL⟩ := RL.out.cells hp0
        obtain ⟨rfl, rfl⟩ : gm2 = bL ∧ 0 = oL := by simpa using hqL
        clear hqL
        go_loop [25, 26] (fun acc vi => ∃ i : Nat, i ≤ o.n ∧ vi = .int .i64 i ∧ acc = .int .i64 ((difI o.ks mks i).length : Nat)) (fun _ vi => o.n - (intOf vi).toNat)
        case atStart => exact ⟨0, Nat.zero_le _, rfl, rfl⟩
        case round =>
          obtain ⟨i, hi, rfl, rfl⟩ := hrel
          have hcnt := difI_len o.ks mks i
          by_cases hlt : i < o.n
          · have j1 : (i : Int) < o.n := by omega
            have j2 : (0 : Int) ≤ i := by omega
            have sd := hcL i hlt
            rw [ML.out i hlt, Nat.zero_add] at sd
            have CI := Lib.hid (CN.out i)
            generalize (difI o.ks mks i).length = c at *
            by_cases hk : kAt o.ks i = kAt mks i
            · rw [if_pos hk] at sd
              have HK := Lib.hid hk
              clear hk
              go_wp2_with fail
              go_round
              case rel => exact ⟨i + 1, by omega, by go_num, by rw [CI.out, if_pos HK.out]; first | go_num | simp⟩
              case measure => simp [intOf]; omega
            · rw [if_neg hk] at sd
              have HK := Lib.hid hk
              clear hk
              go_wp2_with fail
              go_round
              case rel => exact ⟨i + 1, by omega, by go_num, by rw [CI.out, if_neg HK.out]; first | go_num | simp⟩
              case measure => simp [intOf]; omega
          · have hin2 : i = o.n := by omega
            have j1' : ¬ (i : Int) < o.n := by omega
            subst hin2
            generalize difI o.ks mks o.n = zs at *
            go_wp2_with fail
            go_loop [27] (fun vi => ∃ i : Nat, i ≤ zs.length ∧ vi = .int .i64 i) (fun vi => zs.length - (intOf vi).toNat)
            case atStart => exact ⟨0, Nat.zero_le _, rfl⟩
            case round =>
              obtain ⟨i, hi, rfl⟩ := hrel
              by_cases hlt : i < zs.length
              · have j2 : (i : Int) < zs.length := by omega
                have j3 : (0 : Int) ≤ i := by omega
                obtain ⟨b2, o2, rfl, hb2, hc2⟩ := R1.out.cells (by omega)
                have hmem : zs.getD i 0 ∈ zs := by simp [List.getD, hlt]
                obtain ⟨j, hj, hx, hne⟩ := (DJ.out _).1 hmem
                have sd := hc2 i hlt
                rw [hx] at sd
                have sm := hcL j hj
                rw [ML.out j hj, if_neg hne, Nat.zero_add] at sm
                have g1 : ¬ (j : Int) < 0 := by omega
                have g2 : ¬ (o.n : Int) ≤ j := by omega
                have g3 : (j : Int) < o.n := by omega
                have g4 : (0 : Int) ≤ j := by omega
                clear hmem hx hne hc2
                go_wp2_with fail
                go_round
                case rel => exact ⟨i + 1, by omega, by go_num⟩
                case measure => simp [intOf]; omega
              · have hin3 : i = zs.length := by omega
                have j2 : ¬ (i : Int) < zs.length := by omega
                go_wp2_with fail
                refine (first_any _).mono ?_; rintro e w12 ⟨rfl, b2⟩
                go_wp2_with fail
                go_returns
                exact ⟨rfl, below_size B1.out b2⟩
end Go.Proofs.Ytbmbelnjgnahhaa
