/-
  The walk of JoinSides: three trees alike in shape.
-/
import Derived.Test.YtbmbelnjgnahhaaJoinSidesP
import Derived.BigQuiet
import Derived.Test.YtbmbelnjgnahhaaFast
namespace Go.Proofs.Ytbmbelnjgnahhaa
open Go.RowKit

theorem three_boxes (w : World) (o a b : TV) (T : TypeId) : ∃ w3, ((w.alloc (.cells (treeC o) T)).alloc (.cells (treeC a) T)).alloc (.cells (treeC b) T) = w3 ∧
    TBox w3 w.heap.size o ∧ TBox w3 (w.heap.size + 1) a ∧ TBox w3 (w.heap.size + 1 + 1) b ∧ Below w.heap.size w w3 ∧ w3.heap.size = w.heap.size + 3 := by
  have al := fun (w : World) (x : Obj) => (Below.refl w.heap.size w).alloc (Nat.le_refl _) x
  have b1 := ((rbox_alloc w o.W o.H o.C o.D o.a o.n o.cap T).below (al _ (.cells (treeC a) T))).below (al _ (.cells (treeC b) T))
  have b2 := (rbox_alloc (w.alloc (.cells (treeC o) T)) a.W a.H a.C a.D a.a a.n a.cap T).below (al _ (.cells (treeC b) T))
  have b3 := rbox_alloc ((w.alloc (.cells (treeC o) T)).alloc (.cells (treeC a) T)) b.W b.H b.C b.D b.a b.n b.cap T
  simp only [World.size_alloc] at b2 b3
  exact ⟨_, rfl, b1, b2, b3, below_size (below_size (al _ _) (al _ _)) (al _ _), by simp⟩
/-- The three arguments, as they lie. -/
structure Args3 (w : World) (g : Nat) (o a b : TV) : Prop where
  bo : TBox w g o
  ba : TBox w (g + 1) a
  bb : TBox w (g + 1 + 1) b
  ko : TOk w o
  ka : TOk w a
  kb : TOk w b
theorem Args3.below {w w' : World} {g : Nat} {o a b : TV} (h : Args3 w g o a b) (hb : Below w.heap.size w w') : Args3 w' g o a b :=
  ⟨h.bo.below hb, h.ba.below hb, h.bb.below hb, h.ko.below hb, h.ka.below hb, h.kb.below hb⟩
/-- A tree that was answered, in a variable, and a mask. -/
structure Got3 (w : World) (g : Nat) (W H C D : Int) (n : Nat) (ga k : Nat) (ks : List ByteArray) (gm k2 : Nat) (ms : List Bool) : Prop where
  box : RBox w g W H C D (some ⟨ga, 0, Option.none⟩) n k
  strs : Strs w (some ⟨ga, 0, Option.none⟩) n k ks
  bls : Bls w (some ⟨gm, 0, Option.none⟩) n k2 ms
theorem Got3.below {w w' : World} {g : Nat} {W H C D : Int} {n ga k : Nat} {ks : List ByteArray} {gm k2 : Nat} {ms : List Bool} (h : Got3 w g W H C D n ga k ks gm k2 ms) (hb : Below w.heap.size w w') : Got3 w' g W H C D n ga k ks gm k2 ms :=
  ⟨h.box.below hb, h.strs.below hb, h.bls.below hb⟩
/-- A tree laid in a variable. -/
theorem var_tree (w : World) (W H C D : Int) (a : Option Addr) (n k : Nat) : ∃ w2, w.alloc (.cells #[.int .i64 W, .int .i64 H, .int .i64 C, .int .i64 D, .slice a n k] 26) = w2 ∧ RBox w2 w.heap.size W H C D a n k ∧ Below w.heap.size w w2 :=
  ⟨_, rfl, rbox_alloc w W H C D a n k _, (Below.refl _ _).alloc (Nat.le_refl _) _⟩

set_option maxRecDepth 100000 in
set_option maxHeartbeats 4000000 in
theorem sides_ok (W H C D : Int) (po xo co pa xa ca pb xb cb n : Nat) (oks aks bks : List ByteArray) (w : World) (ho : TOk w (⟨W, H, C, D, some ⟨po, xo, Option.none⟩, n, co, oks⟩ : TV)) (ha : TOk w (⟨W, H, C, D, some ⟨pa, xa, Option.none⟩, n, ca, aks⟩ : TV)) (hb : TOk w (⟨W, H, C, D, some ⟨pb, xb, Option.none⟩, n, cb, bks⟩ : TV)) (h1 : TV.may (⟨W, H, C, D, some ⟨po, xo, Option.none⟩, n, co, oks⟩ : TV) = true) (h2 : TV.may (⟨W, H, C, D, some ⟨pa, xa, Option.none⟩, n, ca, aks⟩ : TV) = true) (h3 : TV.may (⟨W, H, C, D, some ⟨pb, xb, Option.none⟩, n, cb, bks⟩ : TV) = true) (hn1 : 0 < n) :
    Calls Try.prog 4 #[TV.val (⟨W, H, C, D, some ⟨po, xo, Option.none⟩, n, co, oks⟩ : TV), TV.val (⟨W, H, C, D, some ⟨pa, xa, Option.none⟩, n, ca, aks⟩ : TV), TV.val (⟨W, H, C, D, some ⟨pb, xb, Option.none⟩, n, cb, bks⟩ : TV)] w fun e w' => e = .returned (.bool true) ∧ Below w.heap.size w w' := by
  obtain ⟨w1, hw1, x1, x2, x3, b1, s1⟩ := three_boxes w (⟨W, H, C, D, some ⟨po, xo, Option.none⟩, n, co, oks⟩ : TV) (⟨W, H, C, D, some ⟨pa, xa, Option.none⟩, n, ca, aks⟩ : TV) (⟨W, H, C, D, some ⟨pb, xb, Option.none⟩, n, cb, bks⟩ : TV) 26
  have AR := Lib.hid (Args3.mk x1 x2 x3 (ho.below b1) (ha.below b1) (hb.below b1))
  have HO := Lib.hid h1; have HA := Lib.hid h2; have HB := Lib.hid h3
  have LO := Lib.hid ho.strs.len; have LA := Lib.hid ha.strs.len; have LB := Lib.hid hb.strs.len
  have SO := Lib.hid (decide_eq_true ho.short); have SA := Lib.hid (decide_eq_true ha.short); have SB := Lib.hid (decide_eq_true hb.short)
  have HW1 := Lib.hid hw1; have B1 := Lib.hid b1
  have EQ := Lib.hid (show decide (eqS W H C D W H C D) = true from decide_eq_true ⟨rfl, rfl, rfl, rfl⟩)
  have h63 := ho.strs.n63.1
  clear hw1 x1 x2 x3 b1 s1 ho ha hb h1 h2 h3
  go_enter Try.func4, Try.ntmps4
  go_upto_region 1 with (fail)
  rw [HW1.out]
  go_wp2_with fail
  refine (first_any _).mono ?_; rintro e w2 ⟨rfl, b2⟩
  replace AR := Lib.hid (AR.out.below b2); replace B1 := Lib.hid (below_size B1.out b2)
  clear b2
  have c0 := AR.out.bo.box.c0; have c1 := AR.out.bo.box.c1; have c2 := AR.out.bo.box.c2; have c3 := AR.out.bo.box.c3; have c4 := AR.out.bo.c4
  have d0 := AR.out.ba.box.c0; have d1 := AR.out.ba.box.c1; have d2 := AR.out.ba.box.c2; have d3 := AR.out.ba.box.c3; have d4 := AR.out.ba.c4
  have e0 := AR.out.bb.box.c0; have e1 := AR.out.bb.box.c1; have e2 := AR.out.bb.box.c2; have e3 := AR.out.bb.box.c3; have e4 := AR.out.bb.c4
  go_wp2_with fail
  refine (fewTree_any _ _ _ _ _ _ _ _ _ AR.out.ko.strs).mono ?_; rintro e w2 ⟨rfl, b2⟩
  rw [SO.out]
  clear c0 c1 c2 c3 c4 d0 d1 d2 d3 d4 e0 e1 e2 e3 e4
  replace AR := Lib.hid (AR.out.below b2); replace B1 := Lib.hid (below_size B1.out b2)
  clear b2
  have c0 := AR.out.bo.box.c0; have c1 := AR.out.bo.box.c1; have c2 := AR.out.bo.box.c2; have c3 := AR.out.bo.box.c3; have c4 := AR.out.bo.c4
  have d0 := AR.out.ba.box.c0; have d1 := AR.out.ba.box.c1; have d2 := AR.out.ba.box.c2; have d3 := AR.out.ba.box.c3; have d4 := AR.out.ba.c4
  have e0 := AR.out.bb.box.c0; have e1 := AR.out.bb.box.c1; have e2 := AR.out.bb.box.c2; have e3 := AR.out.bb.box.c3; have e4 := AR.out.bb.c4
  go_wp2_with fail
  refine (fewTree_any _ _ _ _ _ _ _ _ _ AR.out.ka.strs).mono ?_; rintro e w2 ⟨rfl, b2⟩
  rw [SA.out]
  clear c0 c1 c2 c3 c4 d0 d1 d2 d3 d4 e0 e1 e2 e3 e4
  replace AR := Lib.hid (AR.out.below b2); replace B1 := Lib.hid (below_size B1.out b2)
  clear b2
  have c0 := AR.out.bo.box.c0; have c1 := AR.out.bo.box.c1; have c2 := AR.out.bo.box.c2; have c3 := AR.out.bo.box.c3; have c4 := AR.out.bo.c4
  have d0 := AR.out.ba.box.c0; have d1 := AR.out.ba.box.c1; have d2 := AR.out.ba.box.c2; have d3 := AR.out.ba.box.c3; have d4 := AR.out.ba.c4
  have e0 := AR.out.bb.box.c0; have e1 := AR.out.bb.box.c1; have e2 := AR.out.bb.box.c2; have e3 := AR.out.bb.box.c3; have e4 := AR.out.bb.c4
  go_wp2_with fail
  refine (fewTree_any _ _ _ _ _ _ _ _ _ AR.out.kb.strs).mono ?_; rintro e w2 ⟨rfl, b2⟩
  rw [SB.out]
  clear c0 c1 c2 c3 c4 d0 d1 d2 d3 d4 e0 e1 e2 e3 e4
  replace AR := Lib.hid (AR.out.below b2); replace B1 := Lib.hid (below_size B1.out b2)
  clear b2
  have c0 := AR.out.bo.box.c0; have c1 := AR.out.bo.box.c1; have c2 := AR.out.bo.box.c2; have c3 := AR.out.bo.box.c3; have c4 := AR.out.bo.c4
  have d0 := AR.out.ba.box.c0; have d1 := AR.out.ba.box.c1; have d2 := AR.out.ba.box.c2; have d3 := AR.out.ba.box.c3; have d4 := AR.out.ba.c4
  have e0 := AR.out.bb.box.c0; have e1 := AR.out.bb.box.c1; have e2 := AR.out.bb.box.c2; have e3 := AR.out.bb.box.c3; have e4 := AR.out.bb.c4
  go_wp2_with fail
  refine (merge_is W H C D po xo co pa xa ca pb xb cb n oks aks bks _ AR.out.ko AR.out.ka AR.out.kb HO.out HA.out HB.out hn1).mono ?_; rintro e w2 ⟨gt, kt, mt, lt, rfl, t1, t2, b2⟩
  clear c0 c1 c2 c3 c4 d0 d1 d2 d3 d4 e0 e1 e2 e3 e4
  replace AR := Lib.hid (AR.out.below b2); replace B1 := Lib.hid (below_size B1.out b2)
  have T1 := Lib.hid t1; have T2 := Lib.hid t2
  clear b2 t1 t2
  go_upto_region 6 with (fail)
  obtain ⟨w3, hw3, xt, b3⟩ := var_tree w2 W H C D (some ⟨gt, 0, Option.none⟩) n kt
  rw [hw3]
  replace AR := Lib.hid (AR.out.below b3); replace B1 := Lib.hid (below_size B1.out b3)
  have TT := Lib.hid (Got3.mk xt (T1.out.below b3) (T2.out.below b3))
  clear hw3 xt b3 T1 T2
  generalize w2.heap.size = g7 at *
  have c0 := AR.out.bo.box.c0; have c1 := AR.out.bo.box.c1; have c2 := AR.out.bo.box.c2; have c3 := AR.out.bo.box.c3; have c4 := AR.out.bo.c4
  have d0 := AR.out.ba.box.c0; have d1 := AR.out.ba.box.c1; have d2 := AR.out.ba.box.c2; have d3 := AR.out.ba.box.c3; have d4 := AR.out.ba.c4
  have e0 := AR.out.bb.box.c0; have e1 := AR.out.bb.box.c1; have e2 := AR.out.bb.box.c2; have e3 := AR.out.bb.box.c3; have e4 := AR.out.bb.c4
  go_wp2_with fail
  refine (merge_is W H C D po xo co pb xb cb pa xa ca n oks bks aks _ AR.out.ko AR.out.kb AR.out.ka HO.out HB.out HA.out hn1).mono ?_; rintro e w4 ⟨gu, ku, mu, lu, rfl, t1, t2, b2⟩
  clear c0 c1 c2 c3 c4 d0 d1 d2 d3 d4 e0 e1 e2 e3 e4
  replace AR := Lib.hid (AR.out.below b2); replace B1 := Lib.hid (below_size B1.out b2); replace TT := Lib.hid (TT.out.below b2)
  have T1 := Lib.hid t1; have T2 := Lib.hid t2
  clear b2 t1 t2
  go_upto_region 7 with (fail)
  obtain ⟨w5, hw5, xt, b3⟩ := var_tree w4 W H C D (some ⟨gu, 0, Option.none⟩) n ku
  rw [hw5]
  replace AR := Lib.hid (AR.out.below b3); replace B1 := Lib.hid (below_size B1.out b3); replace TT := Lib.hid (TT.out.below b3)
  have UU := Lib.hid (Got3.mk xt (T1.out.below b3) (T2.out.below b3))
  clear hw5 xt b3 T1 T2
  generalize w4.heap.size = g10 at *
  go_wp2_with fail
  refine (bools_any _ _ _ _ _ _ _ _ _ TT.out.bls UU.out.bls).mono ?_; rintro e w6 ⟨rfl, b2⟩
  rw [decide_eq_true (mergeMs_comm oks aks bks n LA.out LB.out).symm]
  replace AR := Lib.hid (AR.out.below b2); replace B1 := Lib.hid (below_size B1.out b2); replace TT := Lib.hid (TT.out.below b2); replace UU := Lib.hid (UU.out.below b2)
  clear b2
  have c0 := AR.out.bo.box.c0; have c1 := AR.out.bo.box.c1; have c2 := AR.out.bo.box.c2; have c3 := AR.out.bo.box.c3; have c4 := AR.out.bo.c4
  have d0 := AR.out.ba.box.c0; have d1 := AR.out.ba.box.c1; have d2 := AR.out.ba.box.c2; have d3 := AR.out.ba.box.c3; have d4 := AR.out.ba.c4
  have e0 := AR.out.bb.box.c0; have e1 := AR.out.bb.box.c1; have e2 := AR.out.bb.box.c2; have e3 := AR.out.bb.box.c3; have e4 := AR.out.bb.c4
  go_wp2_with fail
  refine (merge_is W H C D po xo co pa xa ca po xo co n oks aks oks _ AR.out.ko AR.out.ka AR.out.ko HO.out HA.out HO.out hn1).mono ?_; rintro e w7 ⟨gx, kx, mx, lx, rfl, t1, t2, b2⟩
  rw [mergeKs_base oks aks n LA.out] at t1
  clear c0 c1 c2 c3 c4 d0 d1 d2 d3 d4 e0 e1 e2 e3 e4
  replace AR := Lib.hid (AR.out.below b2); replace B1 := Lib.hid (below_size B1.out b2); replace TT := Lib.hid (TT.out.below b2); replace UU := Lib.hid (UU.out.below b2)
  have T1 := Lib.hid t1; have T2 := Lib.hid t2
  clear b2 t1 t2
  go_upto_region 12 with (fail)
  obtain ⟨w8, hw8, xt, b3⟩ := var_tree w7 W H C D (some ⟨gx, 0, Option.none⟩) n kx
  rw [hw8]
  replace AR := Lib.hid (AR.out.below b3); replace B1 := Lib.hid (below_size B1.out b3); replace TT := Lib.hid (TT.out.below b3); replace UU := Lib.hid (UU.out.below b3)
  have XX := Lib.hid (Got3.mk xt (T1.out.below b3) (T2.out.below b3))
  clear hw8 xt b3 T1 T2
  generalize w7.heap.size = g13 at *
  have c0 := AR.out.bo.box.c0; have c1 := AR.out.bo.box.c1; have c2 := AR.out.bo.box.c2; have c3 := AR.out.bo.box.c3; have c4 := AR.out.bo.c4
  have d0 := AR.out.ba.box.c0; have d1 := AR.out.ba.box.c1; have d2 := AR.out.ba.box.c2; have d3 := AR.out.ba.box.c3; have d4 := AR.out.ba.c4
  have e0 := AR.out.bb.box.c0; have e1 := AR.out.bb.box.c1; have e2 := AR.out.bb.box.c2; have e3 := AR.out.bb.box.c3; have e4 := AR.out.bb.c4
  go_wp2_with fail
  refine (merge_is W H C D po xo co po xo co pb xb cb n oks oks bks _ AR.out.ko AR.out.ko AR.out.kb HO.out HO.out HB.out hn1).mono ?_; rintro e w9 ⟨gy, ky, my, ly, rfl, t1, t2, b2⟩
  rw [mergeKs_base2 oks bks n LO.out LB.out] at t1
  clear c0 c1 c2 c3 c4 d0 d1 d2 d3 d4 e0 e1 e2 e3 e4
  replace AR := Lib.hid (AR.out.below b2); replace B1 := Lib.hid (below_size B1.out b2); replace TT := Lib.hid (TT.out.below b2); replace UU := Lib.hid (UU.out.below b2); replace XX := Lib.hid (XX.out.below b2)
  have T1 := Lib.hid t1; have T2 := Lib.hid t2
  clear b2 t1 t2
  go_upto_region 13 with (fail)
  obtain ⟨w10, hw10, xt, b3⟩ := var_tree w9 W H C D (some ⟨gy, 0, Option.none⟩) n ky
  rw [hw10]
  replace AR := Lib.hid (AR.out.below b3); replace B1 := Lib.hid (below_size B1.out b3); replace TT := Lib.hid (TT.out.below b3); replace UU := Lib.hid (UU.out.below b3); replace XX := Lib.hid (XX.out.below b3)
  have YY := Lib.hid (Got3.mk xt (T1.out.below b3) (T2.out.below b3))
  clear hw10 xt b3 T1 T2
  generalize w9.heap.size = g16 at *
  have Tx := Lib.hid XX.out.box
  have Ty := Lib.hid YY.out.box
  have Tt := Lib.hid TT.out.box
  have hCX : ∀ x : GrownW w10, Calls Try.prog 20 #[.slice (some ⟨mx, 0, Option.none⟩) n lx] x.val fun e w' => e = .returned (.bool true) ∧ w' = x.val := fun x => by
    rw [← clean_base oks aks n LA.out]; exact clean_any _ _ _ _ _ (XX.out.below x.below).bls
  have hCY : ∀ x : GrownW w10, Calls Try.prog 20 #[.slice (some ⟨my, 0, Option.none⟩) n ly] x.val fun e w' => e = .returned (.bool true) ∧ w' = x.val := fun x => by
    rw [← clean_base2 oks bks n LO.out]; exact clean_any _ _ _ _ _ (YY.out.below x.below).bls
  have hTo : ∀ (a : Option Addr) (k : Nat) (x : GrownW w10), Calls Try.prog 9 #[ras W H C D a n k] x.val fun e w' => e = .returned (ras W H C D a n k) ∧ Below x.val.heap.size x.val w' := fun a k x => toTree_any W H C D a n k x.val
  have hSX : ∀ x : GrownW w10, Calls Try.prog 13 #[ras W H C D (some ⟨gx, 0, Option.none⟩) n kx, ras W H C D (some ⟨pa, xa, Option.none⟩) n ca] x.val fun e w' => e = .returned (.bool true) ∧ Below x.val.heap.size x.val w' := fun x =>
    (same_any W H C D W H C D _ _ n kx n ca aks aks x.val (XX.out.below x.below).strs (AR.out.below x.below).ka.strs).mono fun _ _ ⟨h1, h2⟩ => ⟨by rw [h1, EQ.out, decide_eq_true rfl]; rfl, h2⟩
  have hSY : ∀ x : GrownW w10, Calls Try.prog 13 #[ras W H C D (some ⟨gy, 0, Option.none⟩) n ky, ras W H C D (some ⟨pb, xb, Option.none⟩) n cb] x.val fun e w' => e = .returned (.bool true) ∧ Below x.val.heap.size x.val w' := fun x =>
    (same_any W H C D W H C D _ _ n ky n cb bks bks x.val (YY.out.below x.below).strs (AR.out.below x.below).kb.strs).mono fun _ _ ⟨h1, h2⟩ => ⟨by rw [h1, EQ.out, decide_eq_true rfl]; rfl, h2⟩
  have c0 := fun x : GrownW w10 => x.cell AR.out.bo.lt AR.out.bo.box.c0; have c1 := fun x : GrownW w10 => x.cell AR.out.bo.lt AR.out.bo.box.c1; have c2 := fun x : GrownW w10 => x.cell AR.out.bo.lt AR.out.bo.box.c2; have c3 := fun x : GrownW w10 => x.cell AR.out.bo.lt AR.out.bo.box.c3; have c4 := fun x : GrownW w10 => x.cell AR.out.bo.lt AR.out.bo.c4
  have d0 := fun x : GrownW w10 => x.cell AR.out.ba.lt AR.out.ba.box.c0; have d1 := fun x : GrownW w10 => x.cell AR.out.ba.lt AR.out.ba.box.c1; have d2 := fun x : GrownW w10 => x.cell AR.out.ba.lt AR.out.ba.box.c2; have d3 := fun x : GrownW w10 => x.cell AR.out.ba.lt AR.out.ba.box.c3; have d4 := fun x : GrownW w10 => x.cell AR.out.ba.lt AR.out.ba.c4
  have e0 := fun x : GrownW w10 => x.cell AR.out.bb.lt AR.out.bb.box.c0; have e1 := fun x : GrownW w10 => x.cell AR.out.bb.lt AR.out.bb.box.c1; have e2 := fun x : GrownW w10 => x.cell AR.out.bb.lt AR.out.bb.box.c2; have e3 := fun x : GrownW w10 => x.cell AR.out.bb.lt AR.out.bb.box.c3; have e4 := fun x : GrownW w10 => x.cell AR.out.bb.lt AR.out.bb.c4
  have f0 := fun x : GrownW w10 => x.cell Tx.out.lt Tx.out.box.c0; have f1 := fun x : GrownW w10 => x.cell Tx.out.lt Tx.out.box.c1; have f2 := fun x : GrownW w10 => x.cell Tx.out.lt Tx.out.box.c2; have f3 := fun x : GrownW w10 => x.cell Tx.out.lt Tx.out.box.c3; have f4 := fun x : GrownW w10 => x.cell Tx.out.lt Tx.out.c4
  have k0 := fun x : GrownW w10 => x.cell Ty.out.lt Ty.out.box.c0; have k1 := fun x : GrownW w10 => x.cell Ty.out.lt Ty.out.box.c1; have k2 := fun x : GrownW w10 => x.cell Ty.out.lt Ty.out.box.c2; have k3 := fun x : GrownW w10 => x.cell Ty.out.lt Ty.out.box.c3; have k4 := fun x : GrownW w10 => x.cell Ty.out.lt Ty.out.c4
  have u0 := fun x : GrownW w10 => x.cell Tt.out.lt Tt.out.box.c0; have u1 := fun x : GrownW w10 => x.cell Tt.out.lt Tt.out.box.c1; have u2 := fun x : GrownW w10 => x.cell Tt.out.lt Tt.out.box.c2; have u3 := fun x : GrownW w10 => x.cell Tt.out.lt Tt.out.box.c3; have u4 := fun x : GrownW w10 => x.cell Tt.out.lt Tt.out.c4
  refine wp_region_grow_fast (by kernel_rfl) (by kernel_rfl) ?_
  simp only [List.append_eq, List.cons_append, List.nil_append]
  repeat (go_big_quiet_step (first
    | (go_at_call 20; first | with_reducible exact grow_call_same (hCX _) | with_reducible exact grow_call_same (hCY _))
    | (go_at_call 9; exact grow_call (hTo _ _ _))
    | (go_at_call 13; first | with_reducible exact grow_call (hSX _) | with_reducible exact grow_call (hSY _))))
  refine wpQuiet_nil ?_
  intro wg hw'
  obtain ⟨⟨wz, hbg⟩, hw''⟩ := hw'
  subst hw''
  clear hCX hCY hTo hSX hSY c0 c1 c2 c3 c4 d0 d1 d2 d3 d4 e0 e1 e2 e3 e4 f0 f1 f2 f3 f4 k0 k1 k2 k3 k4 u0 u1 u2 u3 u4 Tx Ty Tt
  have HBG := Lib.hid hbg
  replace AR := Lib.hid (AR.out.below hbg); replace B1 := Lib.hid (below_size B1.out hbg); replace TT := Lib.hid (TT.out.below hbg); replace UU := Lib.hid (UU.out.below hbg)
  clear hbg XX YY HBG
  go_wp2_with fail
  go_loopw [19, 20] (fun vi _ wr => ∃ i : Nat, i ≤ n ∧ vi = .int .i64 i ∧ Hid (Below wg.heap.size wg wr)) (fun vi _ _ => n - (intOf vi).toNat)
  case atStart => exact ⟨0, Nat.zero_le _, rfl, Lib.hid (Below.refl _ _)⟩
  case round =>
    obtain ⟨i, hi, rfl, KK⟩ := hrel
    replace AR := Lib.hid (AR.out.below KK.out); replace B1 := Lib.hid (below_size B1.out KK.out); replace TT := Lib.hid (TT.out.below KK.out); replace UU := Lib.hid (UU.out.below KK.out)
    have T7 := Lib.hid TT.out.box
    by_cases hlt : i < n
    · have j1 : (i : Int) < n := by omega
      have j2 : (0 : Int) ≤ i := by omega
      obtain ⟨_, _, hq, lb, sb⟩ := AR.out.kb.strs.cellAt i hlt
      obtain ⟨rfl, rfl⟩ : pb = _ ∧ xb = _ := by simpa using hq
      obtain ⟨_, _, hq, lo, so⟩ := AR.out.ko.strs.cellAt i hlt
      obtain ⟨rfl, rfl⟩ : po = _ ∧ xo = _ := by simpa using hq
      obtain ⟨_, _, hq, la, sa⟩ := AR.out.ka.strs.cellAt i hlt
      obtain ⟨rfl, rfl⟩ : pa = _ ∧ xa = _ := by simpa using hq
      obtain ⟨_, _, hq, lk, sk⟩ := TT.out.strs.cellAt i hlt
      obtain ⟨rfl, rfl⟩ : gt = _ ∧ 0 = _ := by simpa using hq
      obtain ⟨_, _, hq, lm, sm⟩ := TT.out.bls.cellAt i hlt
      obtain ⟨rfl, rfl⟩ : mt = _ ∧ 0 = _ := by simpa using hq
      clear hq
      rw [Nat.zero_add] at sk sm
      rw [show (mergeKs oks aks bks n).getD i ByteArray.empty = mergeK (kAt oks i) (kAt aks i) (kAt bks i) from mergeKs_at oks aks bks n i LA.out hlt] at sk
      rw [show (mergeMs oks aks bks n).getD i false = mergeM (kAt oks i) (kAt aks i) (kAt bks i) from mergeMs_at oks aks bks n i LA.out hlt] at sm
      change _ = some (Value.string (kAt bks i)) at sb
      change _ = some (Value.string (kAt oks i)) at so
      change _ = some (Value.string (kAt aks i)) at sa
      generalize kAt bks i = b at *
      generalize kAt oks i = o at *
      generalize kAt aks i = a at *
      have h0 := T7.out.box.c0; have h1 := T7.out.box.c1; have h2 := T7.out.box.c2; have h3 := T7.out.box.c3; have h4 := T7.out.c4
      clear h0 h1 h2 h3
      have c0 := fun x : GrownW wr => x.cell AR.out.bo.lt AR.out.bo.box.c0; have c1 := fun x : GrownW wr => x.cell AR.out.bo.lt AR.out.bo.box.c1; have c2 := fun x : GrownW wr => x.cell AR.out.bo.lt AR.out.bo.box.c2; have c3 := fun x : GrownW wr => x.cell AR.out.bo.lt AR.out.bo.box.c3; have c4 := fun x : GrownW wr => x.cell AR.out.bo.lt AR.out.bo.c4
      have d0 := fun x : GrownW wr => x.cell AR.out.ba.lt AR.out.ba.box.c0; have d1 := fun x : GrownW wr => x.cell AR.out.ba.lt AR.out.ba.box.c1; have d2 := fun x : GrownW wr => x.cell AR.out.ba.lt AR.out.ba.box.c2; have d3 := fun x : GrownW wr => x.cell AR.out.ba.lt AR.out.ba.box.c3; have d4 := fun x : GrownW wr => x.cell AR.out.ba.lt AR.out.ba.c4
      have e0 := fun x : GrownW wr => x.cell AR.out.bb.lt AR.out.bb.box.c0; have e1 := fun x : GrownW wr => x.cell AR.out.bb.lt AR.out.bb.box.c1; have e2 := fun x : GrownW wr => x.cell AR.out.bb.lt AR.out.bb.box.c2; have e3 := fun x : GrownW wr => x.cell AR.out.bb.lt AR.out.bb.box.c3; have e4 := fun x : GrownW wr => x.cell AR.out.bb.lt AR.out.bb.c4
      have f0 := fun x : GrownW wr => x.cell T7.out.lt T7.out.box.c0; have f1 := fun x : GrownW wr => x.cell T7.out.lt T7.out.box.c1; have f2 := fun x : GrownW wr => x.cell T7.out.lt T7.out.box.c2; have f3 := fun x : GrownW wr => x.cell T7.out.lt T7.out.box.c3; have f4 := fun x : GrownW wr => x.cell T7.out.lt T7.out.c4
      clear c0 c1 c2 c3 d0 d1 d2 d3 e0 e1 e2 e3 f0 f1 f2 f3
      have gb := fun x : GrownW wr => x.cell lb sb
      have go := fun x : GrownW wr => x.cell lo so
      have ga := fun x : GrownW wr => x.cell la sa
      by_cases hbo : b = o
      · subst hbo
        rw [show mergeK b a b = a from by simp [mergeK]] at sk
        rw [show mergeM b a b = false from by simp [mergeM]] at sm
        have gk := fun x : GrownW wr => x.cell lk sk
        have gm := fun x : GrownW wr => x.cell lm sm
        clear lb sb lo so la sa lk lm sm
        by_cases hao : a = b
        · subst hao
          have r1 := str_eq a
          go_wp2_with fail
          refine wp_region_grow_fast (by kernel_rfl) (by kernel_rfl) ?_
          repeat (go_big_quiet_step (fail))
          refine wpQuiet_nil ?_
          intro wg hw'
          obtain ⟨⟨wz, hbg⟩, hw''⟩ := hw'
          subst hw''
          clear gb go ga gk gm c4 d4 e4 f4
          go_wp2_with fail
          go_roundw
          case rel => exact ⟨i + 1, by omega, by go_num, Lib.hid (below_size KK.out hbg)⟩
          case measure => simp [intOf]; omega
        · have r1 := str_eq b; have r2 := str_eq a; have r3 := str_ne hao; have r4 := str_ne (fun h => hao h.symm)
          go_wp2_with fail
          refine wp_region_grow_fast (by kernel_rfl) (by kernel_rfl) ?_
          repeat (go_big_quiet_step (fail))
          refine wpQuiet_nil ?_
          intro wg hw'
          obtain ⟨⟨wz, hbg⟩, hw''⟩ := hw'
          subst hw''
          clear gb go ga gk gm c4 d4 e4 f4
          go_wp2_with fail
          go_roundw
          case rel => exact ⟨i + 1, by omega, by go_num, Lib.hid (below_size KK.out hbg)⟩
          case measure => simp [intOf]; omega
      · by_cases hab : b = a
        · subst hab
          rw [show mergeK o b b = b from by simp [mergeK]] at sk
          rw [show mergeM o b b = false from by simp [mergeM]] at sm
          have gk := fun x : GrownW wr => x.cell lk sk
          have gm := fun x : GrownW wr => x.cell lm sm
          clear lb sb lo so la sa lk lm sm
          have r1 := str_eq b; have r2 := str_eq o; have r3 := str_ne hbo; have r4 := str_ne (fun h => hbo h.symm)
          go_wp2_with fail
          refine wp_region_grow_fast (by kernel_rfl) (by kernel_rfl) ?_
          repeat (go_big_quiet_step (fail))
          refine wpQuiet_nil ?_
          intro wg hw'
          obtain ⟨⟨wz, hbg⟩, hw''⟩ := hw'
          subst hw''
          clear gb go ga gk gm c4 d4 e4 f4
          go_wp2_with fail
          go_roundw
          case rel => exact ⟨i + 1, by omega, by go_num, Lib.hid (below_size KK.out hbg)⟩
          case measure => simp [intOf]; omega
        · by_cases hao : a = o
          · subst hao
            rw [show mergeK a a b = b from by simp [mergeK, hab]] at sk
            rw [show mergeM a a b = false from by simp [mergeM]] at sm
            have gk := fun x : GrownW wr => x.cell lk sk
            have gm := fun x : GrownW wr => x.cell lm sm
            clear lb sb lo so la sa lk lm sm
            have r1 := str_eq b; have r2 := str_eq a; have r3 := str_ne hab; have r4 := str_ne (fun h => hab h.symm)
            go_wp2_with fail
            refine wp_region_grow_fast (by kernel_rfl) (by kernel_rfl) ?_
            repeat (go_big_quiet_step (fail))
            refine wpQuiet_nil ?_
            intro wg hw'
            obtain ⟨⟨wz, hbg⟩, hw''⟩ := hw'
            subst hw''
            clear gb go ga gk gm c4 d4 e4 f4
            go_wp2_with fail
            go_roundw
            case rel => exact ⟨i + 1, by omega, by go_num, Lib.hid (below_size KK.out hbg)⟩
            case measure => simp [intOf]; omega
          · rw [show mergeK o a b = a from by simp [mergeK, hab, hbo, hao]] at sk
            rw [show mergeM o a b = true from by simp [mergeM, hab, hbo, hao]] at sm
            have gk := fun x : GrownW wr => x.cell lk sk
            have gm := fun x : GrownW wr => x.cell lm sm
            clear lb sb lo so la sa lk lm sm
            have r1 := str_eq b; have r2 := str_eq a; have r3 := str_ne hab; have r4 := str_ne (fun h => hab h.symm); have r5 := str_ne hbo; have r6 := str_ne (fun h => hbo h.symm); have r7 := str_ne hao; have r8 := str_ne (fun h => hao h.symm)
            go_wp2_with fail
            refine wp_region_grow_fast (by kernel_rfl) (by kernel_rfl) ?_
            repeat (go_big_quiet_step (fail))
            refine wpQuiet_nil ?_
            intro wg hw'
            obtain ⟨⟨wz, hbg⟩, hw''⟩ := hw'
            subst hw''
            clear gb go ga gk gm c4 d4 e4 f4
            go_wp2_with fail
            go_roundw
            case rel => exact ⟨i + 1, by omega, by go_num, Lib.hid (below_size KK.out hbg)⟩
            case measure => simp [intOf]; omega
    · have hin : i = n := by omega
      have j1 : ¬ (i : Int) < n := by omega
      have HC : Hid (cleanB (mergeMs oks aks bks n) = true → mergeKs oks aks bks n = mergeKs oks bks aks n) := Lib.hid fun h => mergeKs_comm oks aks bks n LA.out LB.out h
      have T8 := Lib.hid UU.out.box
      have hF : ∀ x : GrownW wr, Calls Try.prog 7 #[] x.val fun e w' => e = .returned (.bool true) ∧ Below x.val.heap.size x.val w' := fun x => first_any x.val
      have hK : ∀ x : GrownW wr, Calls Try.prog 20 #[.slice (some ⟨mt, 0, Option.none⟩) n lt] x.val fun e w' => e = .returned (.bool (cleanB (mergeMs oks aks bks n))) ∧ w' = x.val := fun x => clean_any _ _ _ _ _ (TT.out.below x.below).bls
      have hTo : ∀ (a : Option Addr) (k : Nat) (x : GrownW wr), Calls Try.prog 9 #[ras W H C D a n k] x.val fun e w' => e = .returned (ras W H C D a n k) ∧ Below x.val.heap.size x.val w' := fun a k x => toTree_any W H C D a n k x.val
      have hS : ∀ x : GrownW wr, Calls Try.prog 13 #[ras W H C D (some ⟨gt, 0, Option.none⟩) n kt, ras W H C D (some ⟨gu, 0, Option.none⟩) n ku] x.val fun e w' => e = .returned (.bool (decide (mergeKs oks aks bks n = mergeKs oks bks aks n))) ∧ Below x.val.heap.size x.val w' := fun x =>
        (same_any W H C D W H C D _ _ n kt n ku _ _ x.val (TT.out.below x.below).strs (UU.out.below x.below).strs).mono fun _ _ ⟨h1, h2⟩ => ⟨by rw [h1, EQ.out]; rfl, h2⟩
      generalize cleanB (mergeMs oks aks bks n) = cb at *
      have h0 := T7.out.box.c0; have h1 := T7.out.box.c1; have h2 := T7.out.box.c2; have h3 := T7.out.box.c3; have h4 := T7.out.c4
      clear h0 h1 h2 h3
      go_upto_region 21 with (fail)
      clear h4
      have c0 := fun x : GrownW wr => x.cell T7.out.lt T7.out.box.c0; have c1 := fun x : GrownW wr => x.cell T7.out.lt T7.out.box.c1; have c2 := fun x : GrownW wr => x.cell T7.out.lt T7.out.box.c2; have c3 := fun x : GrownW wr => x.cell T7.out.lt T7.out.box.c3; have c4 := fun x : GrownW wr => x.cell T7.out.lt T7.out.c4
      have d0 := fun x : GrownW wr => x.cell T8.out.lt T8.out.box.c0; have d1 := fun x : GrownW wr => x.cell T8.out.lt T8.out.box.c1; have d2 := fun x : GrownW wr => x.cell T8.out.lt T8.out.box.c2; have d3 := fun x : GrownW wr => x.cell T8.out.lt T8.out.box.c3; have d4 := fun x : GrownW wr => x.cell T8.out.lt T8.out.c4
      cases cb with
      | false =>
        clear hS
        refine wp_region_grow_lit (by kernel_rfl) (by kernel_rfl) ?_
        repeat (go_big_quiet_step (first
          | (go_at_call 7; exact grow_call (hF _))
          | (go_at_call 20; exact grow_call_same (hK _))))
        refine wpQuiet_nil ?_
        intro wg hw'
        obtain ⟨⟨wz, hbg⟩, hw''⟩ := hw'
        subst hw''
        clear c0 c1 c2 c3 c4 d0 d1 d2 d3 d4 hF hK hTo
        go_wp2_with fail
        go_returns
        exact ⟨rfl, below_size B1.out hbg⟩
      | true =>
        rw [decide_eq_true (HC.out rfl)] at hS
        refine wp_region_grow_lit (by kernel_rfl) (by kernel_rfl) ?_
        repeat (go_big_quiet_step (first
          | (go_at_call 7; exact grow_call (hF _))
          | (go_at_call 20; exact grow_call_same (hK _))
          | (go_at_call 9; exact grow_call (hTo _ _ _))
          | (go_at_call 13; with_reducible exact grow_call (hS _))))
        refine wpQuiet_nil ?_
        intro wg hw'
        obtain ⟨⟨wz, hbg⟩, hw''⟩ := hw'
        subst hw''
        clear c0 c1 c2 c3 c4 d0 d1 d2 d3 d4 hF hK hTo hS
        go_wp2_with fail
        go_returns
        exact ⟨rfl, below_size B1.out hbg⟩
end Go.Proofs.Ytbmbelnjgnahhaa
