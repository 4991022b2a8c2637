/-
  The walk of JoinResolves: three trees alike.
-/
import Derived.Test.YtbmbelnjgnahhaaJoinSidesE
import Derived.Test.YtbmbelnjgnahhaaJoinResOk
import Derived.Test.YtbmbelnjgnahhaaJoinCh
namespace Go.Proofs.Ytbmbelnjgnahhaa
open Go.RowKit

theorem mayT_mix {W H C D : Int} {ks us ls : List ByteArray} (h1 : mayT W H C D ks = true) (h2 : mayT W H C D us = true) (hl : ls.length = ks.length) (hm : ∀ k ∈ ls, k ∈ ks ∨ k ∈ us) : mayT W H C D ls = true := by
  simp only [mayT, Bool.and_eq_true, beq_iff_eq] at *
  exact ⟨⟨h1.1.1, by rw [hl]; exact h1.1.2⟩, List.all_eq_true.2 fun k hk => (hm k hk).elim (List.all_eq_true.1 h1.2 k) (List.all_eq_true.1 h2.2 k)⟩
theorem short_mix {ks us ls : List ByteArray} (h1 : Short ks) (h2 : Short us) (hl : ls.length = ks.length) (hm : ∀ k ∈ ls, k ∈ ks ∨ k ∈ us) : Short ls :=
  ⟨by rw [hl]; exact h1.1, fun k hk => (hm k hk).elim (h1.2 k) (h2.2 k)⟩
theorem kAt_mem {ks : List ByteArray} {i : Nat} (h : i < ks.length) : kAt ks i ∈ ks := by simp [kAt, List.getD, h]
theorem resKs_mem {ts us : List ByteArray} {ms : List Bool} {i : Nat} (hl : ts.length = us.length) : ∀ k ∈ resKs ts us ms i, k ∈ ts ∨ k ∈ us := by
  intro k hk
  unfold resKs at hk
  obtain ⟨j, hj, rfl⟩ := List.mem_map.1 hk
  have hj2 : j < ts.length := by simpa using hj
  split
  · unfold resK
    split
    · exact .inr (kAt_mem (by omega))
    · exact .inl (kAt_mem hj2)
  · exact .inl (kAt_mem hj2)
theorem resKs_base (ts : List ByteArray) (ms : List Bool) (n : Nat) : resKs ts ts ms n = ts := by
  refine ext_getDA ByteArray.empty (by rw [resKs_len]) fun i hi => ?_
  rw [resKs_len] at hi
  rw [resKs_getD _ _ _ _ _ hi]
  unfold resK
  repeat' split
  all_goals rfl
theorem resKs_all (ts us : List ByteArray) (ms : List Bool) (n : Nat) (h1 : ts.length = n) (h2 : us.length = n) (h : ∀ j, j < n → ms.getD j false = true) : resKs ts us ms n = us := by
  refine ext_getDA ByteArray.empty (by rw [resKs_len]; omega) fun i hi => ?_
  rw [resKs_len] at hi
  rw [resKs_getD _ _ _ _ _ hi, if_pos (by omega), h i (by omega)]
  rfl
theorem resKs_at (ts us : List ByteArray) (ms : List Bool) (n i : Nat) (h1 : ts.length = n) (hi : i < n) : kAt (resKs ts us ms n) i = resK (kAt ts i) (kAt us i) (ms.getD i false) := by
  show (resKs ts us ms n).getD i ByteArray.empty = _
  rw [resKs_getD _ _ _ _ _ (by omega), if_pos hi]
def allB (n i : Nat) : List Bool := (List.range n).map fun j => decide (j < i)
theorem allB_len (n i : Nat) : (allB n i).length = n := by simp [allB]
theorem allB_zero (n : Nat) : allB n 0 = List.replicate n false := by
  refine ext_getDA false (by simp [allB]) fun i hi => ?_
  rw [allB_len] at hi
  simp [allB, List.getD, hi]
theorem allB_getD (n i j : Nat) (h : j < n) : (allB n i).getD j false = decide (j < i) := by simp [allB, List.getD, h]
theorem allB_set (n i : Nat) : allB n (i + 1) = (allB n i).set i true := by
  refine ext_getDA false (by rw [List.length_set, allB_len, allB_len]) fun j hj => ?_
  rw [allB_len] at hj
  rw [getD_setA, allB_len, allB_getD _ _ _ hj, allB_getD _ _ _ hj]
  by_cases e : i = j
  · subst e; rw [if_pos ⟨rfl, hj⟩]; simp
  · rw [if_neg (show ¬ (i = j ∧ i < n) from fun h => e h.1)]
    exact decide_eq_decide.2 (by omega)

theorem resolve_is (W H C D : Int) (po xo co pa xa ca n pm xm cm : Nat) (oks aks : List ByteArray) (ms : List Bool) (w : World) (ho : TOk w (⟨W, H, C, D, some ⟨po, xo, Option.none⟩, n, co, oks⟩ : TV)) (ha : TOk w (⟨W, H, C, D, some ⟨pa, xa, Option.none⟩, n, ca, aks⟩ : TV)) (hms : Bls w (some ⟨pm, xm, Option.none⟩) n cm ms) (m1 : TV.may (⟨W, H, C, D, some ⟨po, xo, Option.none⟩, n, co, oks⟩ : TV) = true) (m2 : TV.may (⟨W, H, C, D, some ⟨pa, xa, Option.none⟩, n, ca, aks⟩ : TV) = true) (hn1 : 0 < n) :
    Calls Try.prog 14 #[ras W H C D (some ⟨po, xo, Option.none⟩) n co, .slice (some ⟨pm, xm, Option.none⟩) n cm, ras W H C D (some ⟨pa, xa, Option.none⟩) n ca] w fun e w' => ∃ ga k, e = .returned (.tuple #[ras W H C D (some ⟨ga, 0, Option.none⟩) n k, .int .i64 0]) ∧ Strs w' (some ⟨ga, 0, Option.none⟩) n k (resKs oks aks ms n) ∧ Below w.heap.size w w' := by
  have hl : (resKs oks aks ms n).length = n := by rw [resKs_len]; exact ho.strs.len
  refine (resolve_ok W H C D po xo co pa xa ca n pm xm cm oks aks ms w ho ha hms (by simp [m1, m2]) hn1).mono ?_
  rintro e w' ⟨a, k, rfl, o1, b⟩
  rw [hl] at o1 ⊢
  obtain ⟨ga, rfl, _⟩ := owns_addr o1 hn1
  exact ⟨ga, k, rfl, readsA_of_owns ByteArray.empty o1, b⟩
theorem two_boxes (w : World) (o a : TV) (T : TypeId) : ∃ w3, (w.alloc (.cells (treeC o) T)).alloc (.cells (treeC a) T) = w3 ∧ TBox w3 w.heap.size o ∧ TBox w3 (w.heap.size + 1) a ∧ Below w.heap.size w w3 := by
  have al := fun (w : World) (x : Obj) => (Below.refl w.heap.size w).alloc (Nat.le_refl _) x
  have b2 := rbox_alloc (w.alloc (.cells (treeC o) T)) a.W a.H a.C a.D a.a a.n a.cap T
  simp only [World.size_alloc] at b2
  exact ⟨_, rfl, (rbox_alloc w o.W o.H o.C o.D o.a o.n o.cap _).below (al _ _), b2, below_size (al _ _) (al _ _)⟩
/-- The arguments, as they lie. -/
structure ArgsR (w : World) (g : Nat) (o a : TV) (am : Option Addr) (nm cm : Nat) (ms : List Bool) : Prop where
  bo : TBox w g o
  ba : TBox w (g + 1) a
  so : Strs w o.a o.n o.cap o.ks
  sa : Strs w a.a a.n a.cap a.ks
  sm : Bls w am nm cm ms
theorem ArgsR.below {w w' : World} {g : Nat} {o a : TV} {am : Option Addr} {nm cm : Nat} {ms : List Bool} (h : ArgsR w g o a am nm cm ms) (hb : Below w.heap.size w w') : ArgsR w' g o a am nm cm ms :=
  ⟨h.bo.below hb, h.ba.below hb, h.so.below hb, h.sa.below hb, h.sm.below hb⟩
structure GotT (w : World) (g : Nat) (W H C D : Int) (n ga k : Nat) (ks : List ByteArray) : Prop where
  box : RBox w g W H C D (some ⟨ga, 0, Option.none⟩) n k
  strs : Strs w (some ⟨ga, 0, Option.none⟩) n k ks
theorem GotT.below {w w' : World} {g : Nat} {W H C D : Int} {n ga k : Nat} {ks : List ByteArray} (h : GotT w g W H C D n ga k ks) (hb : Below w.heap.size w w') : GotT w' g W H C D n ga k ks := ⟨h.box.below hb, h.strs.below hb⟩

set_option maxRecDepth 100000 in
set_option maxHeartbeats 4000000 in
theorem resolves_ok (W H C D : Int) (po xo co pa xa ca n pm xm cm : Nat) (oks aks : List ByteArray) (ms : List Bool) (w : World) (ho : TOk w (⟨W, H, C, D, some ⟨po, xo, Option.none⟩, n, co, oks⟩ : TV)) (ha : TOk w (⟨W, H, C, D, some ⟨pa, xa, Option.none⟩, n, ca, aks⟩ : TV)) (hms : Bls w (some ⟨pm, xm, Option.none⟩) n cm ms) (m1 : TV.may (⟨W, H, C, D, some ⟨po, xo, Option.none⟩, n, co, oks⟩ : TV) = true) (m2 : TV.may (⟨W, H, C, D, some ⟨pa, xa, Option.none⟩, n, ca, aks⟩ : TV) = true) (hn1 : 0 < n) :
    Calls Try.prog 5 #[TV.val (⟨W, H, C, D, some ⟨po, xo, Option.none⟩, n, co, oks⟩ : TV), TV.val (⟨W, H, C, D, some ⟨pa, xa, Option.none⟩, n, ca, aks⟩ : TV), .slice (some ⟨pm, xm, Option.none⟩) n cm] w fun e w' => e = .returned (.bool true) ∧ Below w.heap.size w w' := by
  obtain ⟨w1, hw1, x1, x2, b1⟩ := two_boxes w (⟨W, H, C, D, some ⟨po, xo, Option.none⟩, n, co, oks⟩ : TV) (⟨W, H, C, D, some ⟨pa, xa, Option.none⟩, n, ca, aks⟩ : TV) 26
  have AR := Lib.hid (ArgsR.mk x1 x2 (ho.below b1).strs (ha.below b1).strs (hms.below b1))
  have KO := Lib.hid (fun (w' : World) (h : Strs w' (some ⟨po, xo, Option.none⟩) n co oks) => (⟨ho.iW, ho.iH, ho.iC, ho.iD, h, ho.short⟩ : TOk w' (⟨W, H, C, D, some ⟨po, xo, Option.none⟩, n, co, oks⟩ : TV)))
  have KA := Lib.hid (fun (w' : World) (h : Strs w' (some ⟨pa, xa, Option.none⟩) n ca aks) => (⟨ha.iW, ha.iH, ha.iC, ha.iD, h, ha.short⟩ : TOk w' (⟨W, H, C, D, some ⟨pa, xa, Option.none⟩, n, ca, aks⟩ : TV)))
  have HO := Lib.hid m1; have HA := Lib.hid m2
  have LO := Lib.hid ho.strs.len; have LA := Lib.hid ha.strs.len
  have hl0 : oks.length = aks.length := ho.strs.len.trans ha.strs.len.symm
  have MR := Lib.hid (show mayT W H C D (resKs oks aks ms n) = true from mayT_mix m1 m2 (resKs_len _ _ _ _) (resKs_mem hl0))
  have SR := Lib.hid (show Short (resKs oks aks ms n) from short_mix ho.short ha.short (resKs_len _ _ _ _) (resKs_mem hl0))
  have KT := Lib.hid (fun (w' : World) (p k : Nat) (h : Strs w' (some ⟨p, 0, Option.none⟩) n k (resKs oks aks ms n)) => (⟨ho.iW, ho.iH, ho.iC, ho.iD, h, SR.out⟩ : TOk w' (⟨W, H, C, D, some ⟨p, 0, Option.none⟩, n, k, resKs oks aks ms n⟩ : TV)))
  have SO := Lib.hid (decide_eq_true ho.short); have SA := Lib.hid (decide_eq_true ha.short)
  have hn300 : n ≤ 300 := by have h1 := ho.short.1; have h2 := ho.strs.len; simp only at h1 h2; omega
  have EQ := Lib.hid (show decide (eqS W H C D W H C D) = true from decide_eq_true ⟨rfl, rfl, rfl, rfl⟩)
  have HW1 := Lib.hid hw1; have B1 := Lib.hid b1
  clear hw1 x1 x2 b1 ho ha hms m1 m2 hl0 SR
  go_enter Try.func5, Try.ntmps5
  go_upto_region 1 with (fail)
  rw [HW1.out]
  go_wp2_with fail
  refine (first_any _).mono ?_; rintro e w2 ⟨rfl, b2⟩
  replace AR := Lib.hid (AR.out.below b2); replace B1 := Lib.hid (below_size B1.out b2)
  clear b2
  have c0 := AR.out.bo.box.c0; have c1 := AR.out.bo.box.c1; have c2 := AR.out.bo.box.c2; have c3 := AR.out.bo.box.c3; have c4 := AR.out.bo.c4
  have d0 := AR.out.ba.box.c0; have d1 := AR.out.ba.box.c1; have d2 := AR.out.ba.box.c2; have d3 := AR.out.ba.box.c3; have d4 := AR.out.ba.c4
  go_wp2_with fail
  refine (fewTree_any _ _ _ _ _ _ _ _ _ AR.out.so).mono ?_; rintro e w2 ⟨rfl, b2⟩
  rw [SO.out]
  clear c0 c1 c2 c3 c4 d0 d1 d2 d3 d4
  replace AR := Lib.hid (AR.out.below b2); replace B1 := Lib.hid (below_size B1.out b2)
  clear b2
  have c0 := AR.out.bo.box.c0; have c1 := AR.out.bo.box.c1; have c2 := AR.out.bo.box.c2; have c3 := AR.out.bo.box.c3; have c4 := AR.out.bo.c4
  have d0 := AR.out.ba.box.c0; have d1 := AR.out.ba.box.c1; have d2 := AR.out.ba.box.c2; have d3 := AR.out.ba.box.c3; have d4 := AR.out.ba.c4
  go_wp2_with fail
  refine (fewTree_any _ _ _ _ _ _ _ _ _ AR.out.sa).mono ?_; rintro e w2 ⟨rfl, b2⟩
  rw [SA.out]
  clear c0 c1 c2 c3 c4 d0 d1 d2 d3 d4
  replace AR := Lib.hid (AR.out.below b2); replace B1 := Lib.hid (below_size B1.out b2)
  clear b2
  have h400 : ¬ (400 : Int) < n := by omega
  have c0 := AR.out.bo.box.c0; have c1 := AR.out.bo.box.c1; have c2 := AR.out.bo.box.c2; have c3 := AR.out.bo.box.c3; have c4 := AR.out.bo.c4
  have d0 := AR.out.ba.box.c0; have d1 := AR.out.ba.box.c1; have d2 := AR.out.ba.box.c2; have d3 := AR.out.ba.box.c3; have d4 := AR.out.ba.c4
  go_wp2_with fail
  refine (resolve_is W H C D po xo co pa xa ca n pm xm cm oks aks ms _ (KO.out _ AR.out.so) (KA.out _ AR.out.sa) AR.out.sm HO.out HA.out hn1).mono ?_; rintro e w2 ⟨gt, kt, rfl, t1, b2⟩
  clear c0 c1 c2 c3 c4 d0 d1 d2 d3 d4
  replace AR := Lib.hid (AR.out.below b2); replace B1 := Lib.hid (below_size B1.out b2)
  have T1 := Lib.hid t1
  clear b2 t1
  go_upto_region 6 with (fail)
  obtain ⟨w3, hw3, xt, b3⟩ := var_tree w2 W H C D (some ⟨gt, 0, Option.none⟩) n kt
  rw [hw3]
  replace AR := Lib.hid (AR.out.below b3); replace B1 := Lib.hid (below_size B1.out b3)
  have TT := Lib.hid (GotT.mk xt (T1.out.below b3))
  clear hw3 xt b3 T1
  generalize w2.heap.size = g7 at *
  have T7 := Lib.hid TT.out.box
  have c0 := AR.out.bo.box.c0; have c1 := AR.out.bo.box.c1; have c2 := AR.out.bo.box.c2; have c3 := AR.out.bo.box.c3; have c4 := AR.out.bo.c4
  have d0 := AR.out.ba.box.c0; have d1 := AR.out.ba.box.c1; have d2 := AR.out.ba.box.c2; have d3 := AR.out.ba.box.c3; have d4 := AR.out.ba.c4
  have f0 := T7.out.box.c0; have f1 := T7.out.box.c1; have f2 := T7.out.box.c2; have f3 := T7.out.box.c3; have f4 := T7.out.c4
  obtain ⟨i1, ki, kz0, kz1, kz2⟩ := info_parts infoBool
  have Ki := Lib.hid ki; have Kz0 := Lib.hid kz0; have Kz1 := Lib.hid kz1; have Kz2 := Lib.hid kz2
  clear ki kz0 kz1 kz2
  go_upto_region 11 with (at_make; refine wpList_make_full _ rfl _ _ 27 rfl w3.heap.size 4 i1 _ 1 Try.underlying27 Ki.out Kz0.out Kz1.out _ _ _ _ n rfl rfl (by first | rfl | omega) (by first | rfl | omega) (by rw [Kz2.out]; omega) (by unfold maxLen; omega) (Nat.le_refl _) ?_; intro w4 o4 g4; have b4 : Below w3.heap.size w3 w4 := (Below.refl _ _).grown g4 (Nat.le_refl _) (fun k h => nomatch h); have O4 := Lib.hid (And.intro o4 b4); clear o4 g4 b4)
  clear c0 c1 c2 c3 c4 d0 d1 d2 d3 d4 f0 f1 f2 f3 f4
  have o4 := O4.out.1
  rw [toList_madeB, ← allB_zero] at o4
  have M4 := Lib.hid o4
  have L4 := Lib.hid O4.out.2
  clear o4 O4
  go_wp2_with fail
  go_loopw [10, 11] (fun vi _ wr => ∃ i : Nat, i ≤ n ∧ vi = .int .i64 i ∧ Hid (wr.ownsRow w3.heap.size 4 1 (.slice (some ⟨w3.heap.size, 0, Option.none⟩) n n) n ((allB n i).map Value.bool) ∧ Below w3.heap.size w3 wr)) (fun vi _ _ => n - (intOf vi).toNat)
  case atStart => exact ⟨0, Nat.zero_le _, rfl, Lib.hid ⟨M4.out, L4.out⟩⟩
  case round =>
    clear M4 L4
    obtain ⟨i, hi, rfl, J⟩ := hrel
    by_cases hlt : i < n
    · have j1 : (i : Int) < n := by omega
      have j2 : (0 : Int) ≤ i := by omega
      have hmc := ownsA_cell false J.out.1 i hlt
      have hmf := J.out.1.frozenAt i
      have HNX : Hid ((wr.setCell ⟨w3.heap.size, i, Option.none⟩ (.bool true)).ownsRow w3.heap.size 4 1 (.slice (some ⟨w3.heap.size, 0, Option.none⟩) n n) n ((allB n (i + 1)).map Value.bool) ∧ Below w3.heap.size w3 (wr.setCell ⟨w3.heap.size, i, Option.none⟩ (.bool true))) := Lib.hid ⟨by rw [allB_set]; exact ownsA_set J.out.1 i true, J.out.2.setCell (Nat.le_refl _) _⟩
      have QT := Lib.hid (TT.out.below J.out.2).box
      have f0 := QT.out.box.c0; have f1 := QT.out.box.c1; have f2 := QT.out.box.c2; have f3 := QT.out.box.c3; have f4 := QT.out.c4
      go_upto_region 15 with (fail)
      clear f0 f1 f2 f3 f4 hmc hmf QT J
      obtain ⟨wx, hwx⟩ : ∃ wx, wr.setCell ⟨w3.heap.size, i, Option.none⟩ (.bool true) = wx := ⟨_, rfl⟩
      rw [hwx] at HNX ⊢
      clear hwx
      have PR := Lib.hid (AR.out.below HNX.out.2)
      have PT := Lib.hid (TT.out.below HNX.out.2)
      have PB := Lib.hid PT.out.box
      obtain ⟨_, _, hq, lm, sm⟩ := PR.out.sm.cellAt i hlt
      obtain ⟨rfl, rfl⟩ : pm = _ ∧ xm = _ := by simpa using hq
      obtain ⟨_, _, hq, lo, so⟩ := PR.out.so.cellAt i hlt
      obtain ⟨rfl, rfl⟩ : po = _ ∧ xo = _ := by simpa using hq
      obtain ⟨_, _, hq, la, sa⟩ := PR.out.sa.cellAt i hlt
      obtain ⟨rfl, rfl⟩ : pa = _ ∧ xa = _ := by simpa using hq
      obtain ⟨_, _, hq, lk, sk⟩ := PT.out.strs.cellAt i hlt
      obtain ⟨rfl, rfl⟩ : gt = _ ∧ 0 = _ := by simpa using hq
      clear hq
      rw [Nat.zero_add] at sk
      rw [show (resKs oks aks ms n).getD i ByteArray.empty = resK (kAt oks i) (kAt aks i) (ms.getD i false) from resKs_at oks aks ms n i LO.out hlt] at sk
      change _ = some (Value.string (kAt oks i)) at so
      change _ = some (Value.string (kAt aks i)) at sa
      generalize kAt oks i = o at *
      generalize kAt aks i = a at *
      generalize ms.getD i false = m at *
      have c0 := PR.out.bo.box.c0; have c1 := PR.out.bo.box.c1; have c2 := PR.out.bo.box.c2; have c3 := PR.out.bo.box.c3; have c4 := PR.out.bo.c4
      have d0 := PR.out.ba.box.c0; have d1 := PR.out.ba.box.c1; have d2 := PR.out.ba.box.c2; have d3 := PR.out.ba.box.c3; have d4 := PR.out.ba.c4
      have f0 := PB.out.box.c0; have f1 := PB.out.box.c1; have f2 := PB.out.box.c2; have f3 := PB.out.box.c3; have f4 := PB.out.c4
      have r1 := str_eq o; have r2 := str_eq a
      cases m
      all_goals
        simp only [resK, if_pos, if_neg, Bool.false_eq_true, not_false_eq_true] at sk
        go_wp2_with fail
        go_roundw
        case rel => exact ⟨i + 1, by omega, by go_num, HNX⟩
        case measure => simp [intOf]; omega
    · have hin : i = n := by omega
      have j1 : ¬ (i : Int) < n := by omega
      rw [hin] at J
      replace AR := Lib.hid (AR.out.below J.out.2); replace B1 := Lib.hid (below_size B1.out J.out.2); replace TT := Lib.hid (TT.out.below J.out.2)
      have AL := Lib.hid (readsA_of_owns false J.out.1)
      clear J hin T7
      generalize w3.heap.size = g9 at *
      have c0 := AR.out.bo.box.c0; have c1 := AR.out.bo.box.c1; have c2 := AR.out.bo.box.c2; have c3 := AR.out.bo.box.c3; have c4 := AR.out.bo.c4
      go_wp2_with fail
      refine (resolve_is W H C D po xo co po xo co n pm xm cm oks oks ms _ (KO.out _ AR.out.so) (KO.out _ AR.out.so) AR.out.sm HO.out HO.out hn1).mono ?_; rintro e w5 ⟨gx, kx, rfl, t1, b2⟩
      rw [resKs_base] at t1
      clear c0 c1 c2 c3 c4
      replace AR := Lib.hid (AR.out.below b2); replace B1 := Lib.hid (below_size B1.out b2); replace TT := Lib.hid (TT.out.below b2); replace AL := Lib.hid (AL.out.below b2)
      have T1 := Lib.hid t1
      clear b2 t1
      go_upto_region 21 with (fail)
      obtain ⟨w6, hw6, xt, b3⟩ := var_tree w5 W H C D (some ⟨gx, 0, Option.none⟩) n kx
      rw [hw6]
      replace AR := Lib.hid (AR.out.below b3); replace B1 := Lib.hid (below_size B1.out b3); replace TT := Lib.hid (TT.out.below b3); replace AL := Lib.hid (AL.out.below b3)
      have XX := Lib.hid (GotT.mk xt (T1.out.below b3))
      clear hw6 xt b3 T1
      generalize w5.heap.size = g12 at *
      have c0 := AR.out.bo.box.c0; have c1 := AR.out.bo.box.c1; have c2 := AR.out.bo.box.c2; have c3 := AR.out.bo.box.c3; have c4 := AR.out.bo.c4
      have d0 := AR.out.ba.box.c0; have d1 := AR.out.ba.box.c1; have d2 := AR.out.ba.box.c2; have d3 := AR.out.ba.box.c3; have d4 := AR.out.ba.c4
      go_wp2_with fail
      refine (resolve_is W H C D po xo co pa xa ca n g9 0 n oks aks (allB n n) _ (KO.out _ AR.out.so) (KA.out _ AR.out.sa) AL.out HO.out HA.out hn1).mono ?_; rintro e w7 ⟨gy, ky, rfl, t1, b2⟩
      rw [resKs_all oks aks (allB n n) n LO.out LA.out (fun j hj => by rw [allB_getD _ _ _ hj]; exact decide_eq_true hj)] at t1
      clear c0 c1 c2 c3 c4 d0 d1 d2 d3 d4
      replace AR := Lib.hid (AR.out.below b2); replace B1 := Lib.hid (below_size B1.out b2); replace TT := Lib.hid (TT.out.below b2); replace XX := Lib.hid (XX.out.below b2)
      have T1 := Lib.hid t1
      clear b2 t1 AL
      go_upto_region 22 with (fail)
      obtain ⟨w8, hw8, xt, b3⟩ := var_tree w7 W H C D (some ⟨gy, 0, Option.none⟩) n ky
      rw [hw8]
      replace AR := Lib.hid (AR.out.below b3); replace B1 := Lib.hid (below_size B1.out b3); replace TT := Lib.hid (TT.out.below b3); replace XX := Lib.hid (XX.out.below b3)
      have YY := Lib.hid (GotT.mk xt (T1.out.below b3))
      clear hw8 xt b3 T1
      generalize w7.heap.size = g14 at *
      have T7 := Lib.hid TT.out.box
      have c0 := AR.out.bo.box.c0; have c1 := AR.out.bo.box.c1; have c2 := AR.out.bo.box.c2; have c3 := AR.out.bo.box.c3; have c4 := AR.out.bo.c4
      have d0 := T7.out.box.c0; have d1 := T7.out.box.c1; have d2 := T7.out.box.c2; have d3 := T7.out.box.c3; have d4 := T7.out.c4
      go_wp2_with fail
      refine (changed_ok W H C D po xo co gt 0 kt n oks (resKs oks aks ms n) _ (KO.out _ AR.out.so) (KT.out _ gt kt TT.out.strs) (by simp only [List.all_cons, List.all_nil, Bool.and_true]; rw [HO.out, show TV.may (⟨W, H, C, D, some ⟨gt, 0, Option.none⟩, n, kt, resKs oks aks ms n⟩ : TV) = true from MR.out]; rfl)).mono ?_; rintro e w9 ⟨ad, kd, rfl, o9, b2⟩
      clear c0 c1 c2 c3 c4 d0 d1 d2 d3 d4
      have DR := Lib.hid (reads_of_owns o9)
      replace AR := Lib.hid (AR.out.below b2); replace B1 := Lib.hid (below_size B1.out b2); replace XX := Lib.hid (XX.out.below b2); replace YY := Lib.hid (YY.out.below b2)
      have DM := Lib.hid (fun (x : Int) => difI_mem oks (resKs oks aks ms n) n x)
      have DN := Lib.hid (difI_len oks (resKs oks aks ms n) n)
      have DK := Lib.hid (fun j (hj : j < n) => resKs_at oks aks ms n j LO.out hj)
      clear b2 o9 TT T7 MR KT
      generalize difI oks (resKs oks aks ms n) n = xs at *
      have hxn : xs.length ≤ n := DN.out
      go_wp2_with fail
      go_loopw [18] (fun vi wr => ∃ i : Nat, i ≤ xs.length ∧ vi = .int .i64 i ∧ Hid (Below w9.heap.size w9 wr)) (fun vi _ => xs.length - (intOf vi).toNat)
      case atStart => exact ⟨0, Nat.zero_le _, rfl, Lib.hid (Below.refl _ _)⟩
      case round =>
        obtain ⟨i, hi, rfl, KK⟩ := hrel
        by_cases hlt : i < xs.length
        · have j1 : (i : Int) < xs.length := by omega
          have j2 : (0 : Int) ≤ i := by omega
          obtain ⟨bd, od, rfl, hbd, hcd⟩ := (DR.out.below KK.out).cells (by omega)
          have hmem : xs.getD i 0 ∈ xs := by simp [List.getD, hlt]
          obtain ⟨j, hj, hx, hne⟩ := (DM.out _).1 hmem
          have hmj : ms.getD j false = true := by
            rw [DK.out j hj] at hne
            cases hm : ms.getD j false with
            | true => rfl
            | false => rw [hm] at hne; exact absurd rfl hne
          obtain ⟨_, _, hq, lm, sm⟩ := (AR.out.below KK.out).sm.cellAt j hj
          obtain ⟨rfl, rfl⟩ : pm = _ ∧ xm = _ := by simpa using hq
          rw [hmj] at sm
          have sd := hcd i hlt
          rw [hx] at sd
          have k1 : ¬ (j : Int) < 0 := by omega
          have k2 : ¬ (n : Int) ≤ j := by omega
          have k3 : (j : Int) < n := by omega
          have k4 : (0 : Int) ≤ j := by omega
          clear hq hmem hx hne hmj hcd
          go_wp2_with fail
          go_roundw
          case rel => exact ⟨i + 1, by omega, by go_num, KK⟩
          case measure => simp [intOf]; omega
        · have hin : i = xs.length := by omega
          have j1 : ¬ (i : Int) < xs.length := by omega
          replace AR := Lib.hid (AR.out.below KK.out); replace B1 := Lib.hid (below_size B1.out KK.out); replace XX := Lib.hid (XX.out.below KK.out); replace YY := Lib.hid (YY.out.below KK.out)
          clear DR DM DN DK KK
          have Tx := Lib.hid XX.out.box
          have Ty := Lib.hid YY.out.box
          have hF : ∀ x : GrownW wr, Calls Try.prog 7 #[] x.val fun e w' => e = .returned (.bool true) ∧ Below x.val.heap.size x.val w' := fun x => first_any x.val
          have hTo : ∀ (a : Option Addr) (k : Nat) (x : GrownW wr), Calls Try.prog 9 #[ras W H C D a n k] x.val fun e w' => e = .returned (ras W H C D a n k) ∧ Below x.val.heap.size x.val w' := fun a k x => toTree_any W H C D a n k x.val
          have hSX : ∀ x : GrownW wr, Calls Try.prog 13 #[ras W H C D (some ⟨gx, 0, Option.none⟩) n kx, ras W H C D (some ⟨po, xo, Option.none⟩) n co] x.val fun e w' => e = .returned (.bool true) ∧ Below x.val.heap.size x.val w' := fun x =>
            (same_any W H C D W H C D _ _ n kx n co oks oks x.val (XX.out.below x.below).strs (AR.out.below x.below).so).mono fun _ _ ⟨h1, h2⟩ => ⟨by rw [h1, EQ.out, decide_eq_true rfl]; rfl, h2⟩
          have hSY : ∀ x : GrownW wr, Calls Try.prog 13 #[ras W H C D (some ⟨gy, 0, Option.none⟩) n ky, ras W H C D (some ⟨pa, xa, Option.none⟩) n ca] x.val fun e w' => e = .returned (.bool true) ∧ Below x.val.heap.size x.val w' := fun x =>
            (same_any W H C D W H C D _ _ n ky n ca aks aks x.val (YY.out.below x.below).strs (AR.out.below x.below).sa).mono fun _ _ ⟨h1, h2⟩ => ⟨by rw [h1, EQ.out, decide_eq_true rfl]; rfl, h2⟩
          go_upto_region 28 with (fail)
          have c0 := fun x : GrownW wr => x.cell AR.out.bo.lt AR.out.bo.box.c0; have c1 := fun x : GrownW wr => x.cell AR.out.bo.lt AR.out.bo.box.c1; have c2 := fun x : GrownW wr => x.cell AR.out.bo.lt AR.out.bo.box.c2; have c3 := fun x : GrownW wr => x.cell AR.out.bo.lt AR.out.bo.box.c3; have c4 := fun x : GrownW wr => x.cell AR.out.bo.lt AR.out.bo.c4
          have d0 := fun x : GrownW wr => x.cell AR.out.ba.lt AR.out.ba.box.c0; have d1 := fun x : GrownW wr => x.cell AR.out.ba.lt AR.out.ba.box.c1; have d2 := fun x : GrownW wr => x.cell AR.out.ba.lt AR.out.ba.box.c2; have d3 := fun x : GrownW wr => x.cell AR.out.ba.lt AR.out.ba.box.c3; have d4 := fun x : GrownW wr => x.cell AR.out.ba.lt AR.out.ba.c4
          have f0 := fun x : GrownW wr => x.cell Tx.out.lt Tx.out.box.c0; have f1 := fun x : GrownW wr => x.cell Tx.out.lt Tx.out.box.c1; have f2 := fun x : GrownW wr => x.cell Tx.out.lt Tx.out.box.c2; have f3 := fun x : GrownW wr => x.cell Tx.out.lt Tx.out.box.c3; have f4 := fun x : GrownW wr => x.cell Tx.out.lt Tx.out.c4
          have k0 := fun x : GrownW wr => x.cell Ty.out.lt Ty.out.box.c0; have k1 := fun x : GrownW wr => x.cell Ty.out.lt Ty.out.box.c1; have k2 := fun x : GrownW wr => x.cell Ty.out.lt Ty.out.box.c2; have k3 := fun x : GrownW wr => x.cell Ty.out.lt Ty.out.box.c3; have k4 := fun x : GrownW wr => x.cell Ty.out.lt Ty.out.c4
          refine wp_region_grow_fast (by kernel_rfl) (by kernel_rfl) ?_
          repeat (go_big_quiet_step (first
            | (go_at_call 7; exact grow_call (hF _))
            | (go_at_call 9; exact grow_call (hTo _ _ _))
            | (go_at_call 13; first | with_reducible exact grow_call (hSX _) | with_reducible exact grow_call (hSY _))))
          refine wpQuiet_nil ?_
          intro wg hw'
          obtain ⟨⟨wz, hbg⟩, hw''⟩ := hw'
          subst hw''
          clear c0 c1 c2 c3 c4 d0 d1 d2 d3 d4 f0 f1 f2 f3 f4 k0 k1 k2 k3 k4 hF hTo hSX hSY
          go_wp2_with fail
          go_returns
          exact ⟨rfl, below_size B1.out hbg⟩
end Go.Proofs.Ytbmbelnjgnahhaa
