/-
  aquref9.Join: the tiles of a picture put together, the document's way.
-/
import Derived.Test.YtdmaoaclhaofbaaTileJoinPure
import Derived.Test.YtdmaoaclhaofbaaOut
import Derived.Test.YtdmaoaclhaofbaaTileRefOk
import Derived.Test.YtdmaoaclhaofbaaAquref
namespace Go.Proofs.Ytdmaoaclhaofbaa
open Go.RowKit

set_option maxRecDepth 100000 in
set_option maxHeartbeats 2000000 in
theorem rjoin_not (W H C D : Int) (a : Option Addr) (b off n cap : Nat) (ts : List Til) (w : World) (ha : 0 < n → a = some ⟨b, off, Option.none⟩) (hr : RL w b off n cap ts) (hH : -9223372036854775808 ≤ H ∧ H ≤ 9223372036854775807) (hm : mayN W H C D = false) :
    Calls Try.prog 21 #[shp W H C D, .slice a n cap] w (RetRas w 0 0 0 0 [] 4) := by
  have hM := fun w' => rgrid_not W H C D w' hH hm
  have HM := Lib.hid hM
  clear hM hr ha hm
  have bl : Below w.heap.size w ((w.alloc (.cells #[.int .i64 W, .int .i64 H, .int .i64 C, .int .i64 D] 23)).alloc (.cells #[.int .i64 0, .int .i64 0, .int .i64 0, .int .i64 0, .slice Option.none 0 0] 26)) := ((Below.refl _ _).alloc (Nat.le_refl _) _).alloc (by simp) _
  have bx := Lib.hid ((box_alloc w W H C D 23).below ((Below.refl _ _).alloc (Nat.le_refl _) (.cells #[.int .i64 0, .int .i64 0, .int .i64 0, .int .i64 0, .slice Option.none 0 0] 26)))
  have bs0 := rbox_alloc (w.alloc (.cells #[.int .i64 W, .int .i64 H, .int .i64 C, .int .i64 D] 23)) 0 0 0 0 Option.none 0 0 26
  rw [World.size_alloc] at bs0
  have by_ := Lib.hid bs0
  have B := Lib.hid bl
  go_enter Try.func21, Try.ntmps21
  go_wp2_with fail
  generalize ((w.alloc (.cells #[.int .i64 W, .int .i64 H, .int .i64 C, .int .i64 D] 23)).alloc (.cells #[.int .i64 0, .int .i64 0, .int .i64 0, .int .i64 0, .slice Option.none 0 0] 26)) = v0 at *
  clear bl bs0
  refine (HM.out _).mono ?_; rintro e w1 ⟨rfl, bb⟩
  replace B := Lib.hid (below_size B.out bb)
  replace bx := Lib.hid (bx.out.below bb)
  replace by_ := Lib.hid (by_.out.below bb)
  clear bb
  have d0 := by_.out.box.c0; have d1 := by_.out.box.c1; have d2 := by_.out.box.c2; have d3 := by_.out.box.c3; have d4 := by_.out.c4; have f0 := by_.out.box.f0; have f1 := by_.out.box.f1; have f2 := by_.out.box.f2; have f3 := by_.out.box.f3; have f4 := by_.out.f4
  go_wp2_with fail
  refine bodyPost_ret (results_ras rfl _ _ _ rfl (by_.out.set 0 0 0 0 Option.none 0 0)) rfl ?_
  exact retRas_err (((((B.out.setCell (by simp) _).setCell (by simp) _).setCell (by simp) _).setCell (by simp) _).setCell (by simp) _)

set_option maxRecDepth 100000 in
set_option maxHeartbeats 2000000 in
theorem rjoin_len (W H C D : Int) (a : Option Addr) (b off n cap : Nat) (ts : List Til) (w : World) (ha : 0 < n → a = some ⟨b, off, Option.none⟩) (hr : RL w b off n cap ts) (hH : -9223372036854775808 ≤ H ∧ H ≤ 9223372036854775807) (hm : mayN W H C D = true) (hn : n ≠ tN W H) (hnm : n ≤ 9223372036854775807) :
    Calls Try.prog 21 #[shp W H C D, .slice a n cap] w (RetRas w 0 0 0 0 [] 1) := by
  have hG := fun w' => rgrid_may W H C D w' hm
  have hbn := (bnds_of_may hm).1
  obtain ⟨a1, a2, a3, a4, a5⟩ := tN_bd hbn
  rw [← a1, ← a2] at hG
  have q1 : IntKind.i64.wrap ((tA W : Int) * (tA H : Int)) = (tN W H : Nat) := by rw [← Int.natCast_mul]; exact Go.IntWalk.i64_in _ (by have : tA W * tA H = tN W H := rfl; rw [this]; omega)
  have HG := Lib.hid hG
  have hne : ¬ (n : Int) = (tN W H : Nat) := by omega
  have hA1 : 1 ≤ tA W := by have := hbn.1; omega
  have hw0 : ¬ (tA W : Int) = 0 := by omega
  clear hG hr ha hm a1 a2 a3 hbn
  have bl : Below w.heap.size w ((w.alloc (.cells #[.int .i64 W, .int .i64 H, .int .i64 C, .int .i64 D] 23)).alloc (.cells #[.int .i64 0, .int .i64 0, .int .i64 0, .int .i64 0, .slice Option.none 0 0] 26)) := ((Below.refl _ _).alloc (Nat.le_refl _) _).alloc (by simp) _
  have bx := Lib.hid ((box_alloc w W H C D 23).below ((Below.refl _ _).alloc (Nat.le_refl _) (.cells #[.int .i64 0, .int .i64 0, .int .i64 0, .int .i64 0, .slice Option.none 0 0] 26)))
  have bs0 := rbox_alloc (w.alloc (.cells #[.int .i64 W, .int .i64 H, .int .i64 C, .int .i64 D] 23)) 0 0 0 0 Option.none 0 0 26
  rw [World.size_alloc] at bs0
  have by_ := Lib.hid bs0
  have B := Lib.hid bl
  go_enter Try.func21, Try.ntmps21
  go_wp2_with fail
  generalize ((w.alloc (.cells #[.int .i64 W, .int .i64 H, .int .i64 C, .int .i64 D] 23)).alloc (.cells #[.int .i64 0, .int .i64 0, .int .i64 0, .int .i64 0, .slice Option.none 0 0] 26)) = v0 at *
  clear bl bs0
  refine (HG.out _).mono ?_; rintro e w2 ⟨rfl, bb⟩
  replace B := Lib.hid (below_size B.out bb)
  replace bx := Lib.hid (bx.out.below bb)
  replace by_ := Lib.hid (by_.out.below bb)
  clear bb
  have d0 := by_.out.box.c0; have d1 := by_.out.box.c1; have d2 := by_.out.box.c2; have d3 := by_.out.box.c3; have d4 := by_.out.c4; have f0 := by_.out.box.f0; have f1 := by_.out.box.f1; have f2 := by_.out.box.f2; have f3 := by_.out.box.f3; have f4 := by_.out.f4
  go_wp2_with fail
  refine bodyPost_ret (results_ras rfl _ _ _ rfl (by_.out.set 0 0 0 0 Option.none 0 0)) rfl ?_
  exact retRas_err (((((B.out.setCell (by simp) _).setCell (by simp) _).setCell (by simp) _).setCell (by simp) _).setCell (by simp) _)

set_option maxRecDepth 100000 in
set_option maxHeartbeats 4000000 in
theorem rjoin_yes (W H C D : Int) (a : Option Addr) (b off n cap : Nat) (ts : List Til) (w : World) (ha : 0 < n → a = some ⟨b, off, Option.none⟩) (hr : RL w b off n cap ts) (hm : mayN W H C D = true) (hn : n = tN W H) :
    Calls Try.prog 21 #[shp W H C D, .slice a n cap] w (RetRas w (jRes W H C D ts).1.1.1 (jRes W H C D ts).1.1.2.1 (jRes W H C D ts).1.1.2.2.1 (jRes W H C D ts).1.1.2.2.2 (jRes W H C D ts).1.2 (jRes W H C D ts).2) := by
  have hH' : -9223372036854775808 ≤ H ∧ H ≤ 9223372036854775807 := by have := (bnds_of_may hm).1; have h1 := this.2.2.1; have h2 := this.2.2.2.1; omega
  have hG := fun w' => rgrid_may W H C D w' hm
  have hbn := (bnds_of_may hm).1
  obtain ⟨a1, a2, a3, a4, a5⟩ := tN_bd hbn
  rw [← a1, ← a2] at hG
  have q1 : IntKind.i64.wrap ((tA W : Int) * (tA H : Int)) = (tN W H : Nat) := by rw [← Int.natCast_mul]; exact Go.IntWalk.i64_in _ (by have : tA W * tA H = tN W H := rfl; rw [this]; omega)
  have HG := Lib.hid hG
  have hsz := size_bd W H C D hbn
  have hs16 := (bnds_of_may hm).2
  obtain ⟨M, hMM⟩ : ∃ M, (sizeN W H C D).toNat = M := ⟨_, rfl⟩
  have hMi : sizeN W H C D = (M : Int) := by omega
  have csz := fun w' => rsize_any W H C D w' hH'
  rw [hMi] at csz
  have CSZ := Lib.hid csz
  have hM1 : 1 ≤ M := by omega
  have hM16 : M ≤ 16384 := by omega
  have hmR : mayR W H C D M = true := by unfold mayR; rw [hm, hMi]; simp
  have HMR := Lib.hid hmR
  have HMM := Lib.hid hMM
  have hmk := made_run M hM16
  obtain ⟨N, hN⟩ : ∃ N, tN W H = N := ⟨_, rfl⟩
  have HN := Lib.hid hN
  have hn' : n = N := by omega
  subst hn'
  rw [hN] at q1 a4 a5
  have hA1 : 1 ≤ tA W ∧ tA W ≤ 32 := by have := hbn.1; have := hbn.2.1; omega
  have hw0 : ¬ (tA W : Int) = 0 := by omega
  have HA := Lib.hid a1; have HB := Lib.hid hbn; have HMN := Lib.hid hm
  have hae := ha (by omega)
  subst hae
  have R := Lib.hid hr
  clear hG csz hr ha hm hn a2 a3 hbn hsz hs16 hMi hmR hN hMM
  clear a1
  have hH := hH'
  have bl : Below w.heap.size w ((w.alloc (.cells #[.int .i64 W, .int .i64 H, .int .i64 C, .int .i64 D] 23)).alloc (.cells #[.int .i64 0, .int .i64 0, .int .i64 0, .int .i64 0, .slice Option.none 0 0] 26)) := ((Below.refl _ _).alloc (Nat.le_refl _) _).alloc (by simp) _
  have bx := Lib.hid ((box_alloc w W H C D 23).below ((Below.refl _ _).alloc (Nat.le_refl _) (.cells #[.int .i64 0, .int .i64 0, .int .i64 0, .int .i64 0, .slice Option.none 0 0] 26)))
  have bs0 := rbox_alloc (w.alloc (.cells #[.int .i64 W, .int .i64 H, .int .i64 C, .int .i64 D] 23)) 0 0 0 0 Option.none 0 0 26
  rw [World.size_alloc] at bs0
  have by_ := Lib.hid bs0
  have B := Lib.hid bl
  replace R := Lib.hid (R.out.below bl)
  go_enter Try.func21, Try.ntmps21
  go_wp2_with fail
  generalize ((w.alloc (.cells #[.int .i64 W, .int .i64 H, .int .i64 C, .int .i64 D] 23)).alloc (.cells #[.int .i64 0, .int .i64 0, .int .i64 0, .int .i64 0, .slice Option.none 0 0] 26)) = v0 at *
  clear bl bs0
  refine (HG.out _).mono ?_; rintro e w1 ⟨rfl, bb⟩
  replace B := Lib.hid (below_size B.out bb)
  replace bx := Lib.hid (bx.out.below bb)
  replace by_ := Lib.hid (by_.out.below bb)
  replace R := Lib.hid (R.out.below bb)
  clear bb
  have hz2 := bx.out.lt
  have c0 := bx.out.c0; have c1 := bx.out.c1; have c2 := bx.out.c2; have c3 := bx.out.c3
  go_upto_region 6 with (fail)
  go_cut [8] (fun s wx => ∃ gb go, s = .pointer (some ⟨gb, 0, Option.none⟩) ∧ Out w1 W H C D M gb go (List.replicate M (0 : Int)) wx)
  case first =>
    have Keep : Hid (∀ w' : World, Below (w.heap.size + 1) w1 w' → w'.cell? ⟨w.heap.size, 0, Option.none⟩ = some (.int .i64 W) ∧ w'.cell? ⟨w.heap.size, 1, Option.none⟩ = some (.int .i64 H) ∧ w'.cell? ⟨w.heap.size, 2, Option.none⟩ = some (.int .i64 C) ∧ w'.cell? ⟨w.heap.size, 3, Option.none⟩ = some (.int .i64 D)) := Lib.hid fun w' e => ⟨(e.cell (p := ⟨w.heap.size, 0, Option.none⟩) (Nat.lt_succ_self _)).trans c0, (e.cell (p := ⟨w.heap.size, 1, Option.none⟩) (Nat.lt_succ_self _)).trans c1, (e.cell (p := ⟨w.heap.size, 2, Option.none⟩) (Nat.lt_succ_self _)).trans c2, (e.cell (p := ⟨w.heap.size, 3, Option.none⟩) (Nat.lt_succ_self _)).trans c3⟩
    have e0 : Below (w.heap.size + 1) w1 w1.drew := (Below.refl _ _).drew
    have hz3 : w.heap.size + 1 ≤ w1.drew.heap.size := hz2
    go_region_held3 (fun w' => w'.cell? ⟨w.heap.size, 0, Option.none⟩ = some (.int .i64 W) ∧ w'.cell? ⟨w.heap.size, 1, Option.none⟩ = some (.int .i64 H) ∧ w'.cell? ⟨w.heap.size, 2, Option.none⟩ = some (.int .i64 C) ∧ w'.cell? ⟨w.heap.size, 3, Option.none⟩ = some (.int .i64 D))
      ((refine Keep.out _ ?_; repeat (first | with_reducible exact e0 | with_reducible exact e1 | with_reducible exact Below.refl _ _ | with_reducible refine Below.drew ?_ | (refine Below.setCell ?_ (by first | omega | (simp; omega)) _) | (refine Below.alloc ?_ (by first | omega | (simp; omega)) _))))
      (first
      | (go_at_call 33; refine (CSZ.out _).mono ?_; rintro e x1 ⟨rfl, bb1⟩; have hz4 : w.heap.size + 1 ≤ x1.heap.size := Nat.le_trans (by first | omega | (simp; omega)) bb1.size; have e1 : Below (w.heap.size + 1) w1 x1 := Below.trans (by repeat (first | with_reducible exact e0 | with_reducible exact Below.refl _ _ | with_reducible refine Below.drew ?_ | (refine Below.alloc ?_ (by first | omega | (simp; omega)) _))) (bb1.mono (by first | omega | (simp; omega))); try (have k9 := ((rbox_alloc w1 0 0 0 0 Option.none 0 0 26).below (Below.refl _ _).drew).below bb1; have k0 := k9.box.c0; have k1 := k9.box.c1; have k2 := k9.box.c2; have k3 := k9.box.c3; have k4 := k9.c4; have f0 := k9.box.f0; have f1 := k9.box.f1; have f2 := k9.box.f2; have f3 := k9.box.f3; have f4 := k9.f4; have hz5 : w1.heap.size < x1.heap.size := k9.box.lt; have hz6 : ¬ w1.heap.size = x1.heap.size := Nat.ne_of_lt hz5; have hz7 : ¬ x1.heap.size = w1.heap.size := fun e => hz6 e.symm)))
    all_goals go_wp2_with fail
    all_goals go_meet
    · exact ⟨_, _, rfl, out_a ((Below.refl _ _).drew.trans bb1) W H C D hM16⟩
    · exact ⟨_, _, rfl, out_b ((Below.refl _ _).drew.trans bb1) W H C D hM16⟩
    · exact ⟨_, _, rfl, out_c (Below.trans ((Below.refl _ _).alloc (Nat.le_refl _) _).drew (bb1.mono (by simp))) W H C D hM16 k9 (Nat.le_refl _)⟩
  case rest =>
    obtain ⟨gb, go, rfl, hO⟩ := hcut
    have HO := Lib.hid hO
    have hzw2 := Lib.hid (show w.heap.size + 2 ≤ w1.heap.size from by_.out.lt)
    have R2 := R; have BX2 := bx
    clear c0 c1 c2 c3 hmk hO
    go_wp2_with fail
    go_loopw [9] (fun vi wr => ∃ k : Nat, k ≤ n ∧ vi = .int .i64 k ∧ Hid (∀ i, i < k → jOk W H C D (ts.getD i ((0, 0, 0, 0), [])) i) ∧ Hid (Out w1 W H C D M gb go (jAll W H C D ts k) wr)) (fun vi _ => n - (intOf vi).toNat)
    case atStart =>
      refine ⟨0, Nat.zero_le _, rfl, Lib.hid (fun i hi => absurd hi (by omega)), ?_⟩
      rw [jAll, HMM.out]
      exact HO
    case round =>
      obtain ⟨k, hk, rfl, KJ, KO⟩ := hrel
      clear HO
      have HBL := Lib.hid KO.out.bel
      replace B := Lib.hid (below_size B.out HBL.out)
      replace bx := Lib.hid (bx.out.below HBL.out)
      replace by_ := Lib.hid (by_.out.below HBL.out)
      replace R := Lib.hid (R.out.below HBL.out)
      have hzr2 : w.heap.size < wr.heap.size := bx.out.lt
      have HGO := Lib.hid (KO.out.own.lt go rfl)
      by_cases hlt : k < n
      · have T := tf_of HMR.out k (by rw [HN.out]; exact hlt)
        obtain ⟨t, ht⟩ : ∃ t, ts.getD k ((0, 0, 0, 0), []) = t := ⟨_, rfl⟩
        obtain ⟨⟨W', H', C', D'⟩, xs⟩ := t
        obtain ⟨p, c, ev, hp, hpB, hh1, hh2⟩ := R2.out.el k hlt ht
        have HT := Lib.hid ht
        clear ht
        have HP2 := Lib.hid hp; have HP := Lib.hid (hp.below HBL.out); have HPB := Lib.hid hpB
        have EV1 := Lib.hid ev
        have EV := Lib.hid (ev.below HBL.out)
        have csh := fun w' => rshape_ok W H C D k w' HMN.out (by rw [HN.out]; exact hlt)
        have CSH := Lib.hid csh
        have HTF := Lib.hid T
        have i9 : (k : Int) < n := by omega
        have i8 : (0 : Int) ≤ k := by omega
        clear csh T hp hpB ev
        have c0 := bx.out.c0; have c1 := bx.out.c1; have c2 := bx.out.c2; have c3 := bx.out.c3
        go_wp2_with fail
        clear c0 c1 c2 c3
        have hgo : go < wr.heap.size := HGO.out.2
        have hgb : w1.heap.size ≤ go := HGO.out.1
        refine (CSH.out _).mono ?_; rintro e u1 ⟨rfl, bb⟩
        replace B := Lib.hid (below_size B.out bb)
        replace bx := Lib.hid (bx.out.below bb)
        replace by_ := Lib.hid (by_.out.below bb)
        replace KO := Lib.hid (KO.out.below bb)
        replace HP := Lib.hid (HP.out.below bb)
        have hzw := bb.size
        replace EV := Lib.hid (EV.out.below bb)
        obtain ⟨tw, htw⟩ : ∃ tw, tileW W (k : Int) = tw := ⟨_, rfl⟩
        obtain ⟨th, hth⟩ : ∃ th, tileH W H (k : Int) = th := ⟨_, rfl⟩
        have HTW := Lib.hid htw; have HTH := Lib.hid hth
        rw [htw, hth]
        clear htw hth bb
        have hthb : th = ((tH W H k : Nat) : Int) := by rw [HTF.out.hH, HTH.out]
        have hth8 := HTF.out.h8
        have hth1 := HTF.out.h1
        have HBAD := Lib.hid (fun (hx : ¬ jOk W H C D ((W', H', C', D'), xs) k) => (show jRes W H C D ts = (((0, 0, 0, 0), []), 13) from by
          unfold jRes
          rw [if_pos HMN.out, if_pos (by rw [R.out.len, HN.out]), if_neg (fun hall => hx (by have := hall k (by rw [R.out.len]; exact hlt); rw [HT.out] at this; exact this))]))
        obtain ⟨h, hhh⟩ : ∃ h, tH W H k = h := ⟨_, rfl⟩
        rw [hhh] at hthb hth8 hth1
        have HHH := Lib.hid hhh
        subst hthb
        clear hhh
        have bl := Lib.hid (show Below u1.heap.size u1 (u1.alloc (.cells #[.int .i64 tw, .int .i64 h, .int .i64 C, .int .i64 D] 23)) from (Below.refl _ _).alloc (Nat.le_refl _) _)
        have bw := Lib.hid (box_alloc u1 tw h C D 23)
        go_wp2_with fail
        have hgo1 : go < u1.heap.size := Nat.lt_of_lt_of_le hgo hzw
        replace B := Lib.hid (below_size B.out bl.out)
        replace bx := Lib.hid (bx.out.below bl.out); replace by_ := Lib.hid (by_.out.below bl.out); replace KO := Lib.hid (KO.out.below bl.out); replace HP := Lib.hid (HP.out.below bl.out)
        replace EV := Lib.hid (EV.out.below bl.out)
        clear bl
        generalize u1.alloc (.cells #[.int .i64 tw, .int .i64 h, .int .i64 C, .int .i64 D] 23) = u2 at *
        generalize u1.heap.size = gw at *
        have v0 := fun x : GrownW u2 => x.cell EV.out.lt EV.out.c0
        have v1 := fun x : GrownW u2 => x.cell EV.out.lt EV.out.c1
        have v2 := fun x : GrownW u2 => x.cell EV.out.lt EV.out.c2
        have v3 := fun x : GrownW u2 => x.cell EV.out.lt EV.out.c3
        have v4 := fun x : GrownW u2 => x.cell EV.out.lt EV.out.c4
        have g0 := fun x : GrownW u2 => x.cell bw.out.lt bw.out.c0; have g1 := fun x : GrownW u2 => x.cell bw.out.lt bw.out.c1; have g2 := fun x : GrownW u2 => x.cell bw.out.lt bw.out.c2; have g3 := fun x : GrownW u2 => x.cell bw.out.lt bw.out.c3
        have cmay := fun (x : GrownW u2) => rmay_any W' H' C' D' p xs.length c x.val ⟨hh1, hh2⟩
        have ceq := fun (x : GrownW u2) => eqShape_any tw h C D W' H' C' D' x.val
        by_cases hok : jOk W H C D ((W', H', C', D'), xs) k
        · have hsh := hok.1
          rw [HTW.out, HTH.out] at hsh
          simp only [Prod.mk.injEq] at hsh
          obtain ⟨rfl, rfl, rfl, rfl⟩ := hsh
          have hmay : mayR W' h C' D' xs.length = true := by have := hok.2; rw [HTW.out, HTH.out] at this; exact this
          have HMAY := Lib.hid hmay
          have HJ := Lib.hid hok
          have HXL := Lib.hid (jOk_len HTF.out HJ.out)
          rw [hmay] at cmay
          have he : decide (eqS W' h C' D' W' h C' D') = true := by simp [eqS]
          rw [he] at ceq
          have CMAY := Lib.hid cmay; have CEQ := Lib.hid ceq
          clear hmay cmay ceq HBAD he hok
          refine wp_region_grow_lit (by kernel_rfl) (by kernel_rfl) ?_
          repeat (go_big_quiet_step (first
            | (go_at_call 30; exact grow_call (CMAY.out _))
            | (go_at_call 18; exact grow_call (CEQ.out _))))
          refine wpQuiet_nil ?_
          intro wg hw'
          obtain ⟨⟨wz, hbg⟩, hw''⟩ := hw'
          subst hw''
          clear v0 v1 v2 v3 v4 g0 g1 g2 g3
          replace B := Lib.hid (below_size B.out hbg)
          replace bx := Lib.hid (bx.out.below hbg); replace by_ := Lib.hid (by_.out.below hbg); replace KO := Lib.hid (KO.out.below hbg); replace HP := Lib.hid (HP.out.below hbg); replace bw := Lib.hid (bw.out.below hbg)
          clear hbg
          go_wp2_with fail
          have hlen : 0 < xs.length := by rw [HXL.out, HHH.out]; exact Nat.mul_pos (by omega) HTF.out.r1
          obtain ⟨bp, offp, rfl, hbp, hcp⟩ := HP.out.cells hlen
          clear hcp
          have hple := HP.out.le
          have HJL := Lib.hid (show ∀ y, y ≤ h → (jRows W H C' D' xs (jAll W H C' D' ts k) k y).length = M from fun y hy => jRows_len HTF.out HXL.out (by simpa using KO.out.own.1) y (by rw [HHH.out]; exact hy))
          go_loopw [12] (fun vy wz => ∃ y : Nat, y ≤ h ∧ vy = .int .i64 y ∧ Hid (Out w1 W H C' D' M gb go (jRows W H C' D' xs (jAll W H C' D' ts k) k y) wz) ∧ Hid (Box wz gw W' h C' D')) (fun vy _ => h - (intOf vy).toNat)
          case atStart => exact ⟨0, Nat.zero_le _, rfl, KO, bw⟩
          case round =>
            obtain ⟨y, hy, rfl, KY, bw1⟩ := hrel
            clear KO bw
            have g1 := bw1.out.c1
            by_cases hyl : y < h
            · have T := HTF.out
              obtain ⟨P, hP⟩ : ∃ P, (k / tA W * 8 + y) * tR W H C' D' = P := ⟨_, rfl⟩
              have hfit := T.fit y (by rw [HHH.out]; exact hyl)
              rw [hP] at hfit
              have hrt : rowN W' h C' D' = ((tRt W H C' D' k : Nat) : Int) := by rw [T.hRt, HTW.out, HTH.out]
              have crow := fun w' => rrow_any W H C' D' w'
              rw [← T.hR] at crow
              have crt := fun w' => rrow_any W' h C' D' w'
              rw [hrt] at crt
              have hB := T.hB
              have hr1 := T.r1
              have hC := HB.out.2.2.2.2.1; have hC4 := HB.out.2.2.2.2.2.1; have hD := HB.out.2.2.2.2.2.2
              have m1 : k % tA W < tA W := Nat.mod_lt _ hA1.1
              have d1 : k / tA W ≤ k := Nat.div_le_self _ _
              have hPz : (((k / tA W : Nat) : Int) * 8 + y) * ((tR W H C' D' : Nat) : Int) = P := by rw [← hP]; simp
              have tm : Int.tmod (k : Int) (tA W : Int) = ((k % tA W : Nat) : Int) := by rw [Int.tmod_eq_emod_of_nonneg (by omega)]; simp
              have td : Int.tdiv (k : Int) (tA W : Int) = ((k / tA W : Nat) : Int) := by rw [Int.tdiv_eq_ediv_of_nonneg (by omega)]; simp
              have em : (k : Int) % (tA W : Int) = ((k % tA W : Nat) : Int) := by simp
              have ed : (k : Int) / (tA W : Int) = ((k / tA W : Nat) : Int) := by simp
              have hA0 : ¬ (tA W : Int) = 0 := by omega
              have hA9 : ¬ tA W = 0 := by omega
              have hsl : (jSeg W H C' D' xs k y).length = tRt W H C' D' k := jSeg_len (by rw [HHH.out]; exact hyl) HXL.out
              have hkle : y * tRt W H C' D' k + tRt W H C' D' k ≤ xs.length := by
                have : (y + 1) * tRt W H C' D' k ≤ h * tRt W H C' D' k := Nat.mul_le_mul_right _ hyl
                rw [Nat.add_mul, Nat.one_mul] at this
                have e := HXL.out
                rw [HHH.out] at e
                omega
              have hx16 : xs.length ≤ 16384 := by have := (mayR_spec HMAY.out).2; omega
              have HSEG := Lib.hid (show (xs.drop (y * tRt W H C' D' k)).take (tRt W H C' D' k) = jSeg W H C' D' xs k y from rfl)
              have HNXT := Lib.hid (show jRows W H C' D' xs (jAll W H C' D' ts k) k (y + 1) = (jRows W H C' D' xs (jAll W H C' D' ts k) k y).take (P + tB0 W C' D' k) ++ (jSeg W H C' D' xs k y ++ (jRows W H C' D' xs (jAll W H C' D' ts k) k y).drop (P + tB0 W C' D' k + tRt W H C' D' k)) from by
                rw [jRows]; unfold jRow jP; rw [hP])
              have HGT2 := Lib.hid (show go ≠ gw from by omega)
              clear T hP hrt
              generalize hzs1 : jRows W H C' D' xs (jAll W H C' D' ts k) k (y + 1) = zs1 at *
              have HZ1 := Lib.hid hzs1
              clear hzs1
              generalize hzs0 : jRows W H C' D' xs (jAll W H C' D' ts k) k y = zs0 at *
              clear hzs0
              generalize jSeg W H C' D' xs k y = seg at *
              generalize tRt W H C' D' k = Rt at *
              generalize tB0 W C' D' k = B0 at *
              have hyK : (y : Int) * (Rt : Int) = ((y * Rt : Nat) : Int) := by simp
              generalize y * Rt = K at *
              obtain ⟨X2, hX2⟩ : ∃ X2 : Int, ((k % tA W : Nat) : Int) * 8 * C' = X2 := ⟨_, rfl⟩
              obtain ⟨X3, hX3⟩ : ∃ X3 : Int, X2 * D' = X3 := ⟨_, rfl⟩
              have x2 : 0 ≤ X2 ∧ X2 ≤ 1024 := by rcases (by omega : C' = 1 ∨ C' = 2 ∨ C' = 3 ∨ C' = 4) with rfl | rfl | rfl | rfl <;> omega
              have x3 : 0 ≤ X3 ∧ X3 ≤ 16384 := by rcases hD with rfl | rfl <;> omega
              have k1 : IntKind.i64.wrap (((k % tA W : Nat) : Int) * 8 * C') = X2 := by rw [hX2, Go.IntWalk.i64_in _ (by omega)]
              have k2 : IntKind.i64.wrap (X2 * D') = X3 := by rw [hX3, Go.IntWalk.i64_in _ (by omega)]
              have k3 : X3 / 8 = B0 := by rw [hB, ← hX3, ← hX2]
              have k4 : Int.tdiv X3 8 = B0 := by rw [Int.tdiv_eq_ediv_of_nonneg x3.1]; exact k3
              generalize k % tA W = qx at *
              generalize k / tA W = qy at *
              generalize tR W H C' D' = RR at *
              have p1 : IntKind.i64.wrap (qy : Int) = qy := Go.IntWalk.i64_in _ (by omega)
              have p2 : IntKind.i64.wrap ((qy : Int) * 8) = (qy : Int) * 8 := Go.IntWalk.i64_in _ (by omega)
              have p3 : IntKind.i64.wrap ((qy : Int) * 8 + y) = (qy : Int) * 8 + y := Go.IntWalk.i64_in _ (by omega)
              have p4 : IntKind.i64.wrap (((qy : Int) * 8 + y) * (RR : Int)) = P := by rw [hPz, Go.IntWalk.i64_in _ (by omega)]
              have p5 : IntKind.i64.wrap ((qx : Int) * 8) = (qx : Int) * 8 := Go.IntWalk.i64_in _ (by omega)
              have p6 : IntKind.i64.wrap (B0 : Int) = B0 := Go.IntWalk.i64_in _ (by omega)
              have p7 : IntKind.i64.wrap ((P : Int) + B0) = ((P + B0 : Nat) : Int) := by rw [Go.IntWalk.i64_in _ (by omega)]; omega
              have CROW := Lib.hid crow; have CRT := Lib.hid crt
              have HPZ := Lib.hid (HP2.out.below KY.out.bel)
              have BXZ := Lib.hid (BX2.out.below KY.out.bel)
              have EVZ := Lib.hid (EV1.out.below KY.out.bel)
              clear crow crt hX2 hX3 hB hPz
              go_wp2_with fail
              clear g1
              have c0 := fun x : GrownW wr => x.cell BXZ.out.lt BXZ.out.c0; have c1 := fun x : GrownW wr => x.cell BXZ.out.lt BXZ.out.c1; have c2 := fun x : GrownW wr => x.cell BXZ.out.lt BXZ.out.c2; have c3 := fun x : GrownW wr => x.cell BXZ.out.lt BXZ.out.c3
              refine wp_region_grow_lit (by kernel_rfl) (by kernel_rfl) ?_
              repeat (go_big_quiet_step (first
                | (go_at_call 31; exact grow_call (CROW.out _))))
              refine wpQuiet_nil ?_
              intro wg hw'
              obtain ⟨⟨wz, hbg⟩, hw''⟩ := hw'
              subst hw''
              clear c0 c1 c2 c3
              go_wp2_with fail
              clear tm td em ed p1 p2 p3 p4 p5 p6 p7 k1 k2 k3 k4
              obtain ⟨wh, rfl⟩ : ∃ wh : World, wh = wg := ⟨_, rfl⟩
              have KYh := Lib.hid (KY.out.below hbg)
              have EVh := Lib.hid (EVZ.out.below hbg)
              have HPh := Lib.hid (HPZ.out.below hbg)
              have bwh := Lib.hid (bw1.out.below hbg)
              clear hbg
              have d4 := fun x : GrownW wh => x.cell KYh.out.box.lt KYh.out.box.c4
              have v4 := fun x : GrownW wh => x.cell EVh.out.lt EVh.out.c4
              have g0 := fun x : GrownW wh => x.cell bwh.out.lt bwh.out.c0; have g1 := fun x : GrownW wh => x.cell bwh.out.lt bwh.out.c1; have g2 := fun x : GrownW wh => x.cell bwh.out.lt bwh.out.c2; have g3 := fun x : GrownW wh => x.cell bwh.out.lt bwh.out.c3
              have j1 : (0 : Int) ≤ (P : Int) + B0 := by omega
              have j2 : (P : Int) + B0 ≤ (P : Int) + B0 + Rt := by omega
              have j3 : (P : Int) + B0 + Rt ≤ M := by omega
              have j4 : ((P : Int) + B0).toNat = P + B0 := by omega
              have j5 : ((P : Int) + B0 + Rt).toNat = P + B0 + Rt := by omega
              have j6 : ¬ M = P + B0 := by omega
              have j7 : IntKind.i64.wrap ((P : Int) + B0 + Rt) = (P : Int) + B0 + Rt := Go.IntWalk.i64_in _ (by omega)
              have j8 : P + B0 + Rt - (P + B0) = Rt := by omega
              have l1 : IntKind.i64.wrap ((y : Int) * (Rt : Int)) = (K : Int) := by rw [hyK]; exact Go.IntWalk.i64_in _ (by omega)
              have l2 : (0 : Int) ≤ (K : Int) := by omega
              have l3 : (K : Int) ≤ (xs.length : Int) := by omega
              have l4 : ¬ c = K := by omega
              have l5 : K ≤ xs.length := by omega
              refine wp_region_any (by kernel_rfl) ?_
              change wpAny _ _ _ _ _ _ _ (World.drew _)
              refine wpAny_grow_tail [0, 1, 2, 3, 4, 5, 6, 7, 8, 9, 10, 11, 12, 13, 14, 15, 16, 17] [18] (by kernel_rfl) ?_
              simp only [pickOps, List.getElem?_toArray, List.getElem?_cons_zero, List.getElem?_cons_succ, Option.toList_some, List.cons_append, List.nil_append]
              repeat (go_big_quiet_step (first
                | (go_at_call 31; exact grow_call (CRT.out _))))
              refine wpQuiet_nil ?_
              intro wg hw'
              obtain ⟨⟨wz, hbg⟩, hw''⟩ := hw'
              subst hw''
              clear d4 v4 g0 g1 g2 g3 j1 j2 j3 j4 j5 j6 j7 l1 l2 l3 hyK
              have KYg := KYh.out.below hbg
              refine wpList_copy_row rfl _ _ 24 rfl w1.heap.size 5 Try.underlying24 infoU1 .u8 go (P + B0) M M Rt _ zs0 KYg.own rfl _ (xs.length - K) _ (xs.drop K) rfl (reads_from (HPh.out.below hbg) K l5 (by omega)) Rt (Nat.min_eq_right (by omega)).symm hfit ?_
              intro wq hq gq
              rw [HSEG.out, ← HNXT.out] at hq
              have KQ := Lib.hid (KYg.fill hq gq)
              have b2g := bwh.out.below hbg
              have bwq := Lib.hid (box_block b2g gq.size (gq.block gw b2g.lt (by simp; exact HGT2.out.symm)))
              clear hq gq KYg b2g hbg
              go_wp2_with fail
              go_roundw
              case rel => exact ⟨y + 1, by omega, by go_num, by rw [HZ1.out]; exact KQ, bwq⟩
              case measure => simp [intOf]; omega
            · obtain rfl : y = h := by omega
              go_wp2_with fail
              go_roundw
              case rel =>
                refine ⟨k + 1, by omega, by go_num, Lib.hid (fun i hi => ?_), ?_⟩
                · by_cases e : i = k
                  · subst e; rw [HT.out]; exact HJ.out
                  · exact KJ.out i (by omega)
                · rw [jAll, HT.out, HHH.out]; exact KY
              case measure => simp [intOf]; omega
        · have HX := Lib.hid hok
          have key : (mayR W' H' C' D' xs.length = false) ∨ (mayR W' H' C' D' xs.length = true ∧ decide (eqS tw h C D W' H' C' D') = false) := by
            cases h1 : mayR W' H' C' D' xs.length with
            | false => exact .inl rfl
            | true =>
              refine .inr ⟨rfl, ?_⟩
              rw [decide_eq_false_iff_not]
              intro h2
              obtain ⟨rfl, rfl, rfl, rfl⟩ := h2
              exact hok ⟨by rw [HTW.out, HTH.out], by rw [HTW.out, HTH.out]; exact h1⟩
          clear hok
          rcases key with hm1 | ⟨hm1, hm2⟩
          all_goals
            rw [hm1] at cmay
            try rw [hm2] at ceq
            have CMAY := Lib.hid cmay; have CEQ := Lib.hid ceq
            clear cmay ceq
            refine wp_region_grow_lit (by kernel_rfl) (by kernel_rfl) ?_
            repeat (go_big_quiet_step (first
              | (go_at_call 30; exact grow_call (CMAY.out _))
              | (go_at_call 18; exact grow_call (CEQ.out _))))
            refine wpQuiet_nil ?_
            intro wg hw'
            obtain ⟨⟨wz, hbg⟩, hw''⟩ := hw'
            subst hw''
            clear v0 v1 v2 v3 v4 g0 g1 g2 g3
            replace B := Lib.hid (below_size B.out hbg)
            replace by_ := Lib.hid (by_.out.below hbg)
            clear hbg bx KO HP bw HTF EV EV1
            have d0 := by_.out.box.c0; have d1 := by_.out.box.c1; have d2 := by_.out.box.c2; have d3 := by_.out.box.c3; have d4 := by_.out.c4; have f0 := by_.out.box.f0; have f1 := by_.out.box.f1; have f2 := by_.out.box.f2; have f3 := by_.out.box.f3; have f4 := by_.out.f4
            go_wp2_with fail
            refine bodyPost_ret (results_ras rfl _ _ _ rfl (by_.out.set 0 0 0 0 Option.none 0 0)) rfl ?_
            rw [HBAD.out HX.out]
            exact retRas_err (((((B.out.setCell (by simp) _).setCell (by simp) _).setCell (by simp) _).setCell (by simp) _).setCell (by simp) _)
      · obtain rfl : k = n := by omega
        have HRES := Lib.hid (show jRes W H C D ts = (((W, H, C, D), jAll W H C D ts k), 0) from by
          unfold jRes
          rw [if_pos HMN.out, if_pos (by rw [R.out.len, HN.out]), if_pos (fun i hi => KJ.out i (by rw [← R.out.len]; exact hi)), R.out.len])
        have hgb := KO.out.ge
        have hgo1 := HGO.out.1
        have ho := KO.out.own
        have hol : (jAll W H C D ts k).length = M := by simpa using ho.1
        have HOW := Lib.hid ho
        have hsz2 : w.heap.size + 2 ≤ w1.heap.size := hzw2.out
        have c0 := KO.out.box.box.c0; have c1 := KO.out.box.box.c1; have c2 := KO.out.box.box.c2; have c3 := KO.out.box.box.c3; have c4 := KO.out.box.c4
        have d0 := by_.out.box.c0; have d1 := by_.out.box.c1; have d2 := by_.out.box.c2; have d3 := by_.out.box.c3; have d4 := by_.out.c4; have f0 := by_.out.box.f0; have f1 := by_.out.box.f1; have f2 := by_.out.box.f2; have f3 := by_.out.box.f3; have f4 := by_.out.f4
        clear ho
        go_wp2_with fail
        refine bodyPost_ret (results_ras rfl _ _ _ rfl (by_.out.set W H C D (some ⟨go, 0, Option.none⟩) M M)) rfl ?_
        rw [HRES.out]
        unfold RetRas
        dsimp only
        rw [hol]
        exact ⟨some ⟨go, 0, Option.none⟩, M, rfl, owns_base (owns_under (owns_under (owns_under (owns_under (owns_under HOW.out (w.heap.size + 1) 0 (.int .i64 W) (by omega)) (w.heap.size + 1) 1 (.int .i64 H) (by omega)) (w.heap.size + 1) 2 (.int .i64 C) (by omega)) (w.heap.size + 1) 3 (.int .i64 D) (by omega)) (w.heap.size + 1) 4 (.slice (some ⟨go, 0, Option.none⟩) M M) (by omega)) (by omega), (((((B.out.setCell (by simp) _).setCell (by simp) _).setCell (by simp) _).setCell (by simp) _).setCell (by simp) _)⟩

end Go.Proofs.Ytdmaoaclhaofbaa
