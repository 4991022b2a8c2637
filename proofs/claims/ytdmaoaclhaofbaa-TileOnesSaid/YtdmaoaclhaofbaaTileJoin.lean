/-
  tile.Join: the tiles of a picture put together.
-/
import Derived.Test.YtdmaoaclhaofbaaTileJoinPure
import Derived.Test.YtdmaoaclhaofbaaOut
namespace Go.Proofs.Ytdmaoaclhaofbaa
open Go.RowKit

set_option maxRecDepth 100000 in
set_option maxHeartbeats 2000000 in
theorem join_not (W H C D : Int) (a : Option Addr) (b off n cap : Nat) (ts : List Til) (w : World) (ha : 0 < n → a = some ⟨b, off, Option.none⟩) (hr : RL w b off n cap ts) (hH : -9223372036854775808 ≤ H ∧ H ≤ 9223372036854775807) (hm : mayN W H C D = false) :
    Calls Try.prog 20 #[shp W H C D, .slice a n cap] w (RetRas w 0 0 0 0 [] 4) := by
  have hM := fun w' => mayShape_any W H C D w' hH
  rw [hm] at hM
  have HM := Lib.hid hM
  clear hM hr ha hm
  have bl : Below w.heap.size w ((w.alloc (.cells #[.int .i64 W, .int .i64 H, .int .i64 C, .int .i64 D] 23)).alloc (.cells #[.int .i64 0, .int .i64 0, .int .i64 0, .int .i64 0, .slice Option.none 0 0] 26)) := ((Below.refl _ _).alloc (Nat.le_refl _) _).alloc (by simp) _
  have bx := Lib.hid ((box_alloc w W H C D 23).below ((Below.refl _ _).alloc (Nat.le_refl _) (.cells #[.int .i64 0, .int .i64 0, .int .i64 0, .int .i64 0, .slice Option.none 0 0] 26)))
  have bs0 := rbox_alloc (w.alloc (.cells #[.int .i64 W, .int .i64 H, .int .i64 C, .int .i64 D] 23)) 0 0 0 0 Option.none 0 0 26
  rw [World.size_alloc] at bs0
  have by_ := Lib.hid bs0
  have B := Lib.hid bl
  go_enter Try.func20, Try.ntmps20
  go_wp2_with fail
  generalize ((w.alloc (.cells #[.int .i64 W, .int .i64 H, .int .i64 C, .int .i64 D] 23)).alloc (.cells #[.int .i64 0, .int .i64 0, .int .i64 0, .int .i64 0, .slice Option.none 0 0] 26)) = v0 at *
  clear bl bs0
  refine (HM.out _).mono ?_; rintro e w1 ⟨rfl, bb⟩
  replace B := Lib.hid (below_size B.out bb)
  replace bx := Lib.hid (bx.out.below bb)
  replace by_ := Lib.hid (by_.out.below bb)
  clear bb
  have d0 := by_.out.box.c0; have d1 := by_.out.box.c1; have d2 := by_.out.box.c2; have d3 := by_.out.box.c3; have d4 := by_.out.c4; have f0 := by_.out.box.f0; have f1 := by_.out.box.f1; have f2 := by_.out.box.f2; have f3 := by_.out.box.f3; have f4 := by_.out.f4
  go_wp2_with fail
  refine bodyPost_ret (results_ras rfl _ _ _ rfl (by_.out.set 0 0 0 0 Option.none 0 0)) rfl ?_
  exact retRas_err (((((B.out.setCell (by simp) _).setCell (by simp) _).setCell (by simp) _).setCell (by simp) _).setCell (by simp) _)

set_option maxRecDepth 100000 in
set_option maxHeartbeats 2000000 in
theorem join_len (W H C D : Int) (a : Option Addr) (b off n cap : Nat) (ts : List Til) (w : World) (ha : 0 < n → a = some ⟨b, off, Option.none⟩) (hr : RL w b off n cap ts) (hH : -9223372036854775808 ≤ H ∧ H ≤ 9223372036854775807) (hm : mayN W H C D = true) (hn : n ≠ tN W H) (hnm : n ≤ 9223372036854775807) :
    Calls Try.prog 20 #[shp W H C D, .slice a n cap] w (RetRas w 0 0 0 0 [] 1) := by
  have hM := fun w' => mayShape_any W H C D w' hH
  rw [hm] at hM
  have hG := fun w' => grid_may W H C D w' hm
  have hbn := (bnds_of_may hm).1
  obtain ⟨a1, a2, a3, a4, a5⟩ := tN_bd hbn
  rw [← a1, ← a2] at hG
  have q1 : IntKind.i64.wrap ((tA W : Int) * (tA H : Int)) = (tN W H : Nat) := by rw [← Int.natCast_mul]; exact Go.IntWalk.i64_in _ (by have : tA W * tA H = tN W H := rfl; rw [this]; omega)
  have HM := Lib.hid hM; have HG := Lib.hid hG
  have hne : ¬ (n : Int) = (tN W H : Nat) := by omega
  clear hM hG hr ha hm a1 a2 a3 hbn
  have bl : Below w.heap.size w ((w.alloc (.cells #[.int .i64 W, .int .i64 H, .int .i64 C, .int .i64 D] 23)).alloc (.cells #[.int .i64 0, .int .i64 0, .int .i64 0, .int .i64 0, .slice Option.none 0 0] 26)) := ((Below.refl _ _).alloc (Nat.le_refl _) _).alloc (by simp) _
  have bx := Lib.hid ((box_alloc w W H C D 23).below ((Below.refl _ _).alloc (Nat.le_refl _) (.cells #[.int .i64 0, .int .i64 0, .int .i64 0, .int .i64 0, .slice Option.none 0 0] 26)))
  have bs0 := rbox_alloc (w.alloc (.cells #[.int .i64 W, .int .i64 H, .int .i64 C, .int .i64 D] 23)) 0 0 0 0 Option.none 0 0 26
  rw [World.size_alloc] at bs0
  have by_ := Lib.hid bs0
  have B := Lib.hid bl
  go_enter Try.func20, Try.ntmps20
  go_wp2_with fail
  generalize ((w.alloc (.cells #[.int .i64 W, .int .i64 H, .int .i64 C, .int .i64 D] 23)).alloc (.cells #[.int .i64 0, .int .i64 0, .int .i64 0, .int .i64 0, .slice Option.none 0 0] 26)) = v0 at *
  clear bl bs0
  refine (HM.out _).mono ?_; rintro e w1 ⟨rfl, bb⟩
  replace B := Lib.hid (below_size B.out bb)
  replace bx := Lib.hid (bx.out.below bb)
  replace by_ := Lib.hid (by_.out.below bb)
  clear bb
  have c0 := bx.out.c0; have c1 := bx.out.c1; have c2 := bx.out.c2; have c3 := bx.out.c3
  go_wp2_with fail
  clear c0 c1 c2 c3
  refine (HG.out _).mono ?_; rintro e w2 ⟨rfl, bb⟩
  replace B := Lib.hid (below_size B.out bb)
  replace bx := Lib.hid (bx.out.below bb)
  replace by_ := Lib.hid (by_.out.below bb)
  clear bb
  have d0 := by_.out.box.c0; have d1 := by_.out.box.c1; have d2 := by_.out.box.c2; have d3 := by_.out.box.c3; have d4 := by_.out.c4; have f0 := by_.out.box.f0; have f1 := by_.out.box.f1; have f2 := by_.out.box.f2; have f3 := by_.out.box.f3; have f4 := by_.out.f4
  go_wp2_with fail
  refine bodyPost_ret (results_ras rfl _ _ _ rfl (by_.out.set 0 0 0 0 Option.none 0 0)) rfl ?_
  exact retRas_err (((((B.out.setCell (by simp) _).setCell (by simp) _).setCell (by simp) _).setCell (by simp) _).setCell (by simp) _)

set_option maxRecDepth 100000 in
set_option maxHeartbeats 4000000 in
theorem join_yes (W H C D : Int) (a : Option Addr) (b off n cap : Nat) (ts : List Til) (w : World) (ha : 0 < n → a = some ⟨b, off, Option.none⟩) (hr : RL w b off n cap ts) (hm : mayN W H C D = true) (hn : n = tN W H) :
    Calls Try.prog 20 #[shp W H C D, .slice a n cap] w (RetRas w (jRes W H C D ts).1.1.1 (jRes W H C D ts).1.1.2.1 (jRes W H C D ts).1.1.2.2.1 (jRes W H C D ts).1.1.2.2.2 (jRes W H C D ts).1.2 (jRes W H C D ts).2) := by
  have hH' : -9223372036854775808 ≤ H ∧ H ≤ 9223372036854775807 := by have := (bnds_of_may hm).1; have h1 := this.2.2.1; have h2 := this.2.2.2.1; omega
  have hM := fun w' => mayShape_any W H C D w' hH'
  rw [hm] at hM
  have hG := fun w' => grid_may W H C D w' hm
  have hbn := (bnds_of_may hm).1
  obtain ⟨a1, a2, a3, a4, a5⟩ := tN_bd hbn
  rw [← a1, ← a2] at hG
  have q1 : IntKind.i64.wrap ((tA W : Int) * (tA H : Int)) = (tN W H : Nat) := by rw [← Int.natCast_mul]; exact Go.IntWalk.i64_in _ (by have : tA W * tA H = tN W H := rfl; rw [this]; omega)
  have HM := Lib.hid hM; have HG := Lib.hid hG
  have hsz := size_bd W H C D hbn
  have hs16 := (bnds_of_may hm).2
  obtain ⟨M, hMM⟩ : ∃ M, (sizeN W H C D).toNat = M := ⟨_, rfl⟩
  have hMi : sizeN W H C D = (M : Int) := by omega
  have csz := fun w' => size_any W H C D w' hH'
  rw [hMi] at csz
  have CSZ := Lib.hid csz
  have hM1 : 1 ≤ M := by omega
  have hM16 : M ≤ 16384 := by omega
  have hmR : mayR W H C D M = true := by unfold mayR; rw [hm, hMi]; simp
  have HMR := Lib.hid hmR
  have HMM := Lib.hid hMM
  have hmk := made_run M hM16
  obtain ⟨N, hN⟩ : ∃ N, tN W H = N := ⟨_, rfl⟩
  have HN := Lib.hid hN
  have hn' : n = N := by omega
  subst hn'
  rw [hN] at q1 a4 a5
  have HA := Lib.hid a1; have HB := Lib.hid hbn; have HMN := Lib.hid hm
  have hae := ha (by omega)
  subst hae
  have R := Lib.hid hr
  clear hM hG csz hr ha hm hn a2 a3 hbn hsz hs16 hMi hmR hN hMM
  clear a1
  have hH := hH'
  have bl : Below w.heap.size w ((w.alloc (.cells #[.int .i64 W, .int .i64 H, .int .i64 C, .int .i64 D] 23)).alloc (.cells #[.int .i64 0, .int .i64 0, .int .i64 0, .int .i64 0, .slice Option.none 0 0] 26)) := ((Below.refl _ _).alloc (Nat.le_refl _) _).alloc (by simp) _
  have bx := Lib.hid ((box_alloc w W H C D 23).below ((Below.refl _ _).alloc (Nat.le_refl _) (.cells #[.int .i64 0, .int .i64 0, .int .i64 0, .int .i64 0, .slice Option.none 0 0] 26)))
  have bs0 := rbox_alloc (w.alloc (.cells #[.int .i64 W, .int .i64 H, .int .i64 C, .int .i64 D] 23)) 0 0 0 0 Option.none 0 0 26
  rw [World.size_alloc] at bs0
  have by_ := Lib.hid bs0
  have B := Lib.hid bl
  replace R := Lib.hid (R.out.below bl)
  go_enter Try.func20, Try.ntmps20
  go_wp2_with fail
  generalize ((w.alloc (.cells #[.int .i64 W, .int .i64 H, .int .i64 C, .int .i64 D] 23)).alloc (.cells #[.int .i64 0, .int .i64 0, .int .i64 0, .int .i64 0, .slice Option.none 0 0] 26)) = v0 at *
  clear bl bs0
  refine (HM.out _).mono ?_; rintro e w1 ⟨rfl, bb⟩
  replace B := Lib.hid (below_size B.out bb)
  replace bx := Lib.hid (bx.out.below bb)
  replace by_ := Lib.hid (by_.out.below bb)
  replace R := Lib.hid (R.out.below bb)
  clear bb
  have c0 := bx.out.c0; have c1 := bx.out.c1; have c2 := bx.out.c2; have c3 := bx.out.c3
  go_wp2_with fail
  clear c0 c1 c2 c3
  refine (HG.out _).mono ?_; rintro e w2 ⟨rfl, bb⟩
  replace B := Lib.hid (below_size B.out bb)
  replace bx := Lib.hid (bx.out.below bb)
  replace by_ := Lib.hid (by_.out.below bb)
  replace R := Lib.hid (R.out.below bb)
  clear bb
  have hz2 := bx.out.lt
  have c0 := bx.out.c0; have c1 := bx.out.c1; have c2 := bx.out.c2; have c3 := bx.out.c3
  go_upto_region 6 with (fail)
  go_cut [8] (fun s wx => ∃ gb go, s = .pointer (some ⟨gb, 0, Option.none⟩) ∧ Out w2 W H C D M gb go (List.replicate M (0 : Int)) wx)
  case first =>
    have Keep : Hid (∀ w' : World, Below (w.heap.size + 1) w2 w' → w'.cell? ⟨w.heap.size, 0, Option.none⟩ = some (.int .i64 W) ∧ w'.cell? ⟨w.heap.size, 1, Option.none⟩ = some (.int .i64 H) ∧ w'.cell? ⟨w.heap.size, 2, Option.none⟩ = some (.int .i64 C) ∧ w'.cell? ⟨w.heap.size, 3, Option.none⟩ = some (.int .i64 D)) := Lib.hid fun w' e => ⟨(e.cell (p := ⟨w.heap.size, 0, Option.none⟩) (Nat.lt_succ_self _)).trans c0, (e.cell (p := ⟨w.heap.size, 1, Option.none⟩) (Nat.lt_succ_self _)).trans c1, (e.cell (p := ⟨w.heap.size, 2, Option.none⟩) (Nat.lt_succ_self _)).trans c2, (e.cell (p := ⟨w.heap.size, 3, Option.none⟩) (Nat.lt_succ_self _)).trans c3⟩
    have e0 : Below (w.heap.size + 1) w2 w2.drew := (Below.refl _ _).drew
    have hz3 : w.heap.size + 1 ≤ w2.drew.heap.size := hz2
    go_region_held3 (fun w' => w'.cell? ⟨w.heap.size, 0, Option.none⟩ = some (.int .i64 W) ∧ w'.cell? ⟨w.heap.size, 1, Option.none⟩ = some (.int .i64 H) ∧ w'.cell? ⟨w.heap.size, 2, Option.none⟩ = some (.int .i64 C) ∧ w'.cell? ⟨w.heap.size, 3, Option.none⟩ = some (.int .i64 D))
      ((refine Keep.out _ ?_; repeat (first | with_reducible exact e0 | with_reducible exact e1 | with_reducible exact Below.refl _ _ | with_reducible refine Below.drew ?_ | (refine Below.setCell ?_ (by first | omega | (simp; omega)) _) | (refine Below.alloc ?_ (by first | omega | (simp; omega)) _))))
      (first
      | (go_at_call 27; refine (CSZ.out _).mono ?_; rintro e x1 ⟨rfl, bb1⟩; have hz4 : w.heap.size + 1 ≤ x1.heap.size := Nat.le_trans (by first | omega | (simp; omega)) bb1.size; have e1 : Below (w.heap.size + 1) w2 x1 := Below.trans (by repeat (first | with_reducible exact e0 | with_reducible exact Below.refl _ _ | with_reducible refine Below.drew ?_ | (refine Below.alloc ?_ (by first | omega | (simp; omega)) _))) (bb1.mono (by first | omega | (simp; omega))); try (have k9 := ((rbox_alloc w2 0 0 0 0 Option.none 0 0 26).below (Below.refl _ _).drew).below bb1; have k0 := k9.box.c0; have k1 := k9.box.c1; have k2 := k9.box.c2; have k3 := k9.box.c3; have k4 := k9.c4; have f0 := k9.box.f0; have f1 := k9.box.f1; have f2 := k9.box.f2; have f3 := k9.box.f3; have f4 := k9.f4; have hz5 : w2.heap.size < x1.heap.size := k9.box.lt; have hz6 : ¬ w2.heap.size = x1.heap.size := Nat.ne_of_lt hz5; have hz7 : ¬ x1.heap.size = w2.heap.size := fun e => hz6 e.symm)))
    all_goals go_wp2_with fail
    all_goals go_meet
    · exact ⟨_, _, rfl, out_a ((Below.refl _ _).drew.trans bb1) W H C D hM16⟩
    · exact ⟨_, _, rfl, out_b ((Below.refl _ _).drew.trans bb1) W H C D hM16⟩
    · exact ⟨_, _, rfl, out_c (Below.trans ((Below.refl _ _).alloc (Nat.le_refl _) _).drew (bb1.mono (by simp))) W H C D hM16 k9 (Nat.le_refl _)⟩
  case rest =>
    obtain ⟨gb, go, rfl, hO⟩ := hcut
    have HO := Lib.hid hO
    have hzw2 := Lib.hid (show w.heap.size + 2 ≤ w2.heap.size from by_.out.lt)
    have R2 := R
    clear c0 c1 c2 c3 hmk hO
    go_wp2_with fail
    go_loopw [37] (fun vi wr => ∃ k : Nat, k ≤ n ∧ vi = .int .i64 k ∧ Hid (∀ i, i < k → jOk W H C D (ts.getD i ((0, 0, 0, 0), [])) i) ∧ Hid (Out w2 W H C D M gb go (jAll W H C D ts k) wr)) (fun vi _ => n - (intOf vi).toNat)
    case atStart =>
      refine ⟨0, Nat.zero_le _, rfl, Lib.hid (fun i hi => absurd hi (by omega)), ?_⟩
      rw [jAll, HMM.out]
      exact HO
    case round =>
      obtain ⟨k, hk, rfl, KJ, KO⟩ := hrel
      clear HO
      have HBL := Lib.hid KO.out.bel
      replace B := Lib.hid (below_size B.out HBL.out)
      replace bx := Lib.hid (bx.out.below HBL.out)
      replace by_ := Lib.hid (by_.out.below HBL.out)
      replace R := Lib.hid (R.out.below HBL.out)
      have hzr : w.heap.size + 1 < wr.heap.size := by_.out.lt
      have hzr2 : w.heap.size < wr.heap.size := bx.out.lt
      have HGO := Lib.hid (KO.out.own.lt go rfl)
      by_cases hlt : k < n
      · have T := tf_of HMR.out k (by rw [HN.out]; exact hlt)
        obtain ⟨p, c, v0, v1, v2, v3, v4, hp, hpB, hh1, hh2⟩ := R2.out.lift HBL.out k hlt
        have hgd : Hid (ts.getD k ((0, 0, 0, 0), []) = ts.getD k ((0, 0, 0, 0), [])) := Lib.hid rfl
        obtain ⟨t, ht⟩ : ∃ t, ts.getD k ((0, 0, 0, 0), []) = t := ⟨_, rfl⟩
        rw [ht] at v0 v1 v2 v3 v4 hp hpB hh1 hh2
        have HT := Lib.hid ht
        clear ht hgd
        obtain ⟨⟨W', H', C', D'⟩, xs⟩ := t
        dsimp only at v0 v1 v2 v3 v4 hp hpB hh1 hh2
        have HP2 := Lib.hid hp; have HP := Lib.hid (hp.below HBL.out); have HPB := Lib.hid hpB
        have csh := fun w' => shape_ok W H C D (k : Int) w' HMN.out ⟨by omega, T.hi⟩
        have CSH := Lib.hid csh
        have HTF := Lib.hid T
        have i9 : (k : Int) < n := by omega
        have i8 : (0 : Int) ≤ k := by omega
        clear csh T hp hpB
        have c0 := bx.out.c0; have c1 := bx.out.c1; have c2 := bx.out.c2; have c3 := bx.out.c3
        go_wp2_with fail
        clear v0 v1 v2 v3 v4 c0 c1 c2 c3
        have bl : Below wr.heap.size wr (wr.alloc (.cells #[.int .i64 W', .int .i64 H', .int .i64 C', .int .i64 D', .slice p xs.length c] 26)) := (Below.refl _ _).alloc (Nat.le_refl _) _
        have bt := Lib.hid (rbox_alloc wr W' H' C' D' p xs.length c 26)
        replace B := Lib.hid (below_size B.out bl)
        replace bx := Lib.hid (bx.out.below bl)
        replace by_ := Lib.hid (by_.out.below bl)
        replace R := Lib.hid (R.out.below bl)
        replace KO := Lib.hid (KO.out.below bl)
        replace HP := Lib.hid (HP.out.below bl)
        have hgt : wr.heap.size < (wr.alloc (.cells #[.int .i64 W', .int .i64 H', .int .i64 C', .int .i64 D', .slice p xs.length c] 26)).heap.size := by simp
        generalize hu0 : wr.alloc (.cells #[.int .i64 W', .int .i64 H', .int .i64 C', .int .i64 D', .slice p xs.length c] 26) = u0 at *
        clear hu0 bl
        have hgo : go < wr.heap.size := HGO.out.2
        have hgb : w2.heap.size ≤ go := HGO.out.1
        generalize wr.heap.size = gt at *
        refine (CSH.out _).mono ?_; rintro e u1 ⟨rfl, bb⟩
        replace B := Lib.hid (below_size B.out bb)
        replace bx := Lib.hid (bx.out.below bb)
        replace by_ := Lib.hid (by_.out.below bb)
        replace R := Lib.hid (R.out.below bb)
        replace KO := Lib.hid (KO.out.below bb)
        replace HP := Lib.hid (HP.out.below bb)
        replace bt := Lib.hid (bt.out.below bb)
        have hgt1 : gt < u1.heap.size := Nat.lt_of_lt_of_le hgt bb.size
        obtain ⟨tw, htw⟩ : ∃ tw, tileW W (k : Int) = tw := ⟨_, rfl⟩
        obtain ⟨th, hth⟩ : ∃ th, tileH W H (k : Int) = th := ⟨_, rfl⟩
        have HTW := Lib.hid htw; have HTH := Lib.hid hth
        rw [htw, hth]
        clear htw hth bb
        have hthb : th = ((tH W H k : Nat) : Int) := by rw [HTF.out.hH, HTH.out]
        have hth8 := HTF.out.h8
        have hth1 := HTF.out.h1
        have HBAD := Lib.hid (fun (hx : ¬ jOk W H C D ((W', H', C', D'), xs) k) => (show jRes W H C D ts = (((0, 0, 0, 0), []), 13) from by
          unfold jRes
          rw [if_pos HMN.out, if_pos (by rw [R.out.len, HN.out]), if_neg (fun hall => hx (by have := hall k (by rw [R.out.len]; exact hlt); rw [HT.out] at this; exact this))]))
        obtain ⟨h, hhh⟩ : ∃ h, tH W H k = h := ⟨_, rfl⟩
        rw [hhh] at hthb hth8 hth1
        have HHH := Lib.hid hhh
        subst hthb
        have hzu : w.heap.size + 1 < u1.heap.size := by_.out.lt
        have hzu2 : w.heap.size < u1.heap.size := bx.out.lt
        have hzu3 : ¬ w.heap.size + 1 = u1.heap.size := Nat.ne_of_lt hzu
        clear hhh
        have bl := Lib.hid (show Below u1.heap.size u1 (u1.alloc (.cells #[.int .i64 tw, .int .i64 h, .int .i64 C, .int .i64 D] 23)) from (Below.refl _ _).alloc (Nat.le_refl _) _)
        have bw := Lib.hid (box_alloc u1 tw h C D 23)
        by_cases hs : W' = tw ∧ H' = h ∧ C' = C ∧ D' = D
        · obtain ⟨rfl, rfl, rfl, rfl⟩ := hs
          have hH8 : -9223372036854775808 ≤ (h : Int) ∧ (h : Int) ≤ 9223372036854775807 := by omega
          have hgo1 : go < u1.heap.size := by omega
          have cmay := fun w' => may_any W' h C' D' p xs.length c w' hH8
          by_cases hmay : mayR W' h C' D' xs.length = true
          · have HMAY := Lib.hid hmay
            have HJ := Lib.hid (show jOk W H C' D' ((W', (h : Int), C', D'), xs) k from ⟨by rw [HTW.out, HTH.out], by rw [HTW.out, HTH.out]; exact hmay⟩)
            have HXL := Lib.hid (jOk_len HTF.out HJ.out)
            rw [hmay] at cmay
            have CMAY := Lib.hid cmay
            clear hmay cmay HBAD
            have e0 := bt.out.box.c0; have e1 := bt.out.box.c1; have e2 := bt.out.box.c2; have e3 := bt.out.box.c3; have e4 := bt.out.c4
            go_wp2_with fail
            replace B := Lib.hid (below_size B.out bl.out)
            replace bx := Lib.hid (bx.out.below bl.out); replace by_ := Lib.hid (by_.out.below bl.out); replace R := Lib.hid (R.out.below bl.out); replace KO := Lib.hid (KO.out.below bl.out); replace HP := Lib.hid (HP.out.below bl.out); replace bt := Lib.hid (bt.out.below bl.out)
            clear bl
            generalize u1.alloc (.cells #[.int .i64 W', .int .i64 h, .int .i64 C', .int .i64 D'] 23) = u2 at *
            generalize u1.heap.size = gw at *
            refine (CMAY.out _).mono ?_; rintro e u3 ⟨rfl, bb⟩
            clear e0 e1 e2 e3 e4
            replace B := Lib.hid (below_size B.out bb)
            replace bx := Lib.hid (bx.out.below bb); replace by_ := Lib.hid (by_.out.below bb); replace R := Lib.hid (R.out.below bb); replace KO := Lib.hid (KO.out.below bb); replace HP := Lib.hid (HP.out.below bb); replace bt := Lib.hid (bt.out.below bb); replace bw := Lib.hid (bw.out.below bb)
            clear bb
            have g1 := bw.out.c1
            go_wp2_with fail
            clear g1
            have hlen : 0 < xs.length := by rw [HXL.out, HHH.out]; exact Nat.mul_pos (by omega) HTF.out.r1
            obtain ⟨bp, offp, rfl, hbp, hcp⟩ := HP.out.cells hlen
            clear hcp
            have hple := HP.out.le
            have HJL := Lib.hid (show ∀ y, y ≤ h → (jRows W H C' D' xs (jAll W H C' D' ts k) k y).length = M from fun y hy => jRows_len HTF.out HXL.out (by simpa using KO.out.own.1) y (by rw [HHH.out]; exact hy))
            go_loopw [64] (fun vy wz => ∃ y : Nat, y ≤ h ∧ vy = .int .i64 y ∧ Hid (Out w2 W H C' D' M gb go (jRows W H C' D' xs (jAll W H C' D' ts k) k y) wz) ∧ Hid (RBox wz gt W' h C' D' (some ⟨bp, offp, Option.none⟩) xs.length c) ∧ Hid (Box wz gw W' h C' D')) (fun vy _ => h - (intOf vy).toNat)
            case atStart => exact ⟨0, Nat.zero_le _, rfl, KO, bt, bw⟩
            case round =>
              obtain ⟨y, hy, rfl, KY, bt1, bw1⟩ := hrel
              clear KO bt bw
              have HBZ := Lib.hid KY.out.bel
              by_cases hyl : y < h
              · have T := HTF.out
                have hyh : (y : Int) < tileH W H k := by rw [HTH.out]; omega
                obtain ⟨P, hP⟩ : ∃ P, (k / tA W * 8 + y) * tR W H C' D' = P := ⟨_, rfl⟩
                have cpart := fun w' => part_any W H C' D' go 0 M M k y (tR W H C' D') P (tA W) (tB0 W C' D' k) (tRt W H C' D' k) w' HMR.out T.hA T.hi hyh (Nat.le_refl _) T.hR hP.symm T.hB T.hRt
                rw [HTW.out, HTH.out, Nat.zero_add] at cpart
                have hrt : ((tRt W H C' D' k : Nat) : Int) = rowN W' h C' D' := by rw [T.hRt, HTW.out, HTH.out]
                have crow := fun w' => tileRow_any W' h C' D' bp offp xs.length c y (tRt W H C' D' k) (y * tRt W H C' D' k) w' HMAY.out (by omega) hple hrt rfl
                have hfit := T.fit y (by rw [HHH.out]; exact hyl)
                rw [hP] at hfit
                have hsl := jSeg_len (t := xs) (y := y) (by rw [HHH.out]; exact hyl) HXL.out
                have hkle : y * tRt W H C' D' k + tRt W H C' D' k ≤ xs.length := by
                  have : (y + 1) * tRt W H C' D' k ≤ h * tRt W H C' D' k := Nat.mul_le_mul_right _ hyl
                  rw [Nat.add_mul, Nat.one_mul] at this
                  have e := HXL.out
                  rw [HHH.out] at e
                  omega
                have HSEG := Lib.hid (fun (wz : World) (hr : Reads .u8 wz (some ⟨bp, offp, Option.none⟩) xs.length c xs) => (show Reads .u8 wz (some ⟨bp, offp + y * tRt W H C' D' k, Option.none⟩) (tRt W H C' D' k) (c - y * tRt W H C' D' k) (jSeg W H C' D' xs k y) from by
                  have := reads_seg hr (y * tRt W H C' D' k) 0 (tRt W H C' D' k) (by omega) T.r1
                  simpa [jSeg] using this))
                have HNXT := Lib.hid (show jRows W H C' D' xs (jAll W H C' D' ts k) k (y + 1) = (jRows W H C' D' xs (jAll W H C' D' ts k) k y).take (P + tB0 W C' D' k) ++ (jSeg W H C' D' xs k y ++ (jRows W H C' D' xs (jAll W H C' D' ts k) k y).drop (P + tB0 W C' D' k + tRt W H C' D' k)) from by
                  rw [jRows]; unfold jRow jP; rw [hP])
                have HGT2 := Lib.hid (show go ≠ gt ∧ go ≠ gw from ⟨by omega, by omega⟩)
                clear T hyh hP hrt
                generalize hzs1 : jRows W H C' D' xs (jAll W H C' D' ts k) k (y + 1) = zs1 at *
                have HZ1 := Lib.hid hzs1
                clear hzs1
                generalize hzs0 : jRows W H C' D' xs (jAll W H C' D' ts k) k y = zs0 at *
                clear hzs0
                generalize jSeg W H C' D' xs k y = seg at *
                generalize tRt W H C' D' k = Rt at *
                generalize tB0 W C' D' k = B0 at *
                generalize y * Rt = K at *
                have CPART := Lib.hid cpart; have CROW := Lib.hid crow
                clear cpart crow
                have HPZ := Lib.hid (HP2.out.below KY.out.bel)
                have d0 := fun x : GrownW wr => x.cell KY.out.box.lt KY.out.box.box.c0; have d1 := fun x : GrownW wr => x.cell KY.out.box.lt KY.out.box.box.c1; have d2 := fun x : GrownW wr => x.cell KY.out.box.lt KY.out.box.box.c2; have d3 := fun x : GrownW wr => x.cell KY.out.box.lt KY.out.box.box.c3; have d4 := fun x : GrownW wr => x.cell KY.out.box.lt KY.out.box.c4
                have g0 := fun x : GrownW wr => x.cell bw1.out.lt bw1.out.c0; have g1 := fun x : GrownW wr => x.cell bw1.out.lt bw1.out.c1; have g2 := fun x : GrownW wr => x.cell bw1.out.lt bw1.out.c2; have g3 := fun x : GrownW wr => x.cell bw1.out.lt bw1.out.c3
                have e0 := fun x : GrownW wr => x.cell bt1.out.lt bt1.out.box.c0; have e1 := fun x : GrownW wr => x.cell bt1.out.lt bt1.out.box.c1; have e2 := fun x : GrownW wr => x.cell bt1.out.lt bt1.out.box.c2; have e3 := fun x : GrownW wr => x.cell bt1.out.lt bt1.out.box.c3; have e4 := fun x : GrownW wr => x.cell bt1.out.lt bt1.out.c4
                go_wp2_with fail
                refine wp_region_any (by kernel_rfl) ?_
                change wpAny _ _ _ _ _ _ _ (World.drew _)
                refine wpAny_grow_tail [0, 1, 2, 3, 4, 5, 6, 7] [8] (by kernel_rfl) ?_
                simp only [pickOps, List.getElem?_toArray, List.getElem?_cons_zero, List.getElem?_cons_succ, Option.toList_some, List.cons_append, List.nil_append]
                repeat (go_big_quiet_step (first
                  | (go_at_call 29; exact grow_call (CPART.out _))
                  | (go_at_call 28; exact grow_call (CROW.out _))))
                refine wpQuiet_nil ?_
                intro wg hw'
                obtain ⟨⟨wz, hbg⟩, hw''⟩ := hw'
                subst hw''
                clear d0 d1 d2 d3 d4 g0 g1 g2 g3 e0 e1 e2 e3 e4
                have KYg := KY.out.below hbg
                refine wpList_copy_row rfl _ _ 24 rfl w2.heap.size 5 Try.underlying24 infoU1 .u8 go (P + B0) M M Rt _ zs0 KYg.own rfl _ Rt _ seg rfl (HSEG.out wg (HPZ.out.below hbg)) Rt (Nat.min_self _).symm hfit ?_
                intro wq hq gq
                rw [List.take_of_length_le (Nat.le_of_eq hsl), ← HNXT.out] at hq
                have KQ := Lib.hid (KYg.fill hq gq)
                have b1g := bt1.out.below hbg
                have b2g := bw1.out.below hbg
                have btq := Lib.hid (rbox_block b1g gq.size (gq.block gt b1g.lt (by simp; exact HGT2.out.1.symm)))
                have bwq := Lib.hid (box_block b2g gq.size (gq.block gw b2g.lt (by simp; exact HGT2.out.2.symm)))
                clear hq gq KYg b1g b2g hbg
                go_wp2_with fail
                go_roundw
                case rel => exact ⟨y + 1, by omega, by go_num, by rw [HZ1.out]; exact KQ, btq, bwq⟩
                case measure => simp [intOf]; omega
              · obtain rfl : y = h := by omega
                go_wp2_with fail
                go_roundw
                case rel =>
                  refine ⟨k + 1, by omega, by go_num, Lib.hid (fun i hi => ?_), ?_⟩
                  · by_cases e : i = k
                    · subst e; rw [HT.out]; exact HJ.out
                    · exact KJ.out i (by omega)
                  · rw [jAll, HT.out, HHH.out]; exact KY
                case measure => simp [intOf]; omega
          · have hmay' : mayR W' h C' D' xs.length = false := by simpa using hmay
            rw [hmay'] at cmay
            have CMAY := Lib.hid cmay
            have HX := Lib.hid (show ¬ jOk W H C' D' ((W', (h : Int), C', D'), xs) k from fun h => hmay (by have := h.2; rw [HTW.out, HTH.out] at this; exact this))
            clear hmay hmay' cmay
            have e0 := bt.out.box.c0; have e1 := bt.out.box.c1; have e2 := bt.out.box.c2; have e3 := bt.out.box.c3; have e4 := bt.out.c4
            go_wp2_with fail
            replace B := Lib.hid (below_size B.out bl.out)
            replace bx := Lib.hid (bx.out.below bl.out); replace by_ := Lib.hid (by_.out.below bl.out); replace R := Lib.hid (R.out.below bl.out); replace KO := Lib.hid (KO.out.below bl.out); replace HP := Lib.hid (HP.out.below bl.out); replace bt := Lib.hid (bt.out.below bl.out)
            clear bl
            generalize u1.alloc (.cells #[.int .i64 W', .int .i64 h, .int .i64 C', .int .i64 D'] 23) = u2 at *
            generalize u1.heap.size = gw at *
            refine (CMAY.out _).mono ?_; rintro e u3 ⟨rfl, bb⟩
            clear e0 e1 e2 e3 e4
            replace B := Lib.hid (below_size B.out bb)
            replace by_ := Lib.hid (by_.out.below bb)
            clear bb hzu hzu2 hzu3
            have d0 := by_.out.box.c0; have d1 := by_.out.box.c1; have d2 := by_.out.box.c2; have d3 := by_.out.box.c3; have d4 := by_.out.c4; have f0 := by_.out.box.f0; have f1 := by_.out.box.f1; have f2 := by_.out.box.f2; have f3 := by_.out.box.f3; have f4 := by_.out.f4
            go_wp2_with fail
            (refine bodyPost_ret (results_ras rfl _ _ _ rfl (by_.out.set 0 0 0 0 Option.none 0 0)) rfl ?_
             rw [HBAD.out HX.out]
             exact retRas_err (((((B.out.setCell (by simp) _).setCell (by simp) _).setCell (by simp) _).setCell (by simp) _).setCell (by simp) _))
        · have HX2 := Lib.hid hs
          have HX := Lib.hid (show ¬ jOk W H C D ((W', H', C', D'), xs) k from fun h => hs (by have := h.1; rw [HTW.out, HTH.out] at this; simpa using this))
          clear hs
          have e0 := bt.out.box.c0; have e1 := bt.out.box.c1; have e2 := bt.out.box.c2; have e3 := bt.out.box.c3; have e4 := bt.out.c4
          go_upto_region 12 with (fail)
          all_goals first
            | (exfalso; exact HX2.out ⟨by assumption, by assumption, by assumption, by assumption⟩)
            | (replace B := Lib.hid (below_size B.out bl.out)
               replace by_ := Lib.hid (by_.out.below bl.out)
               clear bl bw bt e0 e1 e2 e3 e4 HP HPB KO R KJ bx hzu hzu2 hzu3 HTF
               generalize u1.alloc (.cells #[.int .i64 tw, .int .i64 h, .int .i64 C, .int .i64 D] 23) = u2 at *
               have d0 := by_.out.box.c0; have d1 := by_.out.box.c1; have d2 := by_.out.box.c2; have d3 := by_.out.box.c3; have d4 := by_.out.c4; have f0 := by_.out.box.f0; have f1 := by_.out.box.f1; have f2 := by_.out.box.f2; have f3 := by_.out.box.f3; have f4 := by_.out.f4
               go_wp2_with fail
               refine bodyPost_ret (results_ras rfl _ _ _ rfl (by_.out.set 0 0 0 0 Option.none 0 0)) rfl ?_
               rw [HBAD.out HX.out]
               exact retRas_err (((((B.out.setCell (by simp) _).setCell (by simp) _).setCell (by simp) _).setCell (by simp) _).setCell (by simp) _))
      · obtain rfl : k = n := by omega
        have HRES := Lib.hid (show jRes W H C D ts = (((W, H, C, D), jAll W H C D ts k), 0) from by
          unfold jRes
          rw [if_pos HMN.out, if_pos (by rw [R.out.len, HN.out]), if_pos (fun i hi => KJ.out i (by rw [← R.out.len]; exact hi)), R.out.len])
        have hgb := KO.out.ge
        have hgo1 := HGO.out.1
        have ho := KO.out.own
        have hol : (jAll W H C D ts k).length = M := by simpa using ho.1
        have HOW := Lib.hid ho
        have hsz2 : w.heap.size + 2 ≤ w2.heap.size := hzw2.out
        have c0 := KO.out.box.box.c0; have c1 := KO.out.box.box.c1; have c2 := KO.out.box.box.c2; have c3 := KO.out.box.box.c3; have c4 := KO.out.box.c4
        have d0 := by_.out.box.c0; have d1 := by_.out.box.c1; have d2 := by_.out.box.c2; have d3 := by_.out.box.c3; have d4 := by_.out.c4; have f0 := by_.out.box.f0; have f1 := by_.out.box.f1; have f2 := by_.out.box.f2; have f3 := by_.out.box.f3; have f4 := by_.out.f4
        clear ho
        go_wp2_with fail
        refine bodyPost_ret (results_ras rfl _ _ _ rfl (by_.out.set W H C D (some ⟨go, 0, Option.none⟩) M M)) rfl ?_
        rw [HRES.out]
        unfold RetRas
        dsimp only
        rw [hol]
        exact ⟨some ⟨go, 0, Option.none⟩, M, rfl, owns_base (owns_under (owns_under (owns_under (owns_under (owns_under HOW.out (w.heap.size + 1) 0 (.int .i64 W) (by omega)) (w.heap.size + 1) 1 (.int .i64 H) (by omega)) (w.heap.size + 1) 2 (.int .i64 C) (by omega)) (w.heap.size + 1) 3 (.int .i64 D) (by omega)) (w.heap.size + 1) 4 (.slice (some ⟨go, 0, Option.none⟩) M M) (by omega)) (by omega), (((((B.out.setCell (by simp) _).setCell (by simp) _).setCell (by simp) _).setCell (by simp) _).setCell (by simp) _)⟩

end Go.Proofs.Ytdmaoaclhaofbaa
