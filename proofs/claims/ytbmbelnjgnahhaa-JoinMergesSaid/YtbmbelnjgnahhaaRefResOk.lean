/-
  aquref17.Resolve of trees alike.
-/
import Derived.Test.YtbmbelnjgnahhaaRefRes
import Derived.StillTailTactics
namespace Go.Proofs.Ytbmbelnjgnahhaa
open Go.RowKit

set_option maxRecDepth 100000 in
set_option maxHeartbeats 4000000 in
theorem rresolve_ok (W H C D : Int) (po xo co pa xa ca n pm xm cm : Nat) (oks aks : List ByteArray) (ms : List Bool) (w : World) (ho : TOk w (⟨W, H, C, D, some ⟨po, xo, Option.none⟩, n, co, oks⟩ : TV)) (ha : TOk w (⟨W, H, C, D, some ⟨pa, xa, Option.none⟩, n, ca, aks⟩ : TV)) (hms : Bls w (some ⟨pm, xm, Option.none⟩) n cm ms) (m1 : TV.may (⟨W, H, C, D, some ⟨po, xo, Option.none⟩, n, co, oks⟩ : TV) = true) (m2 : TV.may (⟨W, H, C, D, some ⟨pa, xa, Option.none⟩, n, ca, aks⟩ : TV) = true) (hn1 : 0 < n) :
    Calls Try.prog 15 #[TV.val (⟨W, H, C, D, some ⟨po, xo, Option.none⟩, n, co, oks⟩ : TV), .slice (some ⟨pm, xm, Option.none⟩) n cm, TV.val (⟨W, H, C, D, some ⟨pa, xa, Option.none⟩, n, ca, aks⟩ : TV)] w (RetTree W H C D (resKs oks aks ms n) w) := by
  obtain ⟨w1, hw1, x1, x2, x4, b1, s1⟩ := three_boxes0 w (⟨W, H, C, D, some ⟨po, xo, Option.none⟩, n, co, oks⟩ : TV) (⟨W, H, C, D, some ⟨pa, xa, Option.none⟩, n, ca, aks⟩ : TV) 30
  have Y6 := Lib.hid x1; have Z6 := Lib.hid x2; have X6 := Lib.hid x4; have B6 := Lib.hid b1; have HW := Lib.hid hw1
  have KOT := Lib.hid (ho.below b1); have KAT := Lib.hid (ha.below b1); have KM := Lib.hid (hms.below b1)
  have M1 := Lib.hid (fun w' (h : TOk w' (⟨W, H, C, D, some ⟨po, xo, Option.none⟩, n, co, oks⟩ : TV)) => by have := rmayV h; rw [m1] at this; exact this)
  have M2 := Lib.hid (fun w' (h : TOk w' (⟨W, H, C, D, some ⟨pa, xa, Option.none⟩, n, ca, aks⟩ : TV)) => by have := rmayV h; rw [m2] at this; exact this)
  have S1 := Lib.hid (fun w' => by have := eqShape_any W H C D W H C D w'; rw [decide_eq_true (show eqS W H C D W H C D from ⟨rfl, rfl, rfl, rfl⟩)] at this; exact this)
  have hlo := ho.strs.len
  have hn300 : n ≤ 300 := by have h2 := ho.short.1; simp only at hlo h2; omega
  have HLO := Lib.hid hlo
  have SZ := Lib.hid s1
  clear hw1 x1 x2 x4 b1 s1 ho ha m1 m2 hms hlo
  go_enter Try.func15, Try.ntmps15
  go_upto_region 1 with (fail)
  rw [HW.out]
  have c0 := Y6.out.box.c0; have c1 := Y6.out.box.c1; have c2 := Y6.out.box.c2; have c3 := Y6.out.box.c3; have c4 := Y6.out.c4
  have d0 := Z6.out.box.c0; have d1 := Z6.out.box.c1; have d2 := Z6.out.box.c2; have d3 := Z6.out.box.c3; have d4 := Z6.out.c4
  go_wp2_with fail
  refine (M1.out _ KOT.out).mono ?_; rintro e w2 ⟨rfl, b2⟩
  clear c0 c1 c2 c3 c4 d0 d1 d2 d3 d4
  replace Y6 := Lib.hid (Y6.out.below b2); replace Z6 := Lib.hid (Z6.out.below b2); replace X6 := Lib.hid (X6.out.below b2); replace B6 := Lib.hid (below_size B6.out b2); replace KOT := Lib.hid (KOT.out.below b2); replace KAT := Lib.hid (KAT.out.below b2); replace KM := Lib.hid (KM.out.below b2)
  have s2 : w.heap.size + 3 ≤ w2.heap.size := by have := b2.size; have := SZ.out; omega
  clear b2 M1 SZ
  have d0 := Z6.out.box.c0; have d1 := Z6.out.box.c1; have d2 := Z6.out.box.c2; have d3 := Z6.out.box.c3; have d4 := Z6.out.c4
  go_wp2_with fail
  refine (M2.out _ KAT.out).mono ?_; rintro e w3 ⟨rfl, b2⟩
  clear d0 d1 d2 d3 d4
  replace Y6 := Lib.hid (Y6.out.below b2); replace Z6 := Lib.hid (Z6.out.below b2); replace X6 := Lib.hid (X6.out.below b2); replace B6 := Lib.hid (below_size B6.out b2); replace KOT := Lib.hid (KOT.out.below b2); replace KAT := Lib.hid (KAT.out.below b2); replace KM := Lib.hid (KM.out.below b2)
  have s3 : w.heap.size + 3 ≤ w3.heap.size := by have := b2.size; omega
  clear b2 M2 s2
  have c0 := Y6.out.box.c0; have c1 := Y6.out.box.c1; have c2 := Y6.out.box.c2; have c3 := Y6.out.box.c3; have c4 := Y6.out.c4
  have d0 := Z6.out.box.c0; have d1 := Z6.out.box.c1; have d2 := Z6.out.box.c2; have d3 := Z6.out.box.c3; have d4 := Z6.out.c4
  go_wp2_with fail
  refine (S1.out _).mono ?_; rintro e w6 ⟨rfl, b2⟩
  clear c0 c1 c2 c3 c4 d0 d1 d2 d3 d4
  replace Y6 := Lib.hid (Y6.out.below b2); replace Z6 := Lib.hid (Z6.out.below b2); replace X6 := Lib.hid (X6.out.below b2); replace B6 := Lib.hid (below_size B6.out b2); replace KOT := Lib.hid (KOT.out.below b2); replace KAT := Lib.hid (KAT.out.below b2); replace KM := Lib.hid (KM.out.below b2)
  have KO := Lib.hid KOT.out.strs; have KA := Lib.hid KAT.out.strs
  have hs6 : w.heap.size + 2 < w6.heap.size := by have := b2.size; omega
  clear b2 S1 s3 KOT KAT
  have d0 := Y6.out.box.c0; have d1 := Y6.out.box.c1; have d2 := Y6.out.box.c2; have d3 := Y6.out.box.c3; have d4 := Y6.out.c4
  have e0 := Z6.out.box.c0; have e1 := Z6.out.box.c1; have e2 := Z6.out.box.c2; have e3 := Z6.out.box.c3; have e4 := Z6.out.c4
  go_upto_region 5 with (fail)
  clear d0 d1 d2 d3 d4 e0 e1 e2 e3 e4
  go_cut [8] (fun s wx => ∃ gb a' k', s = .pointer (some ⟨gb, 0, Option.none⟩) ∧ OutS w6 W H C D n gb a' k' oks wx)
  case first =>
    have Keep : Hid (∀ w' : World, Below w6.heap.size w6 w' → w'.cell? ⟨w.heap.size, 0, Option.none⟩ = some (.int .i64 W) ∧ w'.cell? ⟨w.heap.size, 1, Option.none⟩ = some (.int .i64 H) ∧ w'.cell? ⟨w.heap.size, 2, Option.none⟩ = some (.int .i64 C) ∧ w'.cell? ⟨w.heap.size, 3, Option.none⟩ = some (.int .i64 D) ∧ w'.cell? ⟨w.heap.size, 4, Option.none⟩ = some (.slice (some ⟨po, xo, Option.none⟩) n co)) := Lib.hid fun w' e => by
      have h := Y6.out.below e
      exact ⟨h.box.c0, h.box.c1, h.box.c2, h.box.c3, h.c4⟩
    have CL : Hid (∀ w', Below w6.heap.size w6 w' → Calls Try.prog 10 #[.slice (some ⟨po, xo, Option.none⟩) n co] w' (RetStrs w' oks)) := Lib.hid fun w' h => copyTexts_any (some ⟨po, xo, Option.none⟩) n co oks w' (KO.out.below h) (by omega)
    have e0 : Below w6.heap.size w6 w6.drew := (Below.refl _ _).drew
    have hz3 : w6.heap.size ≤ w6.drew.heap.size := Nat.le_refl _
    go_region_held3 (fun w' => w'.cell? ⟨w.heap.size, 0, Option.none⟩ = some (.int .i64 W) ∧ w'.cell? ⟨w.heap.size, 1, Option.none⟩ = some (.int .i64 H) ∧ w'.cell? ⟨w.heap.size, 2, Option.none⟩ = some (.int .i64 C) ∧ w'.cell? ⟨w.heap.size, 3, Option.none⟩ = some (.int .i64 D) ∧ w'.cell? ⟨w.heap.size, 4, Option.none⟩ = some (.slice (some ⟨po, xo, Option.none⟩) n co))
      ((refine Keep.out _ ?_; repeat (first | with_reducible exact e0 | with_reducible exact e1 | with_reducible exact Below.refl _ _ | with_reducible refine Below.drew ?_ | (refine Below.setCell ?_ (by first | omega | (simp <;> omega)) _) | (refine Below.alloc ?_ (by first | omega | (simp <;> omega)) _))))
      (first
      | (go_at_call 10; refine (CL.out _ (by repeat (first | with_reducible exact e0 | with_reducible exact Below.refl _ _ | with_reducible refine Below.drew ?_ | (refine Below.alloc ?_ (by first | omega | (simp <;> omega)) _)))).mono ?_; rintro e x1 ⟨a', k', rfl, o1, bb1⟩; rw [HLO.out] at o1 ⊢; have e1 : Below w6.heap.size w6 x1 := Below.trans (by repeat (first | with_reducible exact e0 | with_reducible exact Below.refl _ _ | with_reducible refine Below.drew ?_ | (refine Below.alloc ?_ (by first | omega | (simp <;> omega)) _))) (bb1.mono (by first | omega | (simp <;> omega))); have hz4 : w6.heap.size ≤ x1.heap.size := e1.size; try (have k9 := ((rbox_alloc w6 0 0 0 0 Option.none 0 0 30).below (Below.refl _ _).drew).below bb1; have k0 := k9.box.c0; have k1 := k9.box.c1; have k2 := k9.box.c2; have k3 := k9.box.c3; have k4 := k9.c4; have f0 := k9.box.f0; have f1 := k9.box.f1; have f2 := k9.box.f2; have f3 := k9.box.f3; have f4 := k9.f4; have hz5 : w6.heap.size < x1.heap.size := k9.box.lt; have hz6 : ¬ w6.heap.size = x1.heap.size := Nat.ne_of_lt hz5; have hz7 : ¬ x1.heap.size = w6.heap.size := fun e => hz6 e.symm)))
    all_goals go_wp2_with fail
    all_goals go_meet
    · exact ⟨_, _, _, rfl, outS_aT _ e1 W H C D o1⟩
    · exact ⟨_, _, _, rfl, outS_b e1 W H C D (Nat.le_refl _) k9 (owns_base o1 (by simp)) (fun e => by have := (o1.lt _ e).1; simp at this; omega)⟩
  case rest =>
    obtain ⟨gb, a', k', rfl, hO⟩ := hcut
    obtain ⟨gk, rfl, hgk⟩ := owns_addr hO.own hn1
    have HO := Lib.hid hO
    clear hO
    have hgb : gb < wc.heap.size := HO.out.box.lt
    have hgk2 : gk < wc.heap.size := (HO.out.own.lt gk rfl).2
    have HN := Lib.hid (show gk ≠ gb from fun e => HO.out.ne (by rw [e]; rfl))
    go_wp2_with fail
    go_loopw [9] (fun vi wr => ∃ i : Nat, i ≤ n ∧ vi = .int .i64 i ∧ Hid (OutS w6 W H C D n gb (some ⟨gk, 0, Option.none⟩) k' (resKs oks aks ms i) wr)) (fun vi _ => n - (intOf vi).toNat)
    case atStart => exact ⟨0, Nat.zero_le _, rfl, Lib.hid (by rw [resKs_zero]; exact HO.out)⟩
    case round =>
      clear HO
      obtain ⟨i, hi, rfl, J⟩ := hrel
      have bel := J.out.bel
      by_cases hlt : i < n
      · have j1 : (i : Int) < n := by omega
        have j2 : (0 : Int) ≤ i := by omega
        have HZ := Lib.hid (Z6.out.below bel)
        obtain ⟨_, _, hq, _, sm⟩ := (KM.out.below bel).cellAt i hlt
        obtain ⟨rfl, rfl⟩ : pm = _ ∧ xm = _ := by simpa using hq
        obtain ⟨_, _, hq, _, sa⟩ := (KA.out.below bel).cellAt i hlt
        obtain ⟨rfl, rfl⟩ : pa = _ ∧ xa = _ := by simpa using hq
        replace sa : wr.cell? ⟨pa, xa + i, Option.none⟩ = some (.string (kAt aks i)) := sa
        have HKS := Lib.hid (resKs_same oks aks ms i)
        have HKT := Lib.hid (resKs_set oks aks ms i)
        clear hq bel
        have J2 : Hid (∀ j, OutS w6 W H C D n gb (some ⟨gk, 0, Option.none⟩) k' (resKs oks aks ms i) (wr.drewN j)) := Lib.hid fun j => J.out.below (below_drewN (Below.refl _ _) j)
        have hb4 := J.out.box.c4
        have hkc := ownsA_cell ByteArray.empty J.out.own i hlt
        have hkf := J.out.own.frozenAt i
        have e0 := HZ.out.box.c0; have e1 := HZ.out.box.c1; have e2 := HZ.out.box.c2; have e3 := HZ.out.box.c3; have e4 := HZ.out.c4
        generalize (resKs oks aks ms i).getD i ByteArray.empty = kold at *
        generalize kAt aks i = a at *
        generalize ms.getD i false = m at *
        cases m with
        | false =>
          go_wp2_with fail
          go_roundw
          case rel => exact ⟨i + 1, by omega, by go_num, by rw [HKS.out rfl]; exact J⟩
          case measure => simp [intOf]; omega
        | true =>
          go_upto_region 10 with (fail)
          refine wp_region_still_tail 9 (by kernel_rfl) (by kernel_rfl) ?_
          simp only [List.take_succ_cons, List.take_zero, List.drop_succ_cons, List.drop_zero]
          repeat still_step
          refine wpStill_nil ?_
          change wpList _ _ _ _ _ wr.drew
          go_wp2_with fail
          go_roundw
          case rel => exact ⟨i + 1, by omega, by go_num, Lib.hid (by rw [HKT.out rfl]; exact (J2.out 1).store i a)⟩
          case measure => simp [intOf]; omega
      · have hin : i = n := by omega
        have j1 : ¬ (i : Int) < n := by omega
        rw [hin] at J
        have HX := Lib.hid (X6.out.below bel)
        have HBO := Lib.hid J.out.box
        clear bel hin
        have d0 := HX.out.box.c0; have d1 := HX.out.box.c1; have d2 := HX.out.box.c2; have d3 := HX.out.box.c3; have d4 := HX.out.c4; have f0 := HX.out.box.f0; have f1 := HX.out.box.f1; have f2 := HX.out.box.f2; have f3 := HX.out.box.f3; have f4 := HX.out.f4
        have e0 := HBO.out.box.c0; have e1 := HBO.out.box.c1; have e2 := HBO.out.box.c2; have e3 := HBO.out.box.c3; have e4 := HBO.out.c4
        go_wp2_with fail
        refine bodyPost_ret (results_tree2r rfl _ _ _ rfl (HX.out.set W H C D (some ⟨gk, 0, Option.none⟩) n k')) rfl ?_
        have hl : (resKs oks aks ms n).length = n := by rw [resKs_len, HLO.out]
        refine ⟨some ⟨gk, 0, Option.none⟩, k', by rw [hl]; rfl, ?_, ?_⟩
        · rw [hl]
          exact owns_base (owns_under (owns_under (owns_under (owns_under (owns_under J.out.own _ _ _ (by omega)) _ _ _ (by omega)) _ _ _ (by omega)) _ _ _ (by omega)) _ _ _ (by omega)) B6.out.size
        · have hbb := below_size B6.out J.out.bel
          exact ((((hbb.setCell (by simp <;> omega) _).setCell (by simp <;> omega) _).setCell (by simp <;> omega) _).setCell (by simp <;> omega) _).setCell (by simp <;> omega) _
end Go.Proofs.Ytbmbelnjgnahhaa
