/-
  aquref17.MergeTrees of trees alike.
-/
import Derived.Test.YtbmbelnjgnahhaaRefMer
import Derived.StillTailTactics
namespace Go.Proofs.Ytbmbelnjgnahhaa
open Go.RowKit

set_option maxRecDepth 100000 in
set_option maxHeartbeats 4000000 in
theorem rmerge_ok (W H C D : Int) (po xo co pa xa ca pb xb cb n : Nat) (oks aks bks : List ByteArray) (w : World) (ho : TOk w (⟨W, H, C, D, some ⟨po, xo, Option.none⟩, n, co, oks⟩ : TV)) (ha : TOk w (⟨W, H, C, D, some ⟨pa, xa, Option.none⟩, n, ca, aks⟩ : TV)) (hb : TOk w (⟨W, H, C, D, some ⟨pb, xb, Option.none⟩, n, cb, bks⟩ : TV)) (m1 : TV.may (⟨W, H, C, D, some ⟨po, xo, Option.none⟩, n, co, oks⟩ : TV) = true) (m2 : TV.may (⟨W, H, C, D, some ⟨pa, xa, Option.none⟩, n, ca, aks⟩ : TV) = true) (m3 : TV.may (⟨W, H, C, D, some ⟨pb, xb, Option.none⟩, n, cb, bks⟩ : TV) = true) (hn1 : 0 < n) :
    Calls Try.prog 12 #[TV.val (⟨W, H, C, D, some ⟨po, xo, Option.none⟩, n, co, oks⟩ : TV), TV.val (⟨W, H, C, D, some ⟨pa, xa, Option.none⟩, n, ca, aks⟩ : TV), TV.val (⟨W, H, C, D, some ⟨pb, xb, Option.none⟩, n, cb, bks⟩ : TV)] w (RetMerge W H C D (mergeKs oks aks bks n) (mergeMs oks aks bks n) w) := by
  obtain ⟨w1, hw1, x1, x2, x3, x4, b1, s1⟩ := four_boxes w (⟨W, H, C, D, some ⟨po, xo, Option.none⟩, n, co, oks⟩ : TV) (⟨W, H, C, D, some ⟨pa, xa, Option.none⟩, n, ca, aks⟩ : TV) (⟨W, H, C, D, some ⟨pb, xb, Option.none⟩, n, cb, bks⟩ : TV) 30
  have Y6 := Lib.hid x1; have Z6 := Lib.hid x2; have V6 := Lib.hid x3; have X6 := Lib.hid x4; have B6 := Lib.hid b1; have HW := Lib.hid hw1
  have KOT := Lib.hid (ho.below b1); have KAT := Lib.hid (ha.below b1); have KBT := Lib.hid (hb.below b1)
  have M1 := Lib.hid (fun w' (h : TOk w' (⟨W, H, C, D, some ⟨po, xo, Option.none⟩, n, co, oks⟩ : TV)) => by have := rmayV h; rw [m1] at this; exact this)
  have M2 := Lib.hid (fun w' (h : TOk w' (⟨W, H, C, D, some ⟨pa, xa, Option.none⟩, n, ca, aks⟩ : TV)) => by have := rmayV h; rw [m2] at this; exact this)
  have M3 := Lib.hid (fun w' (h : TOk w' (⟨W, H, C, D, some ⟨pb, xb, Option.none⟩, n, cb, bks⟩ : TV)) => by have := rmayV h; rw [m3] at this; exact this)
  have S1 := Lib.hid (fun w' => by have := eqShape_any W H C D W H C D w'; rw [decide_eq_true (show eqS W H C D W H C D from ⟨rfl, rfl, rfl, rfl⟩)] at this; exact this)
  have S2 := Lib.hid S1.out
  have hlo := ho.strs.len; have hla := ha.strs.len; have hlb := hb.strs.len
  have hn300 : n ≤ 300 := by have h2 := ho.short.1; simp only at hlo h2; omega
  have HLO := Lib.hid hlo; have HLA := Lib.hid hla; have HLB := Lib.hid hlb
  clear hw1 x1 x2 x3 x4 b1 ho ha hb m1 m2 m3 hlo hla hlb
  go_enter Try.func12, Try.ntmps12
  go_upto_region 1 with (fail)
  rw [HW.out]
  have c0 := Y6.out.box.c0; have c1 := Y6.out.box.c1; have c2 := Y6.out.box.c2; have c3 := Y6.out.box.c3; have c4 := Y6.out.c4
  have d0 := Z6.out.box.c0; have d1 := Z6.out.box.c1; have d2 := Z6.out.box.c2; have d3 := Z6.out.box.c3; have d4 := Z6.out.c4
  have e0 := V6.out.box.c0; have e1 := V6.out.box.c1; have e2 := V6.out.box.c2; have e3 := V6.out.box.c3; have e4 := V6.out.c4
  go_wp2_with fail
  refine (M1.out _ KOT.out).mono ?_; rintro e w2 ⟨rfl, b2⟩
  clear c0 c1 c2 c3 c4 d0 d1 d2 d3 d4 e0 e1 e2 e3 e4
  replace Y6 := Lib.hid (Y6.out.below b2); replace Z6 := Lib.hid (Z6.out.below b2); replace V6 := Lib.hid (V6.out.below b2); replace X6 := Lib.hid (X6.out.below b2); replace KOT := Lib.hid (KOT.out.below b2); replace KAT := Lib.hid (KAT.out.below b2); replace KBT := Lib.hid (KBT.out.below b2); replace B6 := Lib.hid (below_size B6.out b2)
  have s_w2 : w.heap.size + 4 ≤ w2.heap.size := by have := b2.size; omega
  clear b2 M1
  have d0 := Z6.out.box.c0; have d1 := Z6.out.box.c1; have d2 := Z6.out.box.c2; have d3 := Z6.out.box.c3; have d4 := Z6.out.c4
  have e0 := V6.out.box.c0; have e1 := V6.out.box.c1; have e2 := V6.out.box.c2; have e3 := V6.out.box.c3; have e4 := V6.out.c4
  go_wp2_with fail
  refine (M2.out _ KAT.out).mono ?_; rintro e w3 ⟨rfl, b2⟩
  clear d0 d1 d2 d3 d4 e0 e1 e2 e3 e4
  replace Y6 := Lib.hid (Y6.out.below b2); replace Z6 := Lib.hid (Z6.out.below b2); replace V6 := Lib.hid (V6.out.below b2); replace X6 := Lib.hid (X6.out.below b2); replace KOT := Lib.hid (KOT.out.below b2); replace KAT := Lib.hid (KAT.out.below b2); replace KBT := Lib.hid (KBT.out.below b2); replace B6 := Lib.hid (below_size B6.out b2)
  have s_w3 : w.heap.size + 4 ≤ w3.heap.size := by have := b2.size; omega
  clear b2 M2
  have e0 := V6.out.box.c0; have e1 := V6.out.box.c1; have e2 := V6.out.box.c2; have e3 := V6.out.box.c3; have e4 := V6.out.c4
  go_wp2_with fail
  refine (M3.out _ KBT.out).mono ?_; rintro e w4 ⟨rfl, b2⟩
  clear e0 e1 e2 e3 e4
  replace Y6 := Lib.hid (Y6.out.below b2); replace Z6 := Lib.hid (Z6.out.below b2); replace V6 := Lib.hid (V6.out.below b2); replace X6 := Lib.hid (X6.out.below b2); replace KOT := Lib.hid (KOT.out.below b2); replace KAT := Lib.hid (KAT.out.below b2); replace KBT := Lib.hid (KBT.out.below b2); replace B6 := Lib.hid (below_size B6.out b2)
  have s_w4 : w.heap.size + 4 ≤ w4.heap.size := by have := b2.size; omega
  clear b2 M3
  have c0 := Y6.out.box.c0; have c1 := Y6.out.box.c1; have c2 := Y6.out.box.c2; have c3 := Y6.out.box.c3; have c4 := Y6.out.c4
  have d0 := Z6.out.box.c0; have d1 := Z6.out.box.c1; have d2 := Z6.out.box.c2; have d3 := Z6.out.box.c3; have d4 := Z6.out.c4
  go_wp2_with fail
  refine (S1.out _).mono ?_; rintro e w5 ⟨rfl, b2⟩
  clear c0 c1 c2 c3 c4 d0 d1 d2 d3 d4
  replace Y6 := Lib.hid (Y6.out.below b2); replace Z6 := Lib.hid (Z6.out.below b2); replace V6 := Lib.hid (V6.out.below b2); replace X6 := Lib.hid (X6.out.below b2); replace KOT := Lib.hid (KOT.out.below b2); replace KAT := Lib.hid (KAT.out.below b2); replace KBT := Lib.hid (KBT.out.below b2); replace B6 := Lib.hid (below_size B6.out b2)
  have s_w5 : w.heap.size + 4 ≤ w5.heap.size := by have := b2.size; omega
  clear b2 S1
  have d0 := Z6.out.box.c0; have d1 := Z6.out.box.c1; have d2 := Z6.out.box.c2; have d3 := Z6.out.box.c3; have d4 := Z6.out.c4
  have e0 := V6.out.box.c0; have e1 := V6.out.box.c1; have e2 := V6.out.box.c2; have e3 := V6.out.box.c3; have e4 := V6.out.c4
  go_wp2_with fail
  refine (S2.out _).mono ?_; rintro e w6 ⟨rfl, b2⟩
  clear d0 d1 d2 d3 d4 e0 e1 e2 e3 e4
  replace Y6 := Lib.hid (Y6.out.below b2); replace Z6 := Lib.hid (Z6.out.below b2); replace V6 := Lib.hid (V6.out.below b2); replace X6 := Lib.hid (X6.out.below b2); replace KOT := Lib.hid (KOT.out.below b2); replace KAT := Lib.hid (KAT.out.below b2); replace KBT := Lib.hid (KBT.out.below b2); replace B6 := Lib.hid (below_size B6.out b2)
  have s_w6 : w.heap.size + 4 ≤ w6.heap.size := by have := b2.size; omega
  clear b2 S2
  have KO := Lib.hid KOT.out.strs; have KA := Lib.hid KAT.out.strs; have KB := Lib.hid KBT.out.strs
  have hs6 : w.heap.size + 3 < w6.heap.size := by omega
  clear KOT KAT KBT s_w2 s_w3 s_w4 s_w5 s_w6 s1
  go_upto_region 5 with (fail)
  go_cut [9] (fun s wx => ∃ gb a' k', s = .pointer (some ⟨gb, 0, Option.none⟩) ∧ OutS w6 W H C D n gb a' k' aks wx)
  case first =>
    have Keep : Hid (∀ w' : World, Below w6.heap.size w6 w' → w'.cell? ⟨w.heap.size + 1, 0, Option.none⟩ = some (.int .i64 W) ∧ w'.cell? ⟨w.heap.size + 1, 1, Option.none⟩ = some (.int .i64 H) ∧ w'.cell? ⟨w.heap.size + 1, 2, Option.none⟩ = some (.int .i64 C) ∧ w'.cell? ⟨w.heap.size + 1, 3, Option.none⟩ = some (.int .i64 D) ∧ w'.cell? ⟨w.heap.size + 1, 4, Option.none⟩ = some (.slice (some ⟨pa, xa, Option.none⟩) n ca)) := Lib.hid fun w' e => by
      have h := Z6.out.below e
      exact ⟨h.box.c0, h.box.c1, h.box.c2, h.box.c3, h.c4⟩
    have CL : Hid (∀ w', Below w6.heap.size w6 w' → Calls Try.prog 10 #[.slice (some ⟨pa, xa, Option.none⟩) n ca] w' (RetStrs w' aks)) := Lib.hid fun w' h => copyTexts_any (some ⟨pa, xa, Option.none⟩) n ca aks w' (KA.out.below h) (by omega)
    have e0 : Below w6.heap.size w6 w6.drew := (Below.refl _ _).drew
    have hz3 : w6.heap.size ≤ w6.drew.heap.size := Nat.le_refl _
    go_region_held3 (fun w' => w'.cell? ⟨w.heap.size + 1, 0, Option.none⟩ = some (.int .i64 W) ∧ w'.cell? ⟨w.heap.size + 1, 1, Option.none⟩ = some (.int .i64 H) ∧ w'.cell? ⟨w.heap.size + 1, 2, Option.none⟩ = some (.int .i64 C) ∧ w'.cell? ⟨w.heap.size + 1, 3, Option.none⟩ = some (.int .i64 D) ∧ w'.cell? ⟨w.heap.size + 1, 4, Option.none⟩ = some (.slice (some ⟨pa, xa, Option.none⟩) n ca))
      ((refine Keep.out _ ?_; repeat (first | with_reducible exact e0 | with_reducible exact e1 | with_reducible exact Below.refl _ _ | with_reducible refine Below.drew ?_ | (refine Below.setCell ?_ (by first | omega | (simp <;> omega)) _) | (refine Below.alloc ?_ (by first | omega | (simp <;> omega)) _))))
      (first
      | (go_at_call 10; refine (CL.out _ (by repeat (first | with_reducible exact e0 | with_reducible exact Below.refl _ _ | with_reducible refine Below.drew ?_ | (refine Below.alloc ?_ (by first | omega | (simp <;> omega)) _)))).mono ?_; rintro e x1 ⟨a', k', rfl, o1, bb1⟩; rw [HLA.out] at o1 ⊢; have e1 : Below w6.heap.size w6 x1 := Below.trans (by repeat (first | with_reducible exact e0 | with_reducible exact Below.refl _ _ | with_reducible refine Below.drew ?_ | (refine Below.alloc ?_ (by first | omega | (simp <;> omega)) _))) (bb1.mono (by first | omega | (simp <;> omega))); have hz4 : w6.heap.size ≤ x1.heap.size := e1.size; try (have k9 := ((rbox_alloc w6 0 0 0 0 Option.none 0 0 30).below (Below.refl _ _).drew).below bb1; have k0 := k9.box.c0; have k1 := k9.box.c1; have k2 := k9.box.c2; have k3 := k9.box.c3; have k4 := k9.c4; have f0 := k9.box.f0; have f1 := k9.box.f1; have f2 := k9.box.f2; have f3 := k9.box.f3; have f4 := k9.f4; have hz5 : w6.heap.size < x1.heap.size := k9.box.lt; have hz6 : ¬ w6.heap.size = x1.heap.size := Nat.ne_of_lt hz5; have hz7 : ¬ x1.heap.size = w6.heap.size := fun e => hz6 e.symm)))
    all_goals go_wp2_with fail
    all_goals go_meet
    · exact ⟨_, _, _, rfl, outS_aT _ e1 W H C D o1⟩
    · exact ⟨_, _, _, rfl, outS_b e1 W H C D (Nat.le_refl _) k9 (owns_base o1 (by simp)) (fun e => by have := (o1.lt _ e).1; simp at this; omega)⟩
  case rest =>
    obtain ⟨gb, a', k', rfl, hO⟩ := hcut
    obtain ⟨gk, rfl, hgk⟩ := owns_addr hO.own hn1
    have HO := Lib.hid hO
    clear hO
    have HZ := Lib.hid (Z6.out.below HO.out.bel)
    have e0 := HZ.out.box.c0; have e1 := HZ.out.box.c1; have e2 := HZ.out.box.c2; have e3 := HZ.out.box.c3; have e4 := HZ.out.c4
    obtain ⟨i1, ki, kz0, kz1, kz2⟩ := info_parts infoBool
    have Ki := Lib.hid ki; have Kz0 := Lib.hid kz0; have Kz1 := Lib.hid kz1; have Kz2 := Lib.hid kz2
    clear ki kz0 kz1 kz2
    go_upto_region 7 with (at_make; refine wpList_make_full _ rfl _ _ 27 rfl wc.heap.size 4 i1 _ 1 Try.underlying27 Ki.out Kz0.out Kz1.out _ _ _ _ n rfl rfl (by first | rfl | omega) (by first | rfl | omega) (by rw [Kz2.out]; omega) (by unfold maxLen; omega) (Nat.le_refl _) ?_; intro w7 o7 g7; have b7 : Below wc.heap.size wc w7 := (Below.refl _ _).grown g7 (Nat.le_refl _) (fun k h => nomatch h); have O7 := Lib.hid o7; clear o7 g7)
    have o7 := O7.out
    rw [toList_madeB] at o7
    have hgb : gb < wc.heap.size := HO.out.box.lt
    have hgk2 : gk < wc.heap.size := (HO.out.own.lt gk rfl).2
    have hgm : w6.heap.size ≤ wc.heap.size := HO.out.bel.size
    have M7 := Lib.hid (owns_base o7 hgm)
    replace HO := Lib.hid (HO.out.below b7)
    clear b7 o7 O7 HZ e0 e1 e2 e3 e4
    generalize wc.heap.size = gm at *
    have HN := Lib.hid (show gk ≠ gb ∧ gm ≠ gb ∧ gm ≠ gk from ⟨fun e => HO.out.ne (by rw [e]; rfl), by omega, by omega⟩)
    go_wp2_with fail
    go_loopw [11, 61, 86] (fun vi _ _ wr => ∃ i : Nat, i ≤ n ∧ vi = .int .i64 i ∧ Hid (OutS w6 W H C D n gb (some ⟨gk, 0, Option.none⟩) k' (mergeKs oks aks bks i) wr ∧ wr.ownsRow w6.heap.size 4 1 (.slice (some ⟨gm, 0, Option.none⟩) n n) n ((mergeMs oks aks bks i).map Value.bool))) (fun vi _ _ _ => n - (intOf vi).toNat)
    case atStart => exact ⟨0, Nat.zero_le _, rfl, Lib.hid ⟨by rw [mergeKs_zero]; exact HO.out, by rw [mergeMs_zero, HLA.out]; exact M7.out⟩⟩
    case round =>
      clear HO M7
      obtain ⟨i, hi, rfl, J⟩ := hrel
      have bel := J.out.1.bel
      have HZ := Lib.hid (Z6.out.below bel)
      by_cases hlt : i < n
      · have j1 : (i : Int) < n := by omega
        have j2 : (0 : Int) ≤ i := by omega
        have HY := Lib.hid (Y6.out.below bel); have HV := Lib.hid (V6.out.below bel)
        obtain ⟨_, _, hq, lb, sb⟩ := (KB.out.below bel).cellAt i hlt
        obtain ⟨rfl, rfl⟩ : pb = _ ∧ xb = _ := by simpa using hq
        obtain ⟨_, _, hq, lo, so⟩ := (KO.out.below bel).cellAt i hlt
        obtain ⟨rfl, rfl⟩ : po = _ ∧ xo = _ := by simpa using hq
        obtain ⟨_, _, hq, la, sa⟩ := (KA.out.below bel).cellAt i hlt
        obtain ⟨rfl, rfl⟩ : pa = _ ∧ xa = _ := by simpa using hq
        replace sb : wr.cell? ⟨pb, xb + i, Option.none⟩ = some (.string (kAt bks i)) := sb
        replace so : wr.cell? ⟨po, xo + i, Option.none⟩ = some (.string (kAt oks i)) := so
        replace sa : wr.cell? ⟨pa, xa + i, Option.none⟩ = some (.string (kAt aks i)) := sa
        have HKS := Lib.hid (mergeKs_same oks aks bks i (by rw [HLA.out]; exact hlt))
        have HKT := Lib.hid (mergeKs_set oks aks bks i)
        have HMS := Lib.hid (mergeMs_same oks aks bks i)
        have HMT := Lib.hid (mergeMs_set oks aks bks i)
        clear hq bel
        generalize kAt bks i = b at *
        generalize kAt oks i = o at *
        generalize kAt aks i = a at *
        have d0 := HZ.out.box.c0; have d1 := HZ.out.box.c1; have d2 := HZ.out.box.c2; have d3 := HZ.out.box.c3; have d4 := HZ.out.c4
        go_upto_region 11 with (fail)
        clear d0 d1 d2 d3 d4
        have u0 := fun x : GrownW wr => x.cell HY.out.lt HY.out.box.c0; have u1 := fun x : GrownW wr => x.cell HY.out.lt HY.out.box.c1; have u2 := fun x : GrownW wr => x.cell HY.out.lt HY.out.box.c2; have u3 := fun x : GrownW wr => x.cell HY.out.lt HY.out.box.c3; have u4 := fun x : GrownW wr => x.cell HY.out.lt HY.out.c4
        have v0 := fun x : GrownW wr => x.cell HZ.out.lt HZ.out.box.c0; have v1 := fun x : GrownW wr => x.cell HZ.out.lt HZ.out.box.c1; have v2 := fun x : GrownW wr => x.cell HZ.out.lt HZ.out.box.c2; have v3 := fun x : GrownW wr => x.cell HZ.out.lt HZ.out.box.c3; have v4 := fun x : GrownW wr => x.cell HZ.out.lt HZ.out.c4
        have x0 := fun x : GrownW wr => x.cell HV.out.lt HV.out.box.c0; have x1 := fun x : GrownW wr => x.cell HV.out.lt HV.out.box.c1; have x2 := fun x : GrownW wr => x.cell HV.out.lt HV.out.box.c2; have x3 := fun x : GrownW wr => x.cell HV.out.lt HV.out.box.c3; have x4 := fun x : GrownW wr => x.cell HV.out.lt HV.out.c4
        clear u0 u1 u2 u3 v0 v1 v2 v3 x0 x1 x2 x3
        have gsb := fun x : GrownW wr => x.cell lb sb
        have gso := fun x : GrownW wr => x.cell lo so
        have gsa := fun x : GrownW wr => x.cell la sa
        by_cases hbo : b = o
        · subst hbo
          have r1 := str_eq b
          have G := Lib.hid (And.intro (show mergeK b a b = a by simp [mergeK]) (show mergeM b a b = false by simp [mergeM]))
          refine wp_region_grow_fast (by kernel_rfl) (by kernel_rfl) ?_
          repeat (go_big_quiet_step (fail))
          refine wpQuiet_nil ?_
          intro wg hw'
          obtain ⟨⟨wz, hbg⟩, hw''⟩ := hw'
          subst hw''
          clear gsb gso gsa u4 v4 x4 so sa sb r1
          go_wp2_with fail
          go_roundw
          case rel => exact ⟨i + 1, by omega, by go_num, by rw [HKS.out G.out.1, HMS.out G.out.2]; exact Lib.hid ⟨J.out.1.below hbg, owns_below J.out.2 hbg⟩⟩
          case measure => simp [intOf]; omega
        · have r1 := str_ne hbo
          by_cases hba : b = a
          · subst hba
            have r2 := str_eq b
            have G := Lib.hid (And.intro (show mergeK o b b = b by simp [mergeK]) (show mergeM o b b = false by simp [mergeM]))
            clear hbo
            refine wp_region_grow_fast (by kernel_rfl) (by kernel_rfl) ?_
            repeat (go_big_quiet_step (fail))
            refine wpQuiet_nil ?_
            intro wg hw'
            obtain ⟨⟨wz, hbg⟩, hw''⟩ := hw'
            subst hw''
            clear gsb gso gsa u4 v4 x4 so sa sb r1 r2
            go_wp2_with fail
            go_roundw
            case rel => exact ⟨i + 1, by omega, by go_num, by rw [HKS.out G.out.1, HMS.out G.out.2]; exact Lib.hid ⟨J.out.1.below hbg, owns_below J.out.2 hbg⟩⟩
            case measure => simp [intOf]; omega
          · have r2 := str_ne (fun h : a = b => hba h.symm)
            refine wp_region_grow_fast (by kernel_rfl) (by kernel_rfl) ?_
            repeat (go_big_quiet_step (fail))
            refine wpQuiet_nil ?_
            intro wg hw'
            obtain ⟨⟨wz, hbg⟩, hw''⟩ := hw'
            subst hw''
            clear gsb gso gsa u4 v4 x4 r1 r2
            obtain ⟨wh, rfl⟩ : ∃ wh : World, wh = wg := ⟨_, rfl⟩
            replace J := Lib.hid (And.intro (J.out.1.below hbg) (owns_below J.out.2 hbg))
            replace HY := Lib.hid (HY.out.below hbg); replace HZ := Lib.hid (HZ.out.below hbg); replace HV := Lib.hid (HV.out.below hbg)
            replace sb := (hbg.cell lb).trans sb
            replace so := (hbg.cell lo).trans so
            replace sa := (hbg.cell la).trans sa
            have lb' := Nat.lt_of_lt_of_le lb hbg.size
            have lo' := Nat.lt_of_lt_of_le lo hbg.size
            have la' := Nat.lt_of_lt_of_le la hbg.size
            clear hbg lb lo la
            go_upto_region 12 with (fail)
            have u0 := fun x : GrownW wh => x.cell HY.out.lt HY.out.box.c0; have u1 := fun x : GrownW wh => x.cell HY.out.lt HY.out.box.c1; have u2 := fun x : GrownW wh => x.cell HY.out.lt HY.out.box.c2; have u3 := fun x : GrownW wh => x.cell HY.out.lt HY.out.box.c3; have u4 := fun x : GrownW wh => x.cell HY.out.lt HY.out.c4
            have v0 := fun x : GrownW wh => x.cell HZ.out.lt HZ.out.box.c0; have v1 := fun x : GrownW wh => x.cell HZ.out.lt HZ.out.box.c1; have v2 := fun x : GrownW wh => x.cell HZ.out.lt HZ.out.box.c2; have v3 := fun x : GrownW wh => x.cell HZ.out.lt HZ.out.box.c3; have v4 := fun x : GrownW wh => x.cell HZ.out.lt HZ.out.c4
            clear u0 u1 u2 u3 v0 v1 v2 v3
            have gso := fun x : GrownW wh => x.cell lo' so
            have gsa := fun x : GrownW wh => x.cell la' sa
            by_cases hao : a = o
            · subst hao
              have r3 := str_eq a
              have G := Lib.hid (And.intro (show mergeK a a b = b by simp [mergeK, hba]) (show mergeM a a b = false by simp [mergeM]))
              clear hba hbo
              refine wp_region_grow_fast (by kernel_rfl) (by kernel_rfl) ?_
              repeat (go_big_quiet_step (fail))
              refine wpQuiet_nil ?_
              intro wg hw'
              obtain ⟨⟨wz, hbg⟩, hw''⟩ := hw'
              subst hw''
              clear gso gsa u4 v4 so sa r3 lo' la'
              replace J := Lib.hid (And.intro (J.out.1.below hbg) (owns_below J.out.2 hbg))
              replace HV := Lib.hid (HV.out.below hbg)
              replace sb := (hbg.cell lb').trans sb
              clear hbg lb'
              have hb4 := J.out.1.box.c4
              have hkc := ownsA_cell ByteArray.empty J.out.1.own i hlt
              have hkf := J.out.1.own.frozenAt i
              have J2 : Hid (∀ j, OutS w6 W H C D n gb (some ⟨gk, 0, Option.none⟩) k' (mergeKs oks aks bks i) (wg.drewN j) ∧ (wg.drewN j).ownsRow w6.heap.size 4 1 (.slice (some ⟨gm, 0, Option.none⟩) n n) n ((mergeMs oks aks bks i).map Value.bool)) := Lib.hid fun j => ⟨J.out.1.below (below_drewN (Below.refl _ _) j), J.out.2⟩
              generalize (mergeKs oks aks bks i).getD i ByteArray.empty = kold at *
              have e0 := HV.out.box.c0; have e1 := HV.out.box.c1; have e2 := HV.out.box.c2; have e3 := HV.out.box.c3; have e4 := HV.out.c4
              go_upto_region 13 with (fail)
              refine wp_region_still_tail 9 (by kernel_rfl) (by kernel_rfl) ?_
              simp only [List.take_succ_cons, List.take_zero, List.drop_succ_cons, List.drop_zero]
              repeat still_step
              refine wpStill_nil ?_
              change wpList _ _ _ _ _ wg.drew
              go_wp2_with fail
              go_roundw
              case rel =>
                refine ⟨i + 1, by omega, by go_num, Lib.hid ⟨?_, ?_⟩⟩
                · rw [HKT.out, G.out.1]
                  exact (J2.out 1).1.store i b
                · rw [HMS.out G.out.2]
                  exact owns_far (J2.out 1).2 gk i _ (fun e => HN.out.2.2 e.symm)
              case measure => simp [intOf]; omega
            · have r3 := str_ne hao
              have G := Lib.hid (And.intro (show mergeK o a b = a by simp [mergeK, hba, hbo, hao]) (show mergeM o a b = true by simp [mergeM, hba, hbo, hao]))
              clear hba hbo hao
              refine wp_region_grow_fast (by kernel_rfl) (by kernel_rfl) ?_
              repeat (go_big_quiet_step (fail))
              refine wpQuiet_nil ?_
              intro wg hw'
              obtain ⟨⟨wz, hbg⟩, hw''⟩ := hw'
              subst hw''
              clear gso gsa u4 v4 so sa sb r3 lo' la' lb'
              replace J := Lib.hid (And.intro (J.out.1.below hbg) (owns_below J.out.2 hbg))
              clear hbg
              have hmc := ownsA_cell false J.out.2 i hlt
              have hmf := J.out.2.frozenAt i
              generalize (mergeMs oks aks bks i).getD i false = mold at *
              go_wp2_with fail
              go_roundw
              case rel =>
                refine ⟨i + 1, by omega, by go_num, Lib.hid ⟨?_, ?_⟩⟩
                · rw [HKS.out G.out.1]
                  exact J.out.1.far gm i _ HN.out.2.1 HN.out.2.2 (by omega)
                · rw [HMT.out G.out.2]
                  exact ownsA_set J.out.2 i true
              case measure => simp [intOf]; omega
      · have hin : i = n := by omega
        have j1 : ¬ (i : Int) < n := by omega
        rw [hin] at J
        have HX := Lib.hid (X6.out.below bel)
        have HBO := Lib.hid J.out.1.box
        clear bel hin
        have c0 := HZ.out.box.c0; have c1 := HZ.out.box.c1; have c2 := HZ.out.box.c2; have c3 := HZ.out.box.c3; have c4 := HZ.out.c4
        have d0 := HX.out.box.c0; have d1 := HX.out.box.c1; have d2 := HX.out.box.c2; have d3 := HX.out.box.c3; have d4 := HX.out.c4; have f0 := HX.out.box.f0; have f1 := HX.out.box.f1; have f2 := HX.out.box.f2; have f3 := HX.out.box.f3; have f4 := HX.out.f4
        have e0 := HBO.out.box.c0; have e1 := HBO.out.box.c1; have e2 := HBO.out.box.c2; have e3 := HBO.out.box.c3; have e4 := HBO.out.c4
        go_wp2_with fail
        refine bodyPost_ret (results_tree3r rfl _ _ _ rfl (HX.out.set W H C D (some ⟨gk, 0, Option.none⟩) n k')) rfl ?_
        have hl : (mergeKs oks aks bks n).length = n := by rw [mergeKs_len, HLA.out]
        refine ⟨some ⟨gk, 0, Option.none⟩, k', some ⟨gm, 0, Option.none⟩, n, by rw [hl]; rfl, ?_, ?_, ?_⟩
        · rw [hl]
          exact owns_base (owns_under (owns_under (owns_under (owns_under (owns_under J.out.1.own _ _ _ (by omega)) _ _ _ (by omega)) _ _ _ (by omega)) _ _ _ (by omega)) _ _ _ (by omega)) B6.out.size
        · rw [hl]
          exact owns_base (owns_under (owns_under (owns_under (owns_under (owns_under J.out.2 _ _ _ (by omega)) _ _ _ (by omega)) _ _ _ (by omega)) _ _ _ (by omega)) _ _ _ (by omega)) B6.out.size
        · have hbb := below_size B6.out J.out.1.bel
          exact ((((hbb.setCell (by simp <;> omega) _).setCell (by simp <;> omega) _).setCell (by simp <;> omega) _).setCell (by simp <;> omega) _).setCell (by simp <;> omega) _
end Go.Proofs.Ytbmbelnjgnahhaa
