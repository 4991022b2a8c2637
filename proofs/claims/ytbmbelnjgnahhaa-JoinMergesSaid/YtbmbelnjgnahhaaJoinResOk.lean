/-
  join.Resolve of trees alike.
-/
import Derived.Test.YtbmbelnjgnahhaaJoinRes
import Derived.Test.YtbmbelnjgnahhaaJoinMergeOk
import Derived.StillTailTactics
namespace Go.Proofs.Ytbmbelnjgnahhaa
open Go.RowKit

def resK (t u : ByteArray) (m : Bool) : ByteArray := if m = true then u else t
def resKs (ts us : List ByteArray) (ms : List Bool) (i : Nat) : List ByteArray := (List.range ts.length).map fun j => if j < i then resK (kAt ts j) (kAt us j) (ms.getD j false) else kAt ts j
theorem resKs_len (ts us : List ByteArray) (ms : List Bool) (i : Nat) : (resKs ts us ms i).length = ts.length := by simp [resKs]
theorem resKs_zero (ts us : List ByteArray) (ms : List Bool) : resKs ts us ms 0 = ts := by
  refine ext_getDA ByteArray.empty (by simp [resKs]) fun i hi => ?_
  simp [resKs] at hi
  simp [resKs, List.getD, hi]
theorem resKs_getD (ts us : List ByteArray) (ms : List Bool) (i j : Nat) (h : j < ts.length) : (resKs ts us ms i).getD j ByteArray.empty = if j < i then resK (kAt ts j) (kAt us j) (ms.getD j false) else kAt ts j := by
  simp [resKs, List.getD, h]
theorem resKs_same (ts us : List ByteArray) (ms : List Bool) (i : Nat) (h : ms.getD i false = false) : resKs ts us ms (i + 1) = resKs ts us ms i := by
  refine ext_getDA ByteArray.empty (by rw [resKs_len, resKs_len]) fun j hj => ?_
  rw [resKs_len] at hj
  rw [resKs_getD _ _ _ _ _ hj, resKs_getD _ _ _ _ _ hj]
  by_cases e : j = i
  · subst e; rw [if_pos (by omega), if_neg (by omega), h]; rfl
  · by_cases e2 : j < i
    · rw [if_pos (by omega), if_pos e2]
    · rw [if_neg (by omega), if_neg e2]
theorem resKs_set (ts us : List ByteArray) (ms : List Bool) (i : Nat) (h : ms.getD i false = true) : resKs ts us ms (i + 1) = (resKs ts us ms i).set i (kAt us i) := by
  refine ext_getDA ByteArray.empty (by rw [List.length_set, resKs_len, resKs_len]) fun j hj => ?_
  rw [resKs_len] at hj
  rw [getD_setA, resKs_len, resKs_getD _ _ _ _ _ hj, resKs_getD _ _ _ _ _ hj]
  by_cases e : i = j
  · subst e; rw [if_pos (by omega), if_pos ⟨rfl, hj⟩, h]; rfl
  · rw [if_neg (show ¬ (i = j ∧ i < ts.length) from fun h => e h.1)]
    by_cases e2 : j < i
    · rw [if_pos (by omega), if_pos e2]
    · rw [if_neg (by omega), if_neg e2]

/-- What Resolve answers. -/
def RetTree (W H C D : Int) (ks : List ByteArray) (w : World) (e : Ending) (w' : World) : Prop :=
  ∃ a k, e = .returned (.tuple #[ras W H C D a ks.length k, .int .i64 0]) ∧ w'.ownsRow w.heap.size 9 1 (.slice a ks.length k) ks.length (ks.map Value.string) ∧ Below w.heap.size w w'

set_option maxRecDepth 100000 in
set_option maxHeartbeats 4000000 in
theorem resolve_ok (W H C D : Int) (po xo co pa xa ca n pm xm cm : Nat) (oks aks : List ByteArray) (ms : List Bool) (w : World) (ho : TOk w (⟨W, H, C, D, some ⟨po, xo, Option.none⟩, n, co, oks⟩ : TV)) (ha : TOk w (⟨W, H, C, D, some ⟨pa, xa, Option.none⟩, n, ca, aks⟩ : TV)) (hms : Bls w (some ⟨pm, xm, Option.none⟩) n cm ms) (hm : [(⟨W, H, C, D, some ⟨po, xo, Option.none⟩, n, co, oks⟩ : TV), (⟨W, H, C, D, some ⟨pa, xa, Option.none⟩, n, ca, aks⟩ : TV)].all TV.may = true) (hn1 : 0 < n) :
    Calls Try.prog 14 #[TV.val (⟨W, H, C, D, some ⟨po, xo, Option.none⟩, n, co, oks⟩ : TV), .slice (some ⟨pm, xm, Option.none⟩) n cm, TV.val (⟨W, H, C, D, some ⟨pa, xa, Option.none⟩, n, ca, aks⟩ : TV)] w (RetTree W H C D (resKs oks aks ms n) w) := by
  obtain ⟨w4, hw4, x1, x2, x4, b4, s4⟩ := three_boxes0 w (⟨W, H, C, D, some ⟨po, xo, Option.none⟩, n, co, oks⟩ : TV) (⟨W, H, C, D, some ⟨pa, xa, Option.none⟩, n, ca, aks⟩ : TV) 26
  obtain ⟨w5, hw5, tl, b5⟩ := tlist2 w4 (⟨W, H, C, D, some ⟨po, xo, Option.none⟩, n, co, oks⟩ : TV) (⟨W, H, C, D, some ⟨pa, xa, Option.none⟩, n, ca, aks⟩ : TV) 26
  have HM := Lib.hid (fun (w' : World) (h : TList w' w4.heap.size 2 [(⟨W, H, C, D, some ⟨po, xo, Option.none⟩, n, co, oks⟩ : TV), (⟨W, H, C, D, some ⟨pa, xa, Option.none⟩, n, ca, aks⟩ : TV)]) (h2 : ∀ t ∈ [(⟨W, H, C, D, some ⟨po, xo, Option.none⟩, n, co, oks⟩ : TV), (⟨W, H, C, D, some ⟨pa, xa, Option.none⟩, n, ca, aks⟩ : TV)], TOk w' t) => by have := joinMay_any w4.heap.size 2 [(⟨W, H, C, D, some ⟨po, xo, Option.none⟩, n, co, oks⟩ : TV), (⟨W, H, C, D, some ⟨pa, xa, Option.none⟩, n, ca, aks⟩ : TV)] w' h (by decide) h2; rw [hm] at this; exact this)
  have TL := Lib.hid tl; have B5 := Lib.hid (below_size b4 b5); have X1 := Lib.hid x1; have X2 := Lib.hid x2; have X4 := Lib.hid (x4.below b5)
  have Y1 := Lib.hid (x1.below b5); have Y2 := Lib.hid (x2.below b5)
  have hlo := ho.strs.len; have hla := ha.strs.len
  have hn300 : n ≤ 300 := by have := ho.short.1; simp only at hlo this; omega
  have HLO := Lib.hid hlo; have HLA := Lib.hid hla
  have KM5 := Lib.hid ((hms.below b4).below b5)
  have OK := Lib.hid (show ∀ t ∈ [(⟨W, H, C, D, some ⟨po, xo, Option.none⟩, n, co, oks⟩ : TV), (⟨W, H, C, D, some ⟨pa, xa, Option.none⟩, n, ca, aks⟩ : TV)], TOk w5 t by
    intro t ht
    simp only [List.mem_cons, List.not_mem_nil, or_false] at ht
    rcases ht with rfl | rfl
    · exact (ho.below b4).below b5
    · exact (ha.below b4).below b5)
  have HW4 := Lib.hid hw4; have HW5 := Lib.hid hw5; have S4 := Lib.hid s4
  clear hw4 hw5 x1 x2 x4 b4 s4 tl b5 hm ho ha hlo hla hms
  go_enter Try.func14, Try.ntmps14
  go_upto_region 1 with (fail)
  rw [HW4.out]
  have c0 := X1.out.box.c0; have c1 := X1.out.box.c1; have c2 := X1.out.box.c2; have c3 := X1.out.box.c3; have c4 := X1.out.c4
  have d0 := X2.out.box.c0; have d1 := X2.out.box.c1; have d2 := X2.out.box.c2; have d3 := X2.out.box.c3; have d4 := X2.out.c4
  go_wp2_with fail
  rw [HW5.out]
  refine (HM.out w5 TL.out OK.out).mono ?_; rintro e w6 ⟨rfl, b6⟩
  clear c0 c1 c2 c3 c4 d0 d1 d2 d3 d4
  have KO := Lib.hid ((OK.out (⟨W, H, C, D, some ⟨po, xo, Option.none⟩, n, co, oks⟩ : TV) (by simp)).below b6).strs
  have KA := Lib.hid ((OK.out (⟨W, H, C, D, some ⟨pa, xa, Option.none⟩, n, ca, aks⟩ : TV) (by simp)).below b6).strs
  have KM := Lib.hid (KM5.out.below b6)
  have X6 := Lib.hid (X4.out.below b6)
  have Y6 := Lib.hid (Y1.out.below b6); have Z6 := Lib.hid (Y2.out.below b6)
  have B6 := Lib.hid (below_size B5.out b6)
  have hs6 : w.heap.size + 3 < w6.heap.size := by have := b6.size; have := TL.out.lt; have := S4.out; omega
  clear b6 HM OK TL B5 X1 X2 X4 Y1 Y2 KM5
  go_upto_region 3 with (fail)
  have d0 := Y6.out.box.c0; have d1 := Y6.out.box.c1; have d2 := Y6.out.box.c2; have d3 := Y6.out.box.c3; have d4 := Y6.out.c4
  have e0 := Z6.out.box.c0; have e1 := Z6.out.box.c1; have e2 := Z6.out.box.c2; have e3 := Z6.out.box.c3; have e4 := Z6.out.c4
  go_upto_region 5 with (fail)
  clear d0 d1 d2 d3 d4 e0 e1 e2 e3 e4
  go_cut [8] (fun s wx => ∃ gb a' k', s = .pointer (some ⟨gb, 0, Option.none⟩) ∧ OutS w6 W H C D n gb a' k' oks wx)
  case first =>
    have Keep : Hid (∀ w' : World, Below w6.heap.size w6 w' → w'.cell? ⟨w.heap.size, 0, Option.none⟩ = some (.int .i64 W) ∧ w'.cell? ⟨w.heap.size, 1, Option.none⟩ = some (.int .i64 H) ∧ w'.cell? ⟨w.heap.size, 2, Option.none⟩ = some (.int .i64 C) ∧ w'.cell? ⟨w.heap.size, 3, Option.none⟩ = some (.int .i64 D) ∧ w'.cell? ⟨w.heap.size, 4, Option.none⟩ = some (.slice (some ⟨po, xo, Option.none⟩) n co)) := Lib.hid fun w' e => by
      have h := Y6.out.below e
      exact ⟨h.box.c0, h.box.c1, h.box.c2, h.box.c3, h.c4⟩
    have CL : Hid (∀ w', Below w6.heap.size w6 w' → Calls Try.prog 24 #[.slice (some ⟨po, xo, Option.none⟩) n co] w' (RetStrs w' oks)) := Lib.hid fun w' h => strsClone_any (some ⟨po, xo, Option.none⟩) n co oks w' (KO.out.below h) (by omega)
    have e0 : Below w6.heap.size w6 w6.drew := (Below.refl _ _).drew
    have hz3 : w6.heap.size ≤ w6.drew.heap.size := Nat.le_refl _
    go_region_held3 (fun w' => w'.cell? ⟨w.heap.size, 0, Option.none⟩ = some (.int .i64 W) ∧ w'.cell? ⟨w.heap.size, 1, Option.none⟩ = some (.int .i64 H) ∧ w'.cell? ⟨w.heap.size, 2, Option.none⟩ = some (.int .i64 C) ∧ w'.cell? ⟨w.heap.size, 3, Option.none⟩ = some (.int .i64 D) ∧ w'.cell? ⟨w.heap.size, 4, Option.none⟩ = some (.slice (some ⟨po, xo, Option.none⟩) n co))
      ((refine Keep.out _ ?_; repeat (first | with_reducible exact e0 | with_reducible exact e1 | with_reducible exact Below.refl _ _ | with_reducible refine Below.drew ?_ | (refine Below.setCell ?_ (by first | omega | (simp <;> omega)) _) | (refine Below.alloc ?_ (by first | omega | (simp <;> omega)) _))))
      (first
      | (go_at_call 24; refine (CL.out _ (by repeat (first | with_reducible exact e0 | with_reducible exact Below.refl _ _ | with_reducible refine Below.drew ?_ | (refine Below.alloc ?_ (by first | omega | (simp <;> omega)) _)))).mono ?_; rintro e x1 ⟨a', k', rfl, o1, bb1⟩; rw [HLO.out] at o1 ⊢; have e1 : Below w6.heap.size w6 x1 := Below.trans (by repeat (first | with_reducible exact e0 | with_reducible exact Below.refl _ _ | with_reducible refine Below.drew ?_ | (refine Below.alloc ?_ (by first | omega | (simp <;> omega)) _))) (bb1.mono (by first | omega | (simp <;> omega))); have hz4 : w6.heap.size ≤ x1.heap.size := e1.size; try (have k9 := ((rbox_alloc w6 0 0 0 0 Option.none 0 0 26).below (Below.refl _ _).drew).below bb1; have k0 := k9.box.c0; have k1 := k9.box.c1; have k2 := k9.box.c2; have k3 := k9.box.c3; have k4 := k9.c4; have f0 := k9.box.f0; have f1 := k9.box.f1; have f2 := k9.box.f2; have f3 := k9.box.f3; have f4 := k9.f4; have hz5 : w6.heap.size < x1.heap.size := k9.box.lt; have hz6 : ¬ w6.heap.size = x1.heap.size := Nat.ne_of_lt hz5; have hz7 : ¬ x1.heap.size = w6.heap.size := fun e => hz6 e.symm)))
    all_goals go_wp2_with fail
    all_goals go_meet
    · exact ⟨_, _, _, rfl, outS_a e1 W H C D o1⟩
    · exact ⟨_, _, _, rfl, outS_b e1 W H C D (Nat.le_refl _) k9 (owns_base o1 (by simp)) (fun e => by have := (o1.lt _ e).1; simp at this; omega)⟩
  case rest =>
    obtain ⟨gb, a', k', rfl, hO⟩ := hcut
    obtain ⟨gk, rfl, hgk⟩ := owns_addr hO.own hn1
    have HO := Lib.hid hO
    clear hO
    have hgb : gb < wc.heap.size := HO.out.box.lt
    have hgk2 : gk < wc.heap.size := (HO.out.own.lt gk rfl).2
    have HN := Lib.hid (show gk ≠ gb from fun e => HO.out.ne (by rw [e]; rfl))
    go_wp2_with fail
    go_loopw [9, 10, 39] (fun _ _ vi wr => ∃ i : Nat, i ≤ n ∧ vi = .int .i64 i ∧ Hid (OutS w6 W H C D n gb (some ⟨gk, 0, Option.none⟩) k' (resKs oks aks ms i) wr)) (fun _ _ vi _ => n - (intOf vi).toNat)
    case atStart => exact ⟨0, Nat.zero_le _, rfl, Lib.hid (by rw [resKs_zero]; exact HO.out)⟩
    case round =>
      clear HO
      obtain ⟨i, hi, rfl, J⟩ := hrel
      have bel := J.out.bel
      by_cases hlt : i < n
      · have j1 : (i : Int) < n := by omega
        have j2 : (0 : Int) ≤ i := by omega
        have HZ := Lib.hid (Z6.out.below bel)
        obtain ⟨_, _, hq, _, sm⟩ := (KM.out.below bel).cellAt i hlt
        obtain ⟨rfl, rfl⟩ : pm = _ ∧ xm = _ := by simpa using hq
        obtain ⟨_, _, hq, _, sa⟩ := (KA.out.below bel).cellAt i hlt
        obtain ⟨rfl, rfl⟩ : pa = _ ∧ xa = _ := by simpa using hq
        replace sa : wr.cell? ⟨pa, xa + i, Option.none⟩ = some (.string (kAt aks i)) := sa
        have HKS := Lib.hid (resKs_same oks aks ms i)
        have HKT := Lib.hid (resKs_set oks aks ms i)
        clear hq bel
        have J2 : Hid (∀ j, OutS w6 W H C D n gb (some ⟨gk, 0, Option.none⟩) k' (resKs oks aks ms i) (wr.drewN j)) := Lib.hid fun j => J.out.below (below_drewN (Below.refl _ _) j)
        have hb4 := J.out.box.c4
        have hkc := ownsA_cell ByteArray.empty J.out.own i hlt
        have hkf := J.out.own.frozenAt i
        have e0 := HZ.out.box.c0; have e1 := HZ.out.box.c1; have e2 := HZ.out.box.c2; have e3 := HZ.out.box.c3; have e4 := HZ.out.c4
        generalize (resKs oks aks ms i).getD i ByteArray.empty = kold at *
        generalize kAt aks i = a at *
        generalize ms.getD i false = m at *
        cases m with
        | false =>
          go_wp2_with fail
          go_roundw
          case rel => exact ⟨i + 1, by omega, by go_num, by rw [HKS.out rfl]; exact J⟩
          case measure => simp [intOf]; omega
        | true =>
          go_upto_region 10 with (fail)
          refine wp_region_still_tail 9 (by kernel_rfl) (by kernel_rfl) ?_
          simp only [List.take_succ_cons, List.take_zero, List.drop_succ_cons, List.drop_zero]
          repeat still_step
          refine wpStill_nil ?_
          change wpList _ _ _ _ _ wr.drew
          go_wp2_with fail
          go_roundw
          case rel => exact ⟨i + 1, by omega, by go_num, Lib.hid (by rw [HKT.out rfl]; exact (J2.out 1).store i a)⟩
          case measure => simp [intOf]; omega
      · have hin : i = n := by omega
        have j1 : ¬ (i : Int) < n := by omega
        rw [hin] at J
        have HX := Lib.hid (X6.out.below bel)
        have HBO := Lib.hid J.out.box
        clear bel hin
        have d0 := HX.out.box.c0; have d1 := HX.out.box.c1; have d2 := HX.out.box.c2; have d3 := HX.out.box.c3; have d4 := HX.out.c4; have f0 := HX.out.box.f0; have f1 := HX.out.box.f1; have f2 := HX.out.box.f2; have f3 := HX.out.box.f3; have f4 := HX.out.f4
        have e0 := HBO.out.box.c0; have e1 := HBO.out.box.c1; have e2 := HBO.out.box.c2; have e3 := HBO.out.box.c3; have e4 := HBO.out.c4
        go_wp2_with fail
        refine bodyPost_ret (results_tree2 rfl _ _ _ rfl (HX.out.set W H C D (some ⟨gk, 0, Option.none⟩) n k')) rfl ?_
        have hl : (resKs oks aks ms n).length = n := by rw [resKs_len, HLO.out]
        refine ⟨some ⟨gk, 0, Option.none⟩, k', by rw [hl]; rfl, ?_, ?_⟩
        · rw [hl]
          exact owns_base (owns_under (owns_under (owns_under (owns_under (owns_under J.out.own _ _ _ (by omega)) _ _ _ (by omega)) _ _ _ (by omega)) _ _ _ (by omega)) _ _ _ (by omega)) B6.out.size
        · have hbb := below_size B6.out J.out.bel
          exact ((((hbb.setCell (by simp <;> omega) _).setCell (by simp <;> omega) _).setCell (by simp <;> omega) _).setCell (by simp <;> omega) _).setCell (by simp <;> omega) _
end Go.Proofs.Ytbmbelnjgnahhaa
