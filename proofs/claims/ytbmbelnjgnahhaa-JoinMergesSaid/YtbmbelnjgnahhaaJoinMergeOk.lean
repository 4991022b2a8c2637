/-
  join.Merge of three trees alike in shape.
-/
import Derived.Test.YtbmbelnjgnahhaaJoinOut
import Derived.BigQuiet
namespace Go.Proofs.Ytbmbelnjgnahhaa
open Go.RowKit

/-- One tile. -/
def mergeK (o a b : ByteArray) : ByteArray := if b = o ∨ b = a then a else if a = o then b else a
def mergeM (o a b : ByteArray) : Bool := decide (¬ (b = o ∨ b = a) ∧ ¬ a = o)
abbrev kAt (ks : List ByteArray) (i : Nat) : ByteArray := ks.getD i ByteArray.empty
/-- So far. -/
def mergeKs (os as_ bs : List ByteArray) (i : Nat) : List ByteArray := (List.range as_.length).map fun j => if j < i then mergeK (kAt os j) (kAt as_ j) (kAt bs j) else kAt as_ j
def mergeMs (os as_ bs : List ByteArray) (i : Nat) : List Bool := (List.range as_.length).map fun j => decide (j < i) && mergeM (kAt os j) (kAt as_ j) (kAt bs j)
theorem mergeKs_zero (os as_ bs : List ByteArray) : mergeKs os as_ bs 0 = as_ := by
  refine ext_getDA ByteArray.empty (by simp [mergeKs]) fun i hi => ?_
  simp [mergeKs] at hi
  simp [mergeKs, List.getD, hi]
theorem mergeMs_zero (os as_ bs : List ByteArray) : mergeMs os as_ bs 0 = List.replicate as_.length false := by
  refine ext_getDA false (by simp [mergeMs]) fun i hi => ?_
  simp [mergeMs] at hi
  simp [mergeMs, List.getD, hi]
theorem mergeKs_len (os as_ bs : List ByteArray) (i : Nat) : (mergeKs os as_ bs i).length = as_.length := by simp [mergeKs]
theorem mergeMs_len (os as_ bs : List ByteArray) (i : Nat) : (mergeMs os as_ bs i).length = as_.length := by simp [mergeMs]
theorem mergeKs_getD (os as_ bs : List ByteArray) (i j : Nat) (h : j < as_.length) : (mergeKs os as_ bs i).getD j ByteArray.empty = if j < i then mergeK (kAt os j) (kAt as_ j) (kAt bs j) else kAt as_ j := by
  simp [mergeKs, List.getD, h]
theorem mergeMs_getD (os as_ bs : List ByteArray) (i j : Nat) (h : j < as_.length) : (mergeMs os as_ bs i).getD j false = (decide (j < i) && mergeM (kAt os j) (kAt as_ j) (kAt bs j)) := by
  simp [mergeMs, List.getD, h]
theorem mergeKs_same (os as_ bs : List ByteArray) (i : Nat) (hi : i < as_.length) (h : mergeK (kAt os i) (kAt as_ i) (kAt bs i) = kAt as_ i) : mergeKs os as_ bs (i + 1) = mergeKs os as_ bs i := by
  refine ext_getDA ByteArray.empty (by rw [mergeKs_len, mergeKs_len]) fun j hj => ?_
  rw [mergeKs_len] at hj
  rw [mergeKs_getD _ _ _ _ _ hj, mergeKs_getD _ _ _ _ _ hj]
  by_cases e : j = i
  · subst e; rw [if_pos (by omega), if_neg (by omega), h]
  · by_cases e2 : j < i
    · rw [if_pos (by omega), if_pos e2]
    · rw [if_neg (by omega), if_neg e2]
theorem mergeKs_set (os as_ bs : List ByteArray) (i : Nat) : mergeKs os as_ bs (i + 1) = (mergeKs os as_ bs i).set i (mergeK (kAt os i) (kAt as_ i) (kAt bs i)) := by
  refine ext_getDA ByteArray.empty (by rw [List.length_set, mergeKs_len, mergeKs_len]) fun j hj => ?_
  rw [mergeKs_len] at hj
  rw [getD_setA, mergeKs_len, mergeKs_getD _ _ _ _ _ hj, mergeKs_getD _ _ _ _ _ hj]
  by_cases e : i = j
  · subst e; rw [if_pos (by omega), if_pos ⟨rfl, hj⟩]
  · rw [if_neg (show ¬ (i = j ∧ i < as_.length) from fun h => e h.1)]
    by_cases e2 : j < i
    · rw [if_pos (by omega), if_pos e2]
    · rw [if_neg (by omega), if_neg e2]
theorem mergeMs_same (os as_ bs : List ByteArray) (i : Nat) (h : mergeM (kAt os i) (kAt as_ i) (kAt bs i) = false) : mergeMs os as_ bs (i + 1) = mergeMs os as_ bs i := by
  refine ext_getDA false (by rw [mergeMs_len, mergeMs_len]) fun j hj => ?_
  rw [mergeMs_len] at hj
  rw [mergeMs_getD _ _ _ _ _ hj, mergeMs_getD _ _ _ _ _ hj]
  by_cases e : j = i
  · subst e; rw [h]; simp
  · have : decide (j < i + 1) = decide (j < i) := decide_eq_decide.2 (by omega)
    rw [this]
theorem mergeMs_set (os as_ bs : List ByteArray) (i : Nat) (h : mergeM (kAt os i) (kAt as_ i) (kAt bs i) = true) : mergeMs os as_ bs (i + 1) = (mergeMs os as_ bs i).set i true := by
  refine ext_getDA false (by rw [List.length_set, mergeMs_len, mergeMs_len]) fun j hj => ?_
  rw [mergeMs_len] at hj
  rw [getD_setA, mergeMs_len, mergeMs_getD _ _ _ _ _ hj, mergeMs_getD _ _ _ _ _ hj]
  by_cases e : i = j
  · subst e; rw [if_pos ⟨rfl, hj⟩, h]; simp
  · rw [if_neg (show ¬ (i = j ∧ i < as_.length) from fun h => e h.1)]
    have : decide (j < i + 1) = decide (j < i) := decide_eq_decide.2 (by omega)
    rw [this]

/-- What Merge answers. -/
def RetMerge (W H C D : Int) (ks : List ByteArray) (ms : List Bool) (w : World) (e : Ending) (w' : World) : Prop :=
  ∃ a k m k2, e = .returned (.tuple #[ras W H C D a ks.length k, .slice m ks.length k2, .int .i64 0]) ∧ w'.ownsRow w.heap.size 9 1 (.slice a ks.length k) ks.length (ks.map Value.string) ∧ w'.ownsRow w.heap.size 4 1 (.slice m ks.length k2) ks.length (ms.map Value.bool) ∧ Below w.heap.size w w'
theorem infoBool : (Try.prog.info? 4).map (fun i => (i.zero, i.size, i.bytes)) = some (some (.bool false), 1, 1) := by kernel_rfl

theorem toList_madeB (n : Nat) : (madeCells (Value.bool false).cells (n * 1)).toList = (List.replicate n false).map Value.bool := by
  have hz : (Value.bool false).cells = #[Value.bool false] := rfl
  rw [hz, Nat.mul_one, toList_madeCells_one]; simp

set_option maxRecDepth 100000 in
set_option maxHeartbeats 4000000 in
theorem merge_ok (W H C D : Int) (po xo co pa xa ca pb xb cb n : Nat) (oks aks bks : List ByteArray) (w : World) (ho : TOk w (⟨W, H, C, D, some ⟨po, xo, Option.none⟩, n, co, oks⟩ : TV)) (ha : TOk w (⟨W, H, C, D, some ⟨pa, xa, Option.none⟩, n, ca, aks⟩ : TV)) (hb : TOk w (⟨W, H, C, D, some ⟨pb, xb, Option.none⟩, n, cb, bks⟩ : TV)) (hm : [(⟨W, H, C, D, some ⟨po, xo, Option.none⟩, n, co, oks⟩ : TV), (⟨W, H, C, D, some ⟨pa, xa, Option.none⟩, n, ca, aks⟩ : TV), (⟨W, H, C, D, some ⟨pb, xb, Option.none⟩, n, cb, bks⟩ : TV)].all TV.may = true) (hn1 : 0 < n) :
    Calls Try.prog 11 #[TV.val (⟨W, H, C, D, some ⟨po, xo, Option.none⟩, n, co, oks⟩ : TV), TV.val (⟨W, H, C, D, some ⟨pa, xa, Option.none⟩, n, ca, aks⟩ : TV), TV.val (⟨W, H, C, D, some ⟨pb, xb, Option.none⟩, n, cb, bks⟩ : TV)] w (RetMerge W H C D (mergeKs oks aks bks n) (mergeMs oks aks bks n) w) := by
  obtain ⟨w4, hw4, x1, x2, x3, x4, b4, s4⟩ := four_boxes w (⟨W, H, C, D, some ⟨po, xo, Option.none⟩, n, co, oks⟩ : TV) (⟨W, H, C, D, some ⟨pa, xa, Option.none⟩, n, ca, aks⟩ : TV) (⟨W, H, C, D, some ⟨pb, xb, Option.none⟩, n, cb, bks⟩ : TV) 26
  obtain ⟨w5, hw5, tl, b5⟩ := tlist3 w4 (⟨W, H, C, D, some ⟨po, xo, Option.none⟩, n, co, oks⟩ : TV) (⟨W, H, C, D, some ⟨pa, xa, Option.none⟩, n, ca, aks⟩ : TV) (⟨W, H, C, D, some ⟨pb, xb, Option.none⟩, n, cb, bks⟩ : TV) 26
  have HM := Lib.hid (fun (w' : World) (h : TList w' w4.heap.size 3 [(⟨W, H, C, D, some ⟨po, xo, Option.none⟩, n, co, oks⟩ : TV), (⟨W, H, C, D, some ⟨pa, xa, Option.none⟩, n, ca, aks⟩ : TV), (⟨W, H, C, D, some ⟨pb, xb, Option.none⟩, n, cb, bks⟩ : TV)]) (h2 : ∀ t ∈ [(⟨W, H, C, D, some ⟨po, xo, Option.none⟩, n, co, oks⟩ : TV), (⟨W, H, C, D, some ⟨pa, xa, Option.none⟩, n, ca, aks⟩ : TV), (⟨W, H, C, D, some ⟨pb, xb, Option.none⟩, n, cb, bks⟩ : TV)], TOk w' t) => by have := joinMay_any w4.heap.size 3 [(⟨W, H, C, D, some ⟨po, xo, Option.none⟩, n, co, oks⟩ : TV), (⟨W, H, C, D, some ⟨pa, xa, Option.none⟩, n, ca, aks⟩ : TV), (⟨W, H, C, D, some ⟨pb, xb, Option.none⟩, n, cb, bks⟩ : TV)] w' h (by decide) h2; rw [hm] at this; exact this)
  have TL := Lib.hid tl; have B5 := Lib.hid (below_size b4 b5); have X1 := Lib.hid x1; have X2 := Lib.hid x2; have X3 := Lib.hid x3; have X4 := Lib.hid (x4.below b5)
  have Y1 := Lib.hid (x1.below b5); have Y2 := Lib.hid (x2.below b5); have Y3 := Lib.hid (x3.below b5)
  have hlo := ho.strs.len; have hla := ha.strs.len; have hlb := hb.strs.len
  have hn300 : n ≤ 300 := by have := ho.short.1; simp only at hlo this; omega
  have HLO := Lib.hid hlo; have HLA := Lib.hid hla; have HLB := Lib.hid hlb
  have OK := Lib.hid (show ∀ t ∈ [(⟨W, H, C, D, some ⟨po, xo, Option.none⟩, n, co, oks⟩ : TV), (⟨W, H, C, D, some ⟨pa, xa, Option.none⟩, n, ca, aks⟩ : TV), (⟨W, H, C, D, some ⟨pb, xb, Option.none⟩, n, cb, bks⟩ : TV)], TOk w5 t by
    intro t ht
    simp only [List.mem_cons, List.not_mem_nil, or_false] at ht
    rcases ht with rfl | rfl | rfl
    · exact (ho.below b4).below b5
    · exact (ha.below b4).below b5
    · exact (hb.below b4).below b5)
  have HW4 := Lib.hid hw4; have HW5 := Lib.hid hw5; have S4 := Lib.hid s4
  clear hw4 hw5 x1 x2 x3 x4 b4 s4 tl b5 hm ho ha hb hlo hla hlb
  go_enter Try.func11, Try.ntmps11
  go_upto_region 1 with (fail)
  rw [HW4.out]
  have c0 := X1.out.box.c0; have c1 := X1.out.box.c1; have c2 := X1.out.box.c2; have c3 := X1.out.box.c3; have c4 := X1.out.c4
  have d0 := X2.out.box.c0; have d1 := X2.out.box.c1; have d2 := X2.out.box.c2; have d3 := X2.out.box.c3; have d4 := X2.out.c4
  have e0 := X3.out.box.c0; have e1 := X3.out.box.c1; have e2 := X3.out.box.c2; have e3 := X3.out.box.c3; have e4 := X3.out.c4
  go_wp2_with fail
  rw [HW5.out]
  refine (HM.out w5 TL.out OK.out).mono ?_; rintro e w6 ⟨rfl, b6⟩
  clear c0 c1 c2 c3 c4 d0 d1 d2 d3 d4 e0 e1 e2 e3 e4
  have KO := Lib.hid ((OK.out (⟨W, H, C, D, some ⟨po, xo, Option.none⟩, n, co, oks⟩ : TV) (by simp)).below b6).strs
  have KA := Lib.hid ((OK.out (⟨W, H, C, D, some ⟨pa, xa, Option.none⟩, n, ca, aks⟩ : TV) (by simp)).below b6).strs
  have KB := Lib.hid ((OK.out (⟨W, H, C, D, some ⟨pb, xb, Option.none⟩, n, cb, bks⟩ : TV) (by simp)).below b6).strs
  have X6 := Lib.hid (X4.out.below b6)
  have Y6 := Lib.hid (Y1.out.below b6); have Z6 := Lib.hid (Y2.out.below b6); have V6 := Lib.hid (Y3.out.below b6)
  have B6 := Lib.hid (below_size B5.out b6)
  have hs6 : w.heap.size + 4 < w6.heap.size := by have := b6.size; have := TL.out.lt; have := S4.out; omega
  clear b6 HM OK TL B5 X1 X2 X3 X4 Y1 Y2 Y3
  go_upto_region 3 with (fail)
  have d0 := Y6.out.box.c0; have d1 := Y6.out.box.c1; have d2 := Y6.out.box.c2; have d3 := Y6.out.box.c3; have d4 := Y6.out.c4
  have e0 := Z6.out.box.c0; have e1 := Z6.out.box.c1; have e2 := Z6.out.box.c2; have e3 := Z6.out.box.c3; have e4 := Z6.out.c4
  have g0 := V6.out.box.c0; have g1 := V6.out.box.c1; have g2 := V6.out.box.c2; have g3 := V6.out.box.c3; have g4 := V6.out.c4
  go_upto_region 5 with (fail)
  clear d0 d1 d2 d3 d4 g0 g1 g2 g3 g4
  go_cut [9] (fun s wx => ∃ gb a' k', s = .pointer (some ⟨gb, 0, Option.none⟩) ∧ OutS w6 W H C D n gb a' k' aks wx)
  case first =>
    have Keep : Hid (∀ w' : World, Below w6.heap.size w6 w' → w'.cell? ⟨w.heap.size + 1, 0, Option.none⟩ = some (.int .i64 W) ∧ w'.cell? ⟨w.heap.size + 1, 1, Option.none⟩ = some (.int .i64 H) ∧ w'.cell? ⟨w.heap.size + 1, 2, Option.none⟩ = some (.int .i64 C) ∧ w'.cell? ⟨w.heap.size + 1, 3, Option.none⟩ = some (.int .i64 D) ∧ w'.cell? ⟨w.heap.size + 1, 4, Option.none⟩ = some (.slice (some ⟨pa, xa, Option.none⟩) n ca)) := Lib.hid fun w' e => by
      have h := Z6.out.below e
      exact ⟨h.box.c0, h.box.c1, h.box.c2, h.box.c3, h.c4⟩
    have CL : Hid (∀ w', Below w6.heap.size w6 w' → Calls Try.prog 24 #[.slice (some ⟨pa, xa, Option.none⟩) n ca] w' (RetStrs w' aks)) := Lib.hid fun w' h => strsClone_any (some ⟨pa, xa, Option.none⟩) n ca aks w' (KA.out.below h) (by omega)
    have e0 : Below w6.heap.size w6 w6.drew := (Below.refl _ _).drew
    have hz3 : w6.heap.size ≤ w6.drew.heap.size := Nat.le_refl _
    go_region_held3 (fun w' => w'.cell? ⟨w.heap.size + 1, 0, Option.none⟩ = some (.int .i64 W) ∧ w'.cell? ⟨w.heap.size + 1, 1, Option.none⟩ = some (.int .i64 H) ∧ w'.cell? ⟨w.heap.size + 1, 2, Option.none⟩ = some (.int .i64 C) ∧ w'.cell? ⟨w.heap.size + 1, 3, Option.none⟩ = some (.int .i64 D) ∧ w'.cell? ⟨w.heap.size + 1, 4, Option.none⟩ = some (.slice (some ⟨pa, xa, Option.none⟩) n ca))
      ((refine Keep.out _ ?_; repeat (first | with_reducible exact e0 | with_reducible exact e1 | with_reducible exact Below.refl _ _ | with_reducible refine Below.drew ?_ | (refine Below.setCell ?_ (by first | omega | (simp <;> omega)) _) | (refine Below.alloc ?_ (by first | omega | (simp <;> omega)) _))))
      (first
      | (go_at_call 24; refine (CL.out _ (by repeat (first | with_reducible exact e0 | with_reducible exact Below.refl _ _ | with_reducible refine Below.drew ?_ | (refine Below.alloc ?_ (by first | omega | (simp <;> omega)) _)))).mono ?_; rintro e x1 ⟨a', k', rfl, o1, bb1⟩; rw [HLA.out] at o1 ⊢; have e1 : Below w6.heap.size w6 x1 := Below.trans (by repeat (first | with_reducible exact e0 | with_reducible exact Below.refl _ _ | with_reducible refine Below.drew ?_ | (refine Below.alloc ?_ (by first | omega | (simp <;> omega)) _))) (bb1.mono (by first | omega | (simp <;> omega))); have hz4 : w6.heap.size ≤ x1.heap.size := e1.size; try (have k9 := ((rbox_alloc w6 0 0 0 0 Option.none 0 0 26).below (Below.refl _ _).drew).below bb1; have k0 := k9.box.c0; have k1 := k9.box.c1; have k2 := k9.box.c2; have k3 := k9.box.c3; have k4 := k9.c4; have f0 := k9.box.f0; have f1 := k9.box.f1; have f2 := k9.box.f2; have f3 := k9.box.f3; have f4 := k9.f4; have hz5 : w6.heap.size < x1.heap.size := k9.box.lt; have hz6 : ¬ w6.heap.size = x1.heap.size := Nat.ne_of_lt hz5; have hz7 : ¬ x1.heap.size = w6.heap.size := fun e => hz6 e.symm)))
    all_goals go_wp2_with fail
    all_goals go_meet
    · exact ⟨_, _, _, rfl, outS_a e1 W H C D o1⟩
    · exact ⟨_, _, _, rfl, outS_b e1 W H C D (Nat.le_refl _) k9 (owns_base o1 (by simp)) (fun e => by have := (o1.lt _ e).1; simp at this; omega)⟩
  case rest =>
    obtain ⟨gb, a', k', rfl, hO⟩ := hcut
    obtain ⟨gk, rfl, hgk⟩ := owns_addr hO.own hn1
    have HO := Lib.hid hO
    clear hO e0 e1 e2 e3 e4
    have HZ := Lib.hid (Z6.out.below HO.out.bel)
    have e0 := HZ.out.box.c0; have e1 := HZ.out.box.c1; have e2 := HZ.out.box.c2; have e3 := HZ.out.box.c3; have e4 := HZ.out.c4
    obtain ⟨i1, ki, kz0, kz1, kz2⟩ := info_parts infoBool
    have Ki := Lib.hid ki; have Kz0 := Lib.hid kz0; have Kz1 := Lib.hid kz1; have Kz2 := Lib.hid kz2
    clear ki kz0 kz1 kz2
    go_upto_region 7 with (at_make; refine wpList_make_full _ rfl _ _ 27 rfl wc.heap.size 4 i1 _ 1 Try.underlying27 Ki.out Kz0.out Kz1.out _ _ _ _ n rfl rfl (by first | rfl | omega) (by first | rfl | omega) (by rw [Kz2.out]; omega) (by unfold maxLen; omega) (Nat.le_refl _) ?_; intro w7 o7 g7; have b7 : Below wc.heap.size wc w7 := (Below.refl _ _).grown g7 (Nat.le_refl _) (fun k h => nomatch h); have O7 := Lib.hid o7; clear o7 g7)
    have o7 := O7.out
    rw [toList_madeB] at o7
    have hgb : gb < wc.heap.size := HO.out.box.lt
    have hgk2 : gk < wc.heap.size := (HO.out.own.lt gk rfl).2
    have hgm : w6.heap.size ≤ wc.heap.size := HO.out.bel.size
    have M7 := Lib.hid (owns_base o7 hgm)
    replace HO := Lib.hid (HO.out.below b7)
    clear b7 o7 O7 HZ e0 e1 e2 e3 e4
    generalize wc.heap.size = gm at *
    have HV := Lib.hid (V6.out.below HO.out.bel)
    have e0 := HV.out.box.c0; have e1 := HV.out.box.c1; have e2 := HV.out.box.c2; have e3 := HV.out.box.c3; have e4 := HV.out.c4
    go_upto_region 8 with (fail)
    clear HV e0 e1 e2 e3 e4
    have HN := Lib.hid (show gk ≠ gb ∧ gm ≠ gb ∧ gm ≠ gk from ⟨fun e => HO.out.ne (by rw [e]; rfl), by omega, by omega⟩)
    go_wp2_with fail
    go_loopw [11, 12, 46, 54, 71] (fun _ _ vi _ _ wr => ∃ i : Nat, i ≤ n ∧ vi = .int .i64 i ∧ Hid (OutS w6 W H C D n gb (some ⟨gk, 0, Option.none⟩) k' (mergeKs oks aks bks i) wr ∧ wr.ownsRow w6.heap.size 4 1 (.slice (some ⟨gm, 0, Option.none⟩) n n) n ((mergeMs oks aks bks i).map Value.bool))) (fun _ _ vi _ _ _ => n - (intOf vi).toNat)
    case atStart => exact ⟨0, Nat.zero_le _, rfl, Lib.hid ⟨by rw [mergeKs_zero]; exact HO.out, by rw [mergeMs_zero, HLA.out]; exact M7.out⟩⟩
    case round =>
      clear HO M7
      obtain ⟨i, hi, rfl, J⟩ := hrel
      have bel := J.out.1.bel
      by_cases hlt : i < n
      · have j1 : (i : Int) < n := by omega
        have j2 : (0 : Int) ≤ i := by omega
        have HY := Lib.hid (Y6.out.below bel); have HZ := Lib.hid (Z6.out.below bel)
        obtain ⟨_, _, hq, _, sb⟩ := (KB.out.below bel).cellAt i hlt
        obtain ⟨rfl, rfl⟩ : pb = _ ∧ xb = _ := by simpa using hq
        obtain ⟨_, _, hq, _, so⟩ := (KO.out.below bel).cellAt i hlt
        obtain ⟨rfl, rfl⟩ : po = _ ∧ xo = _ := by simpa using hq
        obtain ⟨_, _, hq, _, sa⟩ := (KA.out.below bel).cellAt i hlt
        obtain ⟨rfl, rfl⟩ : pa = _ ∧ xa = _ := by simpa using hq
        replace sb : wr.cell? ⟨pb, xb + i, Option.none⟩ = some (.string (kAt bks i)) := sb
        replace so : wr.cell? ⟨po, xo + i, Option.none⟩ = some (.string (kAt oks i)) := so
        replace sa : wr.cell? ⟨pa, xa + i, Option.none⟩ = some (.string (kAt aks i)) := sa
        have HKS := Lib.hid (mergeKs_same oks aks bks i (by rw [HLA.out]; exact hlt))
        have HKT := Lib.hid (mergeKs_set oks aks bks i)
        have HMS := Lib.hid (mergeMs_same oks aks bks i)
        have HMT := Lib.hid (mergeMs_set oks aks bks i)
        clear hq bel
        have J2 : Hid (∀ j, OutS w6 W H C D n gb (some ⟨gk, 0, Option.none⟩) k' (mergeKs oks aks bks i) (wr.drewN j) ∧ (wr.drewN j).ownsRow w6.heap.size 4 1 (.slice (some ⟨gm, 0, Option.none⟩) n n) n ((mergeMs oks aks bks i).map Value.bool)) := Lib.hid fun j => ⟨J.out.1.below (below_drewN (Below.refl _ _) j), J.out.2⟩
        have hb4 := J.out.1.box.c4
        have hkc := ownsA_cell ByteArray.empty J.out.1.own i hlt
        have hkf := J.out.1.own.frozenAt i
        have hmc := ownsA_cell false J.out.2 i hlt
        have hmf := J.out.2.frozenAt i
        have d0 := HY.out.box.c0; have d1 := HY.out.box.c1; have d2 := HY.out.box.c2; have d3 := HY.out.box.c3; have d4 := HY.out.c4
        have e0 := HZ.out.box.c0; have e1 := HZ.out.box.c1; have e2 := HZ.out.box.c2; have e3 := HZ.out.box.c3; have e4 := HZ.out.c4
        generalize (mergeKs oks aks bks i).getD i ByteArray.empty = kold at *
        generalize (mergeMs oks aks bks i).getD i false = mold at *
        generalize kAt bks i = b at *
        generalize kAt oks i = o at *
        generalize kAt aks i = a at *
        by_cases hbo : b = o
        · subst hbo
          have r1 := str_eq b
          have g1 : mergeK b a b = a := by simp [mergeK]
          have g2 : mergeM b a b = false := by simp [mergeM]
          have G := Lib.hid (And.intro g1 g2)
          clear g1 g2
          go_wp2_with fail
          go_roundw
          case rel => exact ⟨i + 1, by omega, by go_num, by rw [HKS.out G.out.1, HMS.out G.out.2]; exact J⟩
          case measure => simp [intOf]; omega
        · have r1 := str_ne hbo
          by_cases hba : b = a
          · subst hba
            have r2 := str_eq b
            have g1 : mergeK o b b = b := by simp [mergeK]
            have g2 : mergeM o b b = false := by simp [mergeM]
            have G := Lib.hid (And.intro g1 g2)
            clear g1 g2 hbo
            go_wp2_with fail
            go_roundw
            case rel => exact ⟨i + 1, by omega, by go_num, by rw [HKS.out G.out.1, HMS.out G.out.2]; exact J⟩
            case measure => simp [intOf]; omega
          · have r2 := str_ne hba
            by_cases hao : a = o
            · subst hao
              have r3 := str_eq a
              have g1 : mergeK a a b = b := by simp [mergeK, hba]
              have g2 : mergeM a a b = false := by simp [mergeM]
              have G := Lib.hid (And.intro g1 g2)
              clear g1 g2 hba hbo
              go_wp2_with fail
              go_quiet (fail)
              go_wp2_with fail
              go_roundw
              case rel =>
                refine ⟨i + 1, by omega, by go_num, Lib.hid ⟨?_, ?_⟩⟩
                · rw [HKT.out, G.out.1]
                  exact (J2.out _).1.store i b
                · rw [HMS.out G.out.2]
                  exact owns_far (J2.out _).2 gk i _ (fun e => HN.out.2.2 e.symm)
              case measure => simp [intOf]; omega
            · have r3 := str_ne hao
              have g1 : mergeK o a b = a := by simp [mergeK, hba, hbo, hao]
              have g2 : mergeM o a b = true := by simp [mergeM, hba, hbo, hao]
              have G := Lib.hid (And.intro g1 g2)
              clear g1 g2 hba hbo hao
              go_wp2_with fail
              go_quiet (fail)
              go_wp2_with fail
              go_roundw
              case rel =>
                refine ⟨i + 1, by omega, by go_num, Lib.hid ⟨?_, ?_⟩⟩
                · rw [HKS.out G.out.1]
                  exact (J2.out _).1.far gm i _ HN.out.2.1 HN.out.2.2 (by omega)
                · rw [HMT.out G.out.2]
                  exact ownsA_set (J2.out _).2 i true
              case measure => simp [intOf]; omega
      · have hin : i = n := by omega
        have j1 : ¬ (i : Int) < n := by omega
        rw [hin] at J
        have HX := Lib.hid (X6.out.below bel)
        have HBO := Lib.hid J.out.1.box
        clear bel hin
        have d0 := HX.out.box.c0; have d1 := HX.out.box.c1; have d2 := HX.out.box.c2; have d3 := HX.out.box.c3; have d4 := HX.out.c4; have f0 := HX.out.box.f0; have f1 := HX.out.box.f1; have f2 := HX.out.box.f2; have f3 := HX.out.box.f3; have f4 := HX.out.f4
        have e0 := HBO.out.box.c0; have e1 := HBO.out.box.c1; have e2 := HBO.out.box.c2; have e3 := HBO.out.box.c3; have e4 := HBO.out.c4
        go_wp2_with fail
        refine bodyPost_ret (results_tree3 rfl _ _ _ rfl (HX.out.set W H C D (some ⟨gk, 0, Option.none⟩) n k')) rfl ?_
        have hl : (mergeKs oks aks bks n).length = n := by rw [mergeKs_len, HLA.out]
        refine ⟨some ⟨gk, 0, Option.none⟩, k', some ⟨gm, 0, Option.none⟩, n, by rw [hl]; rfl, ?_, ?_, ?_⟩
        · rw [hl]
          exact owns_base (owns_under (owns_under (owns_under (owns_under (owns_under J.out.1.own _ _ _ (by omega)) _ _ _ (by omega)) _ _ _ (by omega)) _ _ _ (by omega)) _ _ _ (by omega)) B6.out.size
        · rw [hl]
          exact owns_base (owns_under (owns_under (owns_under (owns_under (owns_under J.out.2 _ _ _ (by omega)) _ _ _ (by omega)) _ _ _ (by omega)) _ _ _ (by omega)) _ _ _ (by omega)) B6.out.size
        · have hbb := below_size B6.out J.out.1.bel
          exact ((((hbb.setCell (by simp <;> omega) _).setCell (by simp <;> omega) _).setCell (by simp <;> omega) _).setCell (by simp <;> omega) _).setCell (by simp <;> omega) _
end Go.Proofs.Ytbmbelnjgnahhaa
