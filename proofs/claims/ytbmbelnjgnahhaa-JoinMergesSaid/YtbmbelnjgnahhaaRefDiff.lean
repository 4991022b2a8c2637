/-
  aquref17.Differ.
-/
import Derived.Test.YtbmbelnjgnahhaaRefJoin
namespace Go.Proofs.Ytbmbelnjgnahhaa
open Go.RowKit

theorem shapeV (o a : TV) (w : World) : Calls Try.prog 25 #[shp o.W o.H o.C o.D, shp a.W a.H a.C a.D] w fun e w' => e = .returned (.bool (decide (o.alike a))) ∧ Below w.heap.size w w' :=
  (eqShape_any o.W o.H o.C o.D a.W a.H a.C a.D w).mono fun _ _ ⟨h1, h2⟩ => ⟨by rw [h1]; congr 2, h2⟩

set_option maxRecDepth 100000 in
set_option maxHeartbeats 1000000 in
theorem rdiffer_shape (o a : TV) (w : World) (ho : TOk w o) (ha : TOk w a) (hm : (o.may && a.may) = true) (hk : ¬ o.alike a) :
    Calls Try.prog 17 #[o.val, a.val] w fun e w' => e = .returned (.tuple #[.slice Option.none 0 0, .int .i64 13]) ∧ Below w.heap.size w w' := by
  simp only [Bool.and_eq_true] at hm
  obtain ⟨w1, hw1, x1, x2, b1⟩ := two_boxes w o a 30
  have X1 := Lib.hid x1; have X2 := Lib.hid x2; have B1 := Lib.hid b1; have HW := Lib.hid hw1
  have KO := Lib.hid (ho.below b1); have KA := Lib.hid (ha.below b1)
  have M1 := Lib.hid (fun w' (h : TOk w' o) => by have := rmayV h; rw [hm.1] at this; exact this)
  have M2 := Lib.hid (fun w' (h : TOk w' a) => by have := rmayV h; rw [hm.2] at this; exact this)
  have S1 := Lib.hid (fun w' => by have := shapeV o a w'; rw [decide_eq_false hk] at this; exact this)
  clear hw1 x1 x2 b1 ho ha hm hk
  go_enter Try.func17, Try.ntmps17
  go_upto_region 1 with (fail)
  rw [HW.out]
  have c0 := X1.out.box.c0; have c1 := X1.out.box.c1; have c2 := X1.out.box.c2; have c3 := X1.out.box.c3; have c4 := X1.out.c4
  have d0 := X2.out.box.c0; have d1 := X2.out.box.c1; have d2 := X2.out.box.c2; have d3 := X2.out.box.c3; have d4 := X2.out.c4
  go_wp2_with fail
  refine (M1.out _ KO.out).mono ?_; rintro e w2 ⟨rfl, b2⟩
  clear c0 c1 c2 c3 c4 d0 d1 d2 d3 d4
  replace X1 := Lib.hid (X1.out.below b2); replace X2 := Lib.hid (X2.out.below b2); replace B1 := Lib.hid (below_size B1.out b2); replace KA := Lib.hid (KA.out.below b2)
  clear b2 M1
  have d0 := X2.out.box.c0; have d1 := X2.out.box.c1; have d2 := X2.out.box.c2; have d3 := X2.out.box.c3; have d4 := X2.out.c4
  go_wp2_with fail
  refine (M2.out _ KA.out).mono ?_; rintro e w3 ⟨rfl, b2⟩
  clear d0 d1 d2 d3 d4
  replace X1 := Lib.hid (X1.out.below b2); replace X2 := Lib.hid (X2.out.below b2); replace B1 := Lib.hid (below_size B1.out b2)
  clear b2 M2
  have c0 := X1.out.box.c0; have c1 := X1.out.box.c1; have c2 := X1.out.box.c2; have c3 := X1.out.box.c3; have c4 := X1.out.c4
  have d0 := X2.out.box.c0; have d1 := X2.out.box.c1; have d2 := X2.out.box.c2; have d3 := X2.out.box.c3; have d4 := X2.out.c4
  go_wp2_with fail
  refine (S1.out _).mono ?_; rintro e w4 ⟨rfl, b2⟩
  go_wp2_with fail
  go_returns
  exact ⟨rfl, below_size B1.out b2⟩

set_option maxRecDepth 100000 in
set_option maxHeartbeats 4000000 in
theorem rdiffer_ok (W H C D : Int) (po xo co pa xa ca n : Nat) (oks aks : List ByteArray) (w : World) (ho : TOk w (⟨W, H, C, D, some ⟨po, xo, Option.none⟩, n, co, oks⟩ : TV)) (ha : TOk w (⟨W, H, C, D, some ⟨pa, xa, Option.none⟩, n, ca, aks⟩ : TV)) (m1 : TV.may (⟨W, H, C, D, some ⟨po, xo, Option.none⟩, n, co, oks⟩ : TV) = true) (m2 : TV.may (⟨W, H, C, D, some ⟨pa, xa, Option.none⟩, n, ca, aks⟩ : TV) = true) :
    Calls Try.prog 17 #[TV.val (⟨W, H, C, D, some ⟨po, xo, Option.none⟩, n, co, oks⟩ : TV), TV.val (⟨W, H, C, D, some ⟨pa, xa, Option.none⟩, n, ca, aks⟩ : TV)] w (RetInts (difI oks aks n) w) := by
  obtain ⟨w1, hw1, x1, x2, b1⟩ := two_boxes w (⟨W, H, C, D, some ⟨po, xo, Option.none⟩, n, co, oks⟩ : TV) (⟨W, H, C, D, some ⟨pa, xa, Option.none⟩, n, ca, aks⟩ : TV) 30
  have Y6 := Lib.hid x1; have Z6 := Lib.hid x2; have B6 := Lib.hid b1; have HW := Lib.hid hw1
  have KO := Lib.hid (ho.below b1); have KA := Lib.hid (ha.below b1)
  have M1 := Lib.hid (fun w' (h : TOk w' (⟨W, H, C, D, some ⟨po, xo, Option.none⟩, n, co, oks⟩ : TV)) => by have := rmayV h; rw [m1] at this; exact this)
  have M2 := Lib.hid (fun w' (h : TOk w' (⟨W, H, C, D, some ⟨pa, xa, Option.none⟩, n, ca, aks⟩ : TV)) => by have := rmayV h; rw [m2] at this; exact this)
  have S1 := Lib.hid (fun w' => by have := eqShape_any W H C D W H C D w'; rw [decide_eq_true (show eqS W H C D W H C D from ⟨rfl, rfl, rfl, rfl⟩)] at this; exact this)
  have hn300 : n ≤ 300 := by have := ho.strs.len; have h2 := ho.short.1; simp only at this h2; omega
  clear hw1 x1 x2 b1 ho ha m1 m2
  obtain ⟨i1, ki, kz0, kz1, kz2⟩ := info_parts infoInt
  have Ki := Lib.hid ki; have Kz0 := Lib.hid kz0; have Kz1 := Lib.hid kz1; have Kz2 := Lib.hid kz2
  clear ki kz0 kz1 kz2
  go_enter Try.func17, Try.ntmps17
  go_upto_region 1 with (fail)
  rw [HW.out]
  have c0 := Y6.out.box.c0; have c1 := Y6.out.box.c1; have c2 := Y6.out.box.c2; have c3 := Y6.out.box.c3; have c4 := Y6.out.c4
  have d0 := Z6.out.box.c0; have d1 := Z6.out.box.c1; have d2 := Z6.out.box.c2; have d3 := Z6.out.box.c3; have d4 := Z6.out.c4
  go_wp2_with fail
  refine (M1.out _ KO.out).mono ?_; rintro e w2 ⟨rfl, b2⟩
  clear c0 c1 c2 c3 c4 d0 d1 d2 d3 d4
  replace Y6 := Lib.hid (Y6.out.below b2); replace Z6 := Lib.hid (Z6.out.below b2); replace B6 := Lib.hid (below_size B6.out b2); replace KO := Lib.hid (KO.out.below b2); replace KA := Lib.hid (KA.out.below b2)
  clear b2 M1
  have d0 := Z6.out.box.c0; have d1 := Z6.out.box.c1; have d2 := Z6.out.box.c2; have d3 := Z6.out.box.c3; have d4 := Z6.out.c4
  go_wp2_with fail
  refine (M2.out _ KA.out).mono ?_; rintro e w3 ⟨rfl, b2⟩
  clear d0 d1 d2 d3 d4
  replace Y6 := Lib.hid (Y6.out.below b2); replace Z6 := Lib.hid (Z6.out.below b2); replace B6 := Lib.hid (below_size B6.out b2); replace KO := Lib.hid (KO.out.below b2); replace KA := Lib.hid (KA.out.below b2)
  clear b2 M2
  have c0 := Y6.out.box.c0; have c1 := Y6.out.box.c1; have c2 := Y6.out.box.c2; have c3 := Y6.out.box.c3; have c4 := Y6.out.c4
  have d0 := Z6.out.box.c0; have d1 := Z6.out.box.c1; have d2 := Z6.out.box.c2; have d3 := Z6.out.box.c3; have d4 := Z6.out.c4
  go_wp2_with fail
  refine (S1.out _).mono ?_; rintro e w6 ⟨rfl, b2⟩
  clear c0 c1 c2 c3 c4 d0 d1 d2 d3 d4
  replace Y6 := Lib.hid (Y6.out.below b2); replace Z6 := Lib.hid (Z6.out.below b2); replace B6 := Lib.hid (below_size B6.out b2); replace KO := Lib.hid (KO.out.below b2); replace KA := Lib.hid (KA.out.below b2)
  clear b2 S1
  go_wp2_with fail
  go_loopw [6, 7] (fun acc vi wr => ∃ (i : Nat) (a' : Option Addr) (c' : Nat), i ≤ n ∧ vi = .int .i64 i ∧ acc = .slice a' (difI oks aks i).length c' ∧ Hid (wr.ownsRow w6.heap.size 3 1 (.slice a' (difI oks aks i).length c') (difI oks aks i).length ((difI oks aks i).map (Value.int .i64)) ∧ Below w6.heap.size w6 wr)) (fun _ vi _ => n - (intOf vi).toNat)
  case atStart => exact ⟨0, Option.none, 0, Nat.zero_le _, rfl, rfl, Lib.hid ⟨World.ownsRow_nil _ _ _ _, Below.refl _ _⟩⟩
  case round =>
    obtain ⟨i, a', c', hi, rfl, rfl, J⟩ := hrel
    have HY := Lib.hid (Y6.out.below J.out.2)
    by_cases hlt : i < n
    · have j1 : (i : Int) < n := by omega
      have j2 : (0 : Int) ≤ i := by omega
      have HZ := Lib.hid (Z6.out.below J.out.2)
      obtain ⟨_, _, hq, lo, so⟩ := (KO.out.below J.out.2).strs.cellAt i hlt
      obtain ⟨rfl, rfl⟩ : po = _ ∧ xo = _ := by simpa using hq
      obtain ⟨_, _, hq, la, sa⟩ := (KA.out.below J.out.2).strs.cellAt i hlt
      obtain ⟨rfl, rfl⟩ : pa = _ ∧ xa = _ := by simpa using hq
      replace sa : wr.cell? ⟨pa, xa + i, Option.none⟩ = some (.string (kAt aks i)) := sa
      replace so : wr.cell? ⟨po, xo + i, Option.none⟩ = some (.string (kAt oks i)) := so
      have HKS := Lib.hid (difI_same oks aks i)
      have HKT := Lib.hid (difI_add oks aks i)
      have hml := difI_len oks aks i
      clear hq
      have d0 := HY.out.box.c0; have d1 := HY.out.box.c1; have d2 := HY.out.box.c2; have d3 := HY.out.box.c3; have d4 := HY.out.c4
      clear d0 d1 d2 d3
      generalize kAt aks i = a at *
      generalize kAt oks i = o at *
      go_upto_region 9 with (fail)
      have u0 := fun x : GrownW wr => x.cell HY.out.lt HY.out.box.c0; have u1 := fun x : GrownW wr => x.cell HY.out.lt HY.out.box.c1; have u2 := fun x : GrownW wr => x.cell HY.out.lt HY.out.box.c2; have u3 := fun x : GrownW wr => x.cell HY.out.lt HY.out.box.c3; have u4 := fun x : GrownW wr => x.cell HY.out.lt HY.out.c4
      have v0 := fun x : GrownW wr => x.cell HZ.out.lt HZ.out.box.c0; have v1 := fun x : GrownW wr => x.cell HZ.out.lt HZ.out.box.c1; have v2 := fun x : GrownW wr => x.cell HZ.out.lt HZ.out.box.c2; have v3 := fun x : GrownW wr => x.cell HZ.out.lt HZ.out.box.c3; have v4 := fun x : GrownW wr => x.cell HZ.out.lt HZ.out.c4
      clear u0 u1 u2 u3 v0 v1 v2 v3 d4
      have gso := fun x : GrownW wr => x.cell lo so
      have gsa := fun x : GrownW wr => x.cell la sa
      by_cases hab : o = a
      · subst hab
        have r1 := str_eq o
        refine wp_region_grow_fast (by kernel_rfl) (by kernel_rfl) ?_
        repeat (go_big_quiet_step (fail))
        refine wpQuiet_nil ?_
        intro wg hw'
        obtain ⟨⟨wz, hbg⟩, hw''⟩ := hw'
        subst hw''
        clear gso gsa u4 v4 so sa
        go_wp2_with fail
        go_roundw
        case rel => exact ⟨i + 1, a', c', by omega, by go_num, by rw [HKS.out rfl], by rw [HKS.out rfl]; exact Lib.hid ⟨owns_below J.out.1 hbg, below_size J.out.2 hbg⟩⟩
        case measure => simp [intOf]; omega
      · have r1 := str_ne hab
        have HE := Lib.hid (HKT.out hab)
        refine wp_region_grow_fast (by kernel_rfl) (by kernel_rfl) ?_
        repeat (go_big_quiet_step (fail))
        refine wpQuiet_nil ?_
        intro wg hw'
        obtain ⟨⟨wz, hbg⟩, hw''⟩ := hw'
        subst hw''
        replace J := Lib.hid (And.intro (owns_below J.out.1 hbg) (below_size J.out.2 hbg))
        go_upto_region 10 with (fail)
        clear gso gsa u4 v4 so sa r1 hab HKS HKT hbg lo la HY HZ
        have bal : Below wg.heap.size wg (wg.alloc (.cells #[.int .i64 (i : Int)] 3)) := (Below.refl _ _).alloc (Nat.le_refl _) _
        generalize difI oks aks i = xs at *
        go_wp2_with (at_builtin; go_loud (refine wpList_append_fresh _ rfl _ _ 43 rfl w6.heap.size 3 i1 (.int .i64 0) 8 Try.underlying43 Ki.out Kz0.out Kz1.out Kz2.out rfl .i64 a' xs.length c' xs rfl (World.ownsRow.alloc J.out.1 _) ⟨wg.heap.size, 0, Option.none⟩ 1 1 [(i : Int)] rfl (reads_alloc (k := .i64) wg [(i : Int)] _ _ _ rfl (by unfold maxLen; simp) _ rfl) (by decide) (by unfold maxLen; omega) (by omega) (by have := J.out.2.size; simp; omega) ?_); intro a2 cap2 w7 hown hgrow hfr)
        have hb7 : Below w6.heap.size w6 w7 := (J.out.2.trans (bal.mono J.out.2.size)).grown hgrow (by have := J.out.2.size; simp; omega) (fun k hk => (J.out.1.lt k hk).1)
        have H7 := Lib.hid (And.intro hown hb7)
        clear hown hgrow hfr hb7 bal
        go_wp2_with fail
        go_roundw
        case rel =>
          refine ⟨i + 1, a2, cap2, by omega, by go_num, by rw [HE.out]; simp, ?_⟩
          rw [HE.out]
          exact Lib.hid ⟨by simpa using H7.out.1, H7.out.2⟩
        case measure => simp [intOf]; omega
    · have hin : i = n := by omega
      have j1 : ¬ (i : Int) < n := by omega
      rw [hin] at J
      have d0 := HY.out.box.c0; have d1 := HY.out.box.c1; have d2 := HY.out.box.c2; have d3 := HY.out.box.c3; have d4 := HY.out.c4
      go_wp2_with fail
      go_returns
      exact ⟨a', c', rfl, owns_base J.out.1 B6.out.size, below_size B6.out J.out.2⟩
end Go.Proofs.Ytbmbelnjgnahhaa
