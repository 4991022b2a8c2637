/-
  join.Changed.
-/
import Derived.Test.YtbmbelnjgnahhaaJoinRes
import Derived.Test.YtbmbelnjgnahhaaJoinMergeOk
import Derived.Test.YtbmbelnjgnahhaaFresh
namespace Go.Proofs.Ytbmbelnjgnahhaa
open Go.RowKit

set_option maxRecDepth 100000 in
set_option maxHeartbeats 1000000 in
theorem changed_form (o a : TV) (w : World) (ho : TOk w o) (ha : TOk w a) (hm : [o, a].all TV.may = false) :
    Calls Try.prog 16 #[o.val, a.val] w fun e w' => e = .returned (.tuple #[.slice Option.none 0 0, .int .i64 4]) ∧ Below w.heap.size w w' := by
  obtain ⟨w4, hw4, x1, x2, b4⟩ : ∃ w3, (w.alloc (.cells (treeC o) 26)).alloc (.cells (treeC a) 26) = w3 ∧ TBox w3 w.heap.size o ∧ TBox w3 (w.heap.size + 1) a ∧ Below w.heap.size w w3 := by
    have al := fun (w : World) (x : Obj) => (Below.refl w.heap.size w).alloc (Nat.le_refl _) x
    have b2 := rbox_alloc (w.alloc (.cells (treeC o) 26)) a.W a.H a.C a.D a.a a.n a.cap 26
    simp only [World.size_alloc] at b2
    exact ⟨_, rfl, (rbox_alloc w o.W o.H o.C o.D o.a o.n o.cap _).below (al _ _), b2, below_size (al _ _) (al _ _)⟩
  obtain ⟨w5, hw5, tl, b5⟩ := tlist2 w4 o a 26
  have HM := Lib.hid (fun (w' : World) (h : TList w' w4.heap.size 2 [o, a]) (h2 : ∀ t ∈ [o, a], TOk w' t) => by have := joinMay_any w4.heap.size 2 [o, a] w' h (by decide) h2; rw [hm] at this; exact this)
  have TL := Lib.hid tl; have B5 := Lib.hid (below_size b4 b5); have X1 := Lib.hid x1; have X2 := Lib.hid x2
  have OK := Lib.hid (show ∀ t ∈ [o, a], TOk w5 t by
    intro t ht
    simp only [List.mem_cons, List.not_mem_nil, or_false] at ht
    rcases ht with rfl | rfl
    · exact (ho.below b4).below b5
    · exact (ha.below b4).below b5)
  have HW4 := Lib.hid hw4; have HW5 := Lib.hid hw5
  clear hw4 hw5 x1 x2 b4 tl b5 hm ho ha
  go_enter Try.func16, Try.ntmps16
  go_upto_region 1 with (fail)
  rw [HW4.out]
  have c0 := X1.out.box.c0; have c1 := X1.out.box.c1; have c2 := X1.out.box.c2; have c3 := X1.out.box.c3; have c4 := X1.out.c4
  have d0 := X2.out.box.c0; have d1 := X2.out.box.c1; have d2 := X2.out.box.c2; have d3 := X2.out.box.c3; have d4 := X2.out.c4
  go_wp2_with fail
  rw [HW5.out]
  refine (HM.out w5 TL.out OK.out).mono ?_; rintro e w6 ⟨rfl, b6⟩
  clear c0 c1 c2 c3 c4 d0 d1 d2 d3 d4
  go_wp2_with fail
  go_returns
  exact ⟨rfl, below_size B5.out b6⟩

set_option maxRecDepth 100000 in
set_option maxHeartbeats 1000000 in
theorem changed_shape (o a : TV) (w : World) (ho : TOk w o) (ha : TOk w a) (hm : [o, a].all TV.may = true) (hs : ¬ o.alike a) :
    Calls Try.prog 16 #[o.val, a.val] w fun e w' => e = .returned (.tuple #[.slice Option.none 0 0, .int .i64 13]) ∧ Below w.heap.size w w' := by
  obtain ⟨w4, hw4, x1, x2, b4⟩ : ∃ w3, (w.alloc (.cells (treeC o) 26)).alloc (.cells (treeC a) 26) = w3 ∧ TBox w3 w.heap.size o ∧ TBox w3 (w.heap.size + 1) a ∧ Below w.heap.size w w3 := by
    have al := fun (w : World) (x : Obj) => (Below.refl w.heap.size w).alloc (Nat.le_refl _) x
    have b2 := rbox_alloc (w.alloc (.cells (treeC o) 26)) a.W a.H a.C a.D a.a a.n a.cap 26
    simp only [World.size_alloc] at b2
    exact ⟨_, rfl, (rbox_alloc w o.W o.H o.C o.D o.a o.n o.cap _).below (al _ _), b2, below_size (al _ _) (al _ _)⟩
  obtain ⟨w5, hw5, tl, b5⟩ := tlist2 w4 o a 26
  have HM := Lib.hid (fun (w' : World) (h : TList w' w4.heap.size 2 [o, a]) (h2 : ∀ t ∈ [o, a], TOk w' t) => by have := joinMay_any w4.heap.size 2 [o, a] w' h (by decide) h2; rw [hm] at this; exact this)
  have TL := Lib.hid tl; have B5 := Lib.hid (below_size b4 b5); have X1 := Lib.hid x1; have X2 := Lib.hid x2
  have Y1 := Lib.hid (x1.below b5); have Y2 := Lib.hid (x2.below b5)
  have OK := Lib.hid (show ∀ t ∈ [o, a], TOk w5 t by
    intro t ht
    simp only [List.mem_cons, List.not_mem_nil, or_false] at ht
    rcases ht with rfl | rfl
    · exact (ho.below b4).below b5
    · exact (ha.below b4).below b5)
  have HW4 := Lib.hid hw4; have HW5 := Lib.hid hw5; have HS := Lib.hid hs
  clear hw4 hw5 x1 x2 b4 tl b5 hm ho ha hs
  go_enter Try.func16, Try.ntmps16
  go_upto_region 1 with (fail)
  rw [HW4.out]
  have c0 := X1.out.box.c0; have c1 := X1.out.box.c1; have c2 := X1.out.box.c2; have c3 := X1.out.box.c3; have c4 := X1.out.c4
  have d0 := X2.out.box.c0; have d1 := X2.out.box.c1; have d2 := X2.out.box.c2; have d3 := X2.out.box.c3; have d4 := X2.out.c4
  go_wp2_with fail
  rw [HW5.out]
  refine (HM.out w5 TL.out OK.out).mono ?_; rintro e w6 ⟨rfl, b6⟩
  clear c0 c1 c2 c3 c4 d0 d1 d2 d3 d4
  have Y6 := Lib.hid (Y1.out.below b6); have Z6 := Lib.hid (Y2.out.below b6)
  have B6 := Lib.hid (below_size B5.out b6)
  clear b6
  go_upto_region 3 with (fail)
  have d0 := Y6.out.box.c0; have d1 := Y6.out.box.c1; have d2 := Y6.out.box.c2; have d3 := Y6.out.box.c3; have d4 := Y6.out.c4
  have e0 := Z6.out.box.c0; have e1 := Z6.out.box.c1; have e2 := Z6.out.box.c2; have e3 := Z6.out.box.c3; have e4 := Z6.out.c4
  have hs := alike_no1 HS.out
  clear HS HM OK TL
  rcases hs with h1 | ⟨h1, h2⟩ | ⟨h1, h2, h3⟩ | ⟨h1, h2, h3, h4⟩
  all_goals
    go_wp2_with fail
    go_returns
    exact ⟨rfl, B6.out⟩

/-- The places that differ, among the first i. -/
def difI (ts us : List ByteArray) (i : Nat) : List Int := (List.range i).filterMap fun j => if kAt ts j = kAt us j then Option.none else some (j : Int)
theorem difI_same (ts us : List ByteArray) (i : Nat) (h : kAt ts i = kAt us i) : difI ts us (i + 1) = difI ts us i := by
  unfold difI; simp only [List.range_succ, List.filterMap_append, List.filterMap_cons, List.filterMap_nil, if_pos h, List.append_nil]
theorem difI_add (ts us : List ByteArray) (i : Nat) (h : ¬ kAt ts i = kAt us i) : difI ts us (i + 1) = difI ts us i ++ [(i : Int)] := by
  unfold difI; simp only [List.range_succ, List.filterMap_append, List.filterMap_cons, List.filterMap_nil, if_neg h]
theorem difI_len (ts us : List ByteArray) (i : Nat) : (difI ts us i).length ≤ i := by
  unfold difI; have := List.length_filterMap_le (fun j => if kAt ts j = kAt us j then Option.none else some (j : Int)) (List.range i); simpa using this
theorem difI_mem (ts us : List ByteArray) (i : Nat) (x : Int) : x ∈ difI ts us i ↔ ∃ j : Nat, j < i ∧ x = j ∧ ¬ kAt ts j = kAt us j := by
  unfold difI
  rw [List.mem_filterMap]
  constructor
  · rintro ⟨j, hj, h⟩
    split at h
    · exact nomatch h
    · rename_i hne
      exact ⟨j, by simpa using hj, by simpa using h.symm, hne⟩
  · rintro ⟨j, hj, rfl, hne⟩
    exact ⟨j, by simpa using hj, by rw [if_neg hne]⟩
/-- What Changed answers. -/
def RetInts (xs : List Int) (w : World) (e : Ending) (w' : World) : Prop :=
  ∃ a k, e = .returned (.tuple #[.slice a xs.length k, .int .i64 0]) ∧ w'.ownsRow w.heap.size 3 1 (.slice a xs.length k) xs.length (xs.map (Value.int .i64)) ∧ Below w.heap.size w w'
theorem infoInt : (Try.prog.info? 3).map (fun i => (i.zero, i.size, i.bytes)) = some (some (.int .i64 0), 1, 8) := by kernel_rfl

set_option maxRecDepth 100000 in
set_option maxHeartbeats 4000000 in
theorem changed_ok (W H C D : Int) (po xo co pa xa ca n : Nat) (oks aks : List ByteArray) (w : World) (ho : TOk w (⟨W, H, C, D, some ⟨po, xo, Option.none⟩, n, co, oks⟩ : TV)) (ha : TOk w (⟨W, H, C, D, some ⟨pa, xa, Option.none⟩, n, ca, aks⟩ : TV)) (hm : [(⟨W, H, C, D, some ⟨po, xo, Option.none⟩, n, co, oks⟩ : TV), (⟨W, H, C, D, some ⟨pa, xa, Option.none⟩, n, ca, aks⟩ : TV)].all TV.may = true) :
    Calls Try.prog 16 #[TV.val (⟨W, H, C, D, some ⟨po, xo, Option.none⟩, n, co, oks⟩ : TV), TV.val (⟨W, H, C, D, some ⟨pa, xa, Option.none⟩, n, ca, aks⟩ : TV)] w (RetInts (difI oks aks n) w) := by
  obtain ⟨w4, hw4, x1, x2, b4⟩ : ∃ w3, (w.alloc (.cells (treeC (⟨W, H, C, D, some ⟨po, xo, Option.none⟩, n, co, oks⟩ : TV)) 26)).alloc (.cells (treeC (⟨W, H, C, D, some ⟨pa, xa, Option.none⟩, n, ca, aks⟩ : TV)) 26) = w3 ∧ TBox w3 w.heap.size (⟨W, H, C, D, some ⟨po, xo, Option.none⟩, n, co, oks⟩ : TV) ∧ TBox w3 (w.heap.size + 1) (⟨W, H, C, D, some ⟨pa, xa, Option.none⟩, n, ca, aks⟩ : TV) ∧ Below w.heap.size w w3 := by
    have al := fun (w : World) (x : Obj) => (Below.refl w.heap.size w).alloc (Nat.le_refl _) x
    have b2 := rbox_alloc (w.alloc (.cells (treeC (⟨W, H, C, D, some ⟨po, xo, Option.none⟩, n, co, oks⟩ : TV)) 26)) W H C D (some ⟨pa, xa, Option.none⟩) n ca 26
    simp only [World.size_alloc] at b2
    exact ⟨_, rfl, (rbox_alloc w W H C D (some ⟨po, xo, Option.none⟩) n co _).below (al _ _), b2, below_size (al _ _) (al _ _)⟩
  obtain ⟨w5, hw5, tl, b5⟩ := tlist2 w4 (⟨W, H, C, D, some ⟨po, xo, Option.none⟩, n, co, oks⟩ : TV) (⟨W, H, C, D, some ⟨pa, xa, Option.none⟩, n, ca, aks⟩ : TV) 26
  have HM := Lib.hid (fun (w' : World) (h : TList w' w4.heap.size 2 [(⟨W, H, C, D, some ⟨po, xo, Option.none⟩, n, co, oks⟩ : TV), (⟨W, H, C, D, some ⟨pa, xa, Option.none⟩, n, ca, aks⟩ : TV)]) (h2 : ∀ t ∈ [(⟨W, H, C, D, some ⟨po, xo, Option.none⟩, n, co, oks⟩ : TV), (⟨W, H, C, D, some ⟨pa, xa, Option.none⟩, n, ca, aks⟩ : TV)], TOk w' t) => by have := joinMay_any w4.heap.size 2 [(⟨W, H, C, D, some ⟨po, xo, Option.none⟩, n, co, oks⟩ : TV), (⟨W, H, C, D, some ⟨pa, xa, Option.none⟩, n, ca, aks⟩ : TV)] w' h (by decide) h2; rw [hm] at this; exact this)
  have TL := Lib.hid tl; have B5 := Lib.hid (below_size b4 b5); have X1 := Lib.hid x1; have X2 := Lib.hid x2
  have Y1 := Lib.hid (x1.below b5); have Y2 := Lib.hid (x2.below b5)
  have hn300 : n ≤ 300 := by have := ho.strs.len; have h2 := ho.short.1; simp only at this h2; omega
  have OK := Lib.hid (show ∀ t ∈ [(⟨W, H, C, D, some ⟨po, xo, Option.none⟩, n, co, oks⟩ : TV), (⟨W, H, C, D, some ⟨pa, xa, Option.none⟩, n, ca, aks⟩ : TV)], TOk w5 t by
    intro t ht
    simp only [List.mem_cons, List.not_mem_nil, or_false] at ht
    rcases ht with rfl | rfl
    · exact (ho.below b4).below b5
    · exact (ha.below b4).below b5)
  have HW4 := Lib.hid hw4; have HW5 := Lib.hid hw5
  clear hw4 hw5 x1 x2 b4 tl b5 hm ho ha
  go_enter Try.func16, Try.ntmps16
  go_upto_region 1 with (fail)
  rw [HW4.out]
  have c0 := X1.out.box.c0; have c1 := X1.out.box.c1; have c2 := X1.out.box.c2; have c3 := X1.out.box.c3; have c4 := X1.out.c4
  have d0 := X2.out.box.c0; have d1 := X2.out.box.c1; have d2 := X2.out.box.c2; have d3 := X2.out.box.c3; have d4 := X2.out.c4
  go_wp2_with fail
  rw [HW5.out]
  refine (HM.out w5 TL.out OK.out).mono ?_; rintro e w6 ⟨rfl, b6⟩
  clear c0 c1 c2 c3 c4 d0 d1 d2 d3 d4
  have KO := Lib.hid ((OK.out (⟨W, H, C, D, some ⟨po, xo, Option.none⟩, n, co, oks⟩ : TV) (by simp)).below b6).strs
  have KA := Lib.hid ((OK.out (⟨W, H, C, D, some ⟨pa, xa, Option.none⟩, n, ca, aks⟩ : TV) (by simp)).below b6).strs
  have Y6 := Lib.hid (Y1.out.below b6); have Z6 := Lib.hid (Y2.out.below b6)
  have B6 := Lib.hid (below_size B5.out b6)
  clear b6 HM OK TL B5 X1 X2 Y1 Y2
  obtain ⟨i1, ki, kz0, kz1, kz2⟩ := info_parts infoInt
  have Ki := Lib.hid ki; have Kz0 := Lib.hid kz0; have Kz1 := Lib.hid kz1; have Kz2 := Lib.hid kz2
  clear ki kz0 kz1 kz2
  go_upto_region 3 with (fail)
  have d0 := Y6.out.box.c0; have d1 := Y6.out.box.c1; have d2 := Y6.out.box.c2; have d3 := Y6.out.box.c3; have d4 := Y6.out.c4
  have e0 := Z6.out.box.c0; have e1 := Z6.out.box.c1; have e2 := Z6.out.box.c2; have e3 := Z6.out.box.c3; have e4 := Z6.out.c4
  go_wp2_with fail
  clear d0 d1 d2 d3 d4 e0 e1 e2 e3 e4
  go_loopw [6, 7, 8, 22] (fun acc _ _ vi wr => ∃ (i : Nat) (a' : Option Addr) (c' : Nat), i ≤ n ∧ vi = .int .i64 i ∧ acc = .slice a' (difI oks aks i).length c' ∧ Hid (wr.ownsRow w6.heap.size 3 1 (.slice a' (difI oks aks i).length c') (difI oks aks i).length ((difI oks aks i).map (Value.int .i64)) ∧ Below w6.heap.size w6 wr)) (fun _ _ _ vi _ => n - (intOf vi).toNat)
  case atStart => exact ⟨0, Option.none, 0, Nat.zero_le _, rfl, rfl, Lib.hid ⟨World.ownsRow_nil _ _ _ _, Below.refl _ _⟩⟩
  case round =>
    obtain ⟨i, a', c', hi, rfl, rfl, J⟩ := hrel
    by_cases hlt : i < n
    · have j1 : (i : Int) < n := by omega
      have j2 : (0 : Int) ≤ i := by omega
      have HZ := Lib.hid (Z6.out.below J.out.2)
      obtain ⟨_, _, hq, _, so⟩ := (KO.out.below J.out.2).cellAt i hlt
      obtain ⟨rfl, rfl⟩ : po = _ ∧ xo = _ := by simpa using hq
      obtain ⟨_, _, hq, _, sa⟩ := (KA.out.below J.out.2).cellAt i hlt
      obtain ⟨rfl, rfl⟩ : pa = _ ∧ xa = _ := by simpa using hq
      replace sa : wr.cell? ⟨pa, xa + i, Option.none⟩ = some (.string (kAt aks i)) := sa
      replace so : wr.cell? ⟨po, xo + i, Option.none⟩ = some (.string (kAt oks i)) := so
      have HKS := Lib.hid (difI_same oks aks i)
      have HKT := Lib.hid (difI_add oks aks i)
      have hml := difI_len oks aks i
      clear hq
      have e0 := HZ.out.box.c0; have e1 := HZ.out.box.c1; have e2 := HZ.out.box.c2; have e3 := HZ.out.box.c3; have e4 := HZ.out.c4
      generalize kAt aks i = a at *
      generalize kAt oks i = o at *
      by_cases hab : o = a
      · subst hab
        have r1 := str_eq o
        go_wp2_with fail
        go_roundw
        case rel => exact ⟨i + 1, a', c', by omega, by go_num, by rw [HKS.out rfl], by rw [HKS.out rfl]; exact J⟩
        case measure => simp [intOf]; omega
      · have r1 := str_ne hab
        have HE := Lib.hid (HKT.out hab)
        go_upto_region 10 with (fail)
        clear e0 e1 e2 e3 e4
        clear so sa r1 hab HKS HKT
        have bal : Below wr.heap.size wr (wr.alloc (.cells #[.int .i64 (i : Int)] 3)) := (Below.refl _ _).alloc (Nat.le_refl _) _
        generalize difI oks aks i = xs at *
        go_wp2_with (at_builtin; go_loud (refine wpList_append_fresh _ rfl _ _ 43 rfl w6.heap.size 3 i1 (.int .i64 0) 8 Try.underlying43 Ki.out Kz0.out Kz1.out Kz2.out rfl .i64 a' xs.length c' xs rfl (World.ownsRow.alloc J.out.1 _) ⟨wr.heap.size, 0, Option.none⟩ 1 1 [(i : Int)] rfl (reads_alloc (k := .i64) wr [(i : Int)] _ _ _ rfl (by unfold maxLen; simp) _ rfl) (by decide) (by unfold maxLen; omega) (by omega) (by have := J.out.2.size; simp; omega) ?_); intro a2 cap2 w7 hown hgrow hfr)
        have hb7 : Below w6.heap.size w6 w7 := (J.out.2.trans (bal.mono J.out.2.size)).grown hgrow (by have := J.out.2.size; simp; omega) (fun k hk => (J.out.1.lt k hk).1)
        have H7 := Lib.hid (And.intro hown hb7)
        clear hown hgrow hfr hb7 bal
        go_wp2_with fail
        go_roundw
        case rel =>
          refine ⟨i + 1, a2, cap2, by omega, by go_num, by rw [HE.out]; simp, ?_⟩
          rw [HE.out]
          exact Lib.hid ⟨by simpa using H7.out.1, H7.out.2⟩
        case measure => simp [intOf]; omega
    · have hin : i = n := by omega
      have j1 : ¬ (i : Int) < n := by omega
      rw [hin] at J
      go_wp2_with fail
      go_returns
      exact ⟨a', c', rfl, owns_base J.out.1 B6.out.size, below_size B6.out J.out.2⟩
end Go.Proofs.Ytbmbelnjgnahhaa
