/-
  Contracts of the statements' own aquref9.Undo, Weight, BestFilter.
-/
import Derived.Test.YtkbbnmcbekhioaaFiltRef
namespace Go.Proofs.Ytkbbnmcbekhioaa
open Go.RowKit

theorem rundo_no (kind bpp : Int) (pa ra : Option Addr) (pn pc rn rc : Nat) (w : World) (hp : pn ≤ 9223372036854775807) (hr : rn ≤ 9223372036854775807) (h0 : -9223372036854775808 ≤ kind ∧ kind ≤ 9223372036854775807) (h1 : -9223372036854775808 ≤ bpp ∧ bpp ≤ 9223372036854775807) (h : mayE kind bpp pn rn ≠ 0) :
    Calls Try.prog 13 #[.int .i64 kind, .int .i64 bpp, .slice pa pn pc, .slice ra rn rc] w fun e w' => e = .returned (.tuple #[.slice Option.none 0 0, .int .i64 (mayE kind bpp pn rn)]) ∧ w' = w := by
  have hb : (mayE kind bpp pn rn != 0) = true := by simpa using h
  go_enter Try.func13, Try.ntmps13
  go_wp2_with fail
  refine (rmay_any kind bpp pa ra pn pc rn rc w hp hr h0 h1).mono ?_; rintro e w1 ⟨rfl, rfl⟩
  go_wp2
  go_ret2
  exact ⟨rfl, rfl⟩

set_option maxHeartbeats 1000000 in
theorem rundo_yes (kind : Int) (bpp : Nat) (pa ra : Option Addr) (pn pc rn rc : Nat) (ps rs : List Int) (w : World) (hp : Reads .u8 w pa pn pc ps) (hr : Reads .u8 w ra rn rc rs) (bp : isB ps) (br : isB rs) (h : mayE kind bpp pn rn = 0) (hsz : rn ≤ 1000000) :
    Calls Try.prog 13 #[.int .i64 kind, .int .i64 bpp, .slice pa pn pc, .slice ra rn rc] w (RetB w (unL kind bpp ps rs) 0) := by
  obtain ⟨hk, hb1, hb8, hpr⟩ := mayE_zero h
  have hp63 := hp.n63.1
  have Hl := Lib.hid hr.len
  obtain ⟨i0, hi, hz0, hz1, hz2⟩ := info_parts infoB
  have Hi := Lib.hid hi; have Hz0 := Lib.hid hz0; have Hz1 := Lib.hid hz1; have Hz2 := Lib.hid hz2
  have Hpr := Lib.hid hpr
  clear hi hz0 hz1 hz2 hpr
  go_enter Try.func13, Try.ntmps13
  go_wp2_with fail
  refine (rmay_any kind bpp pa ra pn pc rn rc w hp63 (by omega) (by omega) (by omega)).mono ?_; rintro e w1 ⟨rfl, rfl⟩
  rw [h]
  clear h
  go_wp2_with (at_make; refine wpList_make_full _ rfl _ _ 22 rfl w1.heap.size 5 i0 (.int .u8 0) 1 Try.underlying22 Hi.out Hz0.out Hz1.out _ _ _ _ rn rfl rfl (by first | rfl | omega) (by first | rfl | omega) (by rw [Hz2.out]; omega) (by unfold maxLen; omega) (Nat.le_refl _) ?_)
  intro w2 hown hgrow
  rw [toList_made rn .u8] at hown
  have hb0 : Below w1.heap.size w1 w2 := (Below.refl _ _).grown hgrow (Nat.le_refl _) (fun k h => nomatch h)
  clear hgrow
  generalize hg : w1.heap.size = g at *
  have HG := Lib.hid hg; clear hg
  generalize hxs : List.replicate rn (0 : Int) = xs at hown
  have Hxs := Lib.hid hxs; clear hxs
  go_wp2
  go_loopw [12] (fun i wr => ∃ (k : Nat) (xs : List Int), k ≤ rn ∧ i = .int .i64 k ∧ wr.ownsRow g 5 1 (.slice (some ⟨g, 0, Option.none⟩) rn rn) rn (xs.map (Value.int .u8)) ∧ Below g w1 wr ∧
      Hid (xs.length = rn ∧ ∀ j, j < rn → xs.getD j 0 = if j < k then (unL kind bpp ps rs).getD j 0 else 0)) (fun i _ => rn - (intOf i).toNat)
  case atStart =>
    refine ⟨0, xs, Nat.zero_le _, rfl, hown, hb0, ?_⟩
    rw [← Hxs.out]
    exact ⟨by simp, fun j hj => by simp [List.getD, hj]⟩
  case round =>
    obtain ⟨k, ys, hkk, rfl, ho, hbel, Hy⟩ := hrel
    clear hown hb0 Hxs
    by_cases hlt : k < rn
    · have hr' : Reads .u8 wr ra rn rc rs := hr.below (by rw [HG.out]; exact hbel)
      have hp' : Reads .u8 wr pa pn pc ps := hp.below (by rw [HG.out]; exact hbel)
      have bys : isB ys := by
        intro x hx
        obtain ⟨j, hj, rfl⟩ := List.getElem_of_mem hx
        have hj2 : j < rn := by rw [← Hy.out.1]; exact hj
        have := Hy.out.2 j hj2
        rw [List.getD, List.getElem?_eq_getElem hj] at this
        simp only [Option.getD_some] at this
        rw [this]
        split
        · have := getD_bd (unL_isB kind bpp ps rs) j; omega
        · omega
      have hgs : gss kind bpp ps ys k = gss kind bpp ps (unL kind bpp ps rs) k := gss_front kind bpp ps _ _ k (by omega) fun j hj => by rw [Hy.out.2 j (by omega), if_pos hj]
      have hgb : 0 ≤ gss kind bpp ps (unL kind bpp ps rs) k ∧ gss kind bpp ps (unL kind bpp ps rs) k ≤ 255 := gss_bd bp (unL_isB _ _ _ _) k
      have hV : Hid ((unL kind bpp ps rs).getD k 0 = (rs.getD k 0 + gss kind bpp ps (unL kind bpp ps rs) k) % 256) := unL_getD _ _ _ _ _ (by omega) (by rw [Hl.out]; exact hlt)
      obtain ⟨b, off, rfl, hc1⟩ := hr'.cellAt k hlt
      have hc := owns_cell ho k (by omega)
      have hfz := ho.frozenAt k
      have hx := getD_bd br k
      generalize rs.getD k 0 = x at *
      have hG : Hid (gss kind bpp ps (unL kind bpp ps rs) k = gs kind (lback ys k bpp) (lback ps k 0) (lback ps k bpp)) := by unfold Hid; rw [← hgs]; unfold gss; rw [show lback ps k 0 = ps.getD k 0 by unfold lback; rw [if_pos (Nat.zero_le _), Nat.sub_zero]]
      have hprk : pn ≠ 0 → k < pn := fun hn => by rw [Hpr.out hn]; exact hlt
      have b1 := lback_bd bys k bpp
      have Hbys := Lib.hid bys
      clear hgs bys
      have b2 := lback_bd bp k 0
      have b3 := lback_bd bp k bpp
      have Hprk := Lib.hid hprk
      clear hr hp hprk
      go_wp2_with fail
      refine wp_region_still_tail 22 (by kernel_rfl) (by kernel_rfl) ?_
      simp only [List.take_succ_cons, List.take_zero, List.drop_succ_cons, List.drop_zero]
      repeat still_step
      still_call (rback_any _ _ _ _ k bpp _ (by exact (reads_of_owns ho).drew) Hbys.out (fun _ => hlt) (by omega) (by omega))
      repeat still_step
      still_call (rback_any _ _ _ _ k 0 _ (by exact hp'.drew) bp Hprk.out (by omega) (by omega))
      repeat still_step
      still_call (rback_any _ _ _ _ k bpp _ (by exact hp'.drew) bp Hprk.out (by omega) (by omega))
      repeat still_step
      still_call (rguess_any _ _ _ _ _ b1 b2 b3)
      rw [← hG.out]
      generalize gss kind bpp ps (unL kind bpp ps rs) k = gv at *
      repeat still_step
      refine wpStill_nil ?_
      change wpList _ _ _ _ _ wr.drew
      go_wp2_with fail
      go_roundw
      case rel =>
        obtain ⟨hyl, hyj⟩ := Hy.out
        refine ⟨k + 1, ys.set k ((x + gv) % 256), by omega, by go_num, owns_set (World.ownsRow.drew ho) _ _, (hbel.setCell (p := ⟨g, k, Option.none⟩) (Nat.le_refl _) _).drew, by simpa using hyl, fun j hj => ?_⟩
        rw [getD_set, hyj j hj]
        by_cases e : j = k
        · rw [if_pos ⟨e.symm, by omega⟩, if_pos (by omega), e, hV.out]
        · rw [if_neg (fun h => e h.1.symm)]
          by_cases h2 : j < k
          · rw [if_pos h2, if_pos (by omega)]
          · rw [if_neg h2, if_neg (by omega)]
      case measure => simp [intOf]; omega
    · obtain rfl : k = rn := by omega
      go_wp2
      go_ret2
      obtain ⟨hyl, hyj⟩ := Hy.out
      have e : ys = unL kind bpp ps rs := ext_getD (by rw [hyl, unL_len, Hl.out]) fun j hj => by
        rw [hyj j (by omega), if_pos (by omega)]
      subst e
      unfold RetB
      rw [unL_len, Hl.out, HG.out]
      exact ⟨g, k, rfl, ho, hbel⟩

set_option maxHeartbeats 400000 in
theorem rweight_any (a : Option Addr) (n cap : Nat) (xs : List Int) (w : World) (hr : Reads .u8 w a n cap xs) (hb : isB xs) (hn : n ≤ 1000000) :
    Calls Try.prog 18 #[.slice a n cap] w fun e w' => e = .returned (.int .i64 (wt xs)) ∧ ∃ nq, w' = w.drewN nq := by
  have Hl := Lib.hid hr.len
  go_enter Try.func18, Try.ntmps18
  go_wp2
  go_loopw [3, 4] (fun s i wr => ∃ k : Nat, k ≤ n ∧ i = .int .i64 k ∧ s = .int .i64 (wt (xs.take k)) ∧ ∃ nq, wr = w.drewN nq) (fun _ i _ => n - (intOf i).toNat)
  case atStart => exact ⟨0, Nat.zero_le _, rfl, rfl, 0, rfl⟩
  case round =>
    obtain ⟨k, hk, rfl, rfl, nq0, rfl⟩ := hrel
    have hd := wt_bd xs hb k (by rw [Hl.out]; exact hk)
    by_cases hlt : k < n
    · obtain ⟨b, off, rfl, hc⟩ := hr.cellAt k hlt
      have hx := hb.get k (by rw [Hl.out]; exact hlt)
      have HS : Hid (wt (xs.take (k + 1)) = wt (xs.take k) + wt1 (xs.getD k 0)) := by rw [take_getD xs k (by rw [Hl.out]; exact hlt), wt_snoc]; rfl
      generalize wt (xs.take k) = s at *
      generalize xs.getD k 0 = x at *
      clear hr hb
      go_wp2
      go_quiet (fail)
      rw [drewN_drewN]
      generalize nq0 + nq = q
      go_wp2
      all_goals
        go_roundw
        case rel => exact ⟨k + 1, by omega, by go_num, by rw [HS.out]; unfold wt1; congr 1; split <;> (try split) <;> omega, q, rfl⟩
        case measure => simp [intOf]; omega
    · obtain rfl : k = n := by omega
      go_wp2
      go_ret
      exact ⟨by rw [← Hl.out, List.take_length]; rfl, nq0, rfl⟩

theorem rbest_no (bpp : Int) (pa ra : Option Addr) (pn pc rn rc : Nat) (w : World) (hp : pn ≤ 9223372036854775807) (hr : rn ≤ 9223372036854775807) (h1 : -9223372036854775808 ≤ bpp ∧ bpp ≤ 9223372036854775807) (h : mayE 0 bpp pn rn ≠ 0) :
    Calls Try.prog 15 #[.int .i64 bpp, .slice pa pn pc, .slice ra rn rc] w fun e w' => e = .returned (.tuple #[.int .i64 0, .slice Option.none 0 0, .int .i64 (mayE 0 bpp pn rn)]) ∧ w' = w := by
  have hb : (mayE 0 bpp pn rn != 0) = true := by simpa using h
  go_enter Try.func15, Try.ntmps15
  go_wp2_with fail
  refine (rmay_any 0 bpp pa ra pn pc rn rc w hp hr (by omega) h1).mono ?_; rintro e w1 ⟨rfl, rfl⟩
  go_wp2_with fail
  go_ret3
  exact ⟨rfl, rfl⟩

set_option maxHeartbeats 1000000 in
theorem rbest_yes (bpp : Nat) (pa ra : Option Addr) (pn pc rn rc : Nat) (ps rs : List Int) (w : World) (hp : Reads .u8 w pa pn pc ps) (hr : Reads .u8 w ra rn rc rs) (bp : isB ps) (br : isB rs) (h : mayE 0 bpp pn rn = 0) (hsz : rn ≤ 1000000) :
    Calls Try.prog 15 #[.int .i64 bpp, .slice pa pn pc, .slice ra rn rc] w (RetBest w (bst bpp ps rs 5) (doL (bst bpp ps rs 5) bpp ps rs)) := by
  have Hl := Lib.hid hr.len
  have hall : ∀ j : Nat, j < 5 → mayE j bpp pn rn = 0 := by
    intro j hj
    have := mayE_zero h
    unfold mayE
    rw [if_neg (by omega), if_neg (by omega)]
  have Hall := Lib.hid hall
  clear hall h
  go_enter Try.func15, Try.ntmps15
  have h63 := hp.n63.1
  have h63r := hr.n63.1
  go_wp2_with fail
  refine (rmay_any 0 bpp pa ra pn pc rn rc w h63 h63r (by omega) (by have := mayE_zero (Hall.out 0 (by omega)); omega)).mono ?_; rintro e w1 ⟨rfl, rfl⟩
  rw [show mayE 0 bpp pn rn = 0 from Hall.out 0 (by omega)]
  go_wp2_with fail
  go_loopw [9, 10, 12] (fun b o k wr => ∃ (j : Nat) (a' : Option Addr) (n' c' : Nat) (ys : List Int), j ≤ 5 ∧ k = .int .i64 j ∧ b = .int .i64 (bst bpp ps rs j : Nat) ∧ o = .slice a' n' c' ∧ Below w1.heap.size w1 wr ∧ Reads .u8 wr a' n' c' ys ∧ Hid (0 < j → ys = doL (bst bpp ps rs j) bpp ps rs)) (fun _ _ k _ => (5 - intOf k).toNat)
  case atStart => exact ⟨0, Option.none, 0, 0, [], by omega, rfl, rfl, rfl, Below.refl _ _, Reads.none _ _, fun h => by omega⟩
  case round =>
    obtain ⟨j, a', n', c', ys, hj, rfl, rfl, rfl, hbel, hy, HY⟩ := hrel
    by_cases hlt : j < 5
    · have hr' : Reads .u8 wr ra rn rc rs := hr.below hbel
      have hp' : Reads .u8 wr pa pn pc ps := hp.below hbel
      go_wp2_with fail
      refine (rdo_yes j bpp pa ra pn pc rn rc ps rs wr hp' hr' bp br (Hall.out j hlt) hsz).mono ?_
      rintro e w2 ⟨g2, c2, rfl, ho2, hb2⟩
      rw [doL_len, Hl.out] at ho2
      rw [doL_len, Hl.out]
      have hb3 := below_size hbel hb2
      have hd2 := reads_of_owns ho2
      have hy2 := hy.below hb2
      clear hr' hp' ho2 hb2 hbel hy
      by_cases h0 : j = 0
      · subst h0
        have hz : (((0 : Nat) : Int) == 0) = true := rfl
        have HB : Hid (bst bpp ps rs (0 + 1) = 0) := by unfold Hid bst; rw [if_pos (.inl rfl)]
        go_wp2_with fail
        go_roundw
        case rel => exact ⟨0 + 1, some ⟨g2, 0, Option.none⟩, rn, c2, _, by omega, by go_num, by rw [HB.out]; rfl, rfl, hb3, hd2, fun _ => by rw [HB.out]⟩
        case measure => simp [intOf]
      · have hz : ((j : Int) == 0) = false := by rw [beq_eq_false_iff_ne]; omega
        have e : ys = doL (bst bpp ps rs j) bpp ps rs := HY.out (by omega)
        have hn' : rn = n' := by rw [← hy2.len, e, doL_len, Hl.out]
        subst hn'
        subst e
        have HB : Hid (bst bpp ps rs (j + 1) = if wt (doL j bpp ps rs) < wt (doL (bst bpp ps rs j) bpp ps rs) then j else bst bpp ps rs j) := by
          unfold Hid; rw [bst]; simp only [h0, false_or]
        by_cases hw : wt (doL j bpp ps rs) < wt (doL (bst bpp ps rs j) bpp ps rs)
        · have HB2 : Hid (bst bpp ps rs (j + 1) = j) := by unfold Hid; rw [HB.out, if_pos hw]
          go_wp2_with fail
          refine (rweight_any _ rn c2 _ w2 hd2 (doL_isB _ _ _ _) hsz).mono ?_; rintro e w3 ⟨rfl, n3, rfl⟩
          go_wp2_with fail
          refine (rweight_any _ rn c' _ _ (hy2.drewN n3) (doL_isB _ _ _ _) (by omega)).mono ?_; rintro e w4 ⟨rfl, n4, rfl⟩
          rw [drewN_drewN]
          replace hd2 := hd2.drewN (n3 + n4)
          replace hy2 := hy2.drewN (n3 + n4)
          replace hb3 := below_drewN hb3 (n3 + n4)
          generalize w2.drewN (n3 + n4) = w5 at *
          go_wp2_with fail
          go_roundw
          case rel => exact ⟨j + 1, some ⟨g2, 0, Option.none⟩, rn, c2, _, by omega, by go_num, by rw [HB2.out], rfl, hb3, hd2, fun _ => by rw [HB2.out]⟩
          case measure => simp [intOf]; omega
        · have HB2 : Hid (bst bpp ps rs (j + 1) = bst bpp ps rs j) := by unfold Hid; rw [HB.out, if_neg hw]
          go_wp2_with fail
          refine (rweight_any _ rn c2 _ w2 hd2 (doL_isB _ _ _ _) hsz).mono ?_; rintro e w3 ⟨rfl, n3, rfl⟩
          go_wp2_with fail
          refine (rweight_any _ rn c' _ _ (hy2.drewN n3) (doL_isB _ _ _ _) (by omega)).mono ?_; rintro e w4 ⟨rfl, n4, rfl⟩
          rw [drewN_drewN]
          replace hd2 := hd2.drewN (n3 + n4)
          replace hy2 := hy2.drewN (n3 + n4)
          replace hb3 := below_drewN hb3 (n3 + n4)
          generalize w2.drewN (n3 + n4) = w5 at *
          go_wp2_with fail
          go_roundw
          case rel => exact ⟨j + 1, a', rn, c', _, by omega, by go_num, by rw [HB2.out], rfl, hb3, hy2, fun _ => by rw [HB2.out]⟩
          case measure => simp [intOf]; omega
    · obtain rfl : j = 5 := by omega
      have e := HY.out (by omega)
      subst e
      go_wp2_with fail
      go_ret3
      unfold RetBest
      have hl := hy.len
      rw [hl]
      exact ⟨a', c', rfl, hy, hbel⟩
end Go.Proofs.Ytkbbnmcbekhioaa
