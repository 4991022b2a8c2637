/-
  Contracts of the statements' own aquref9.Do, Undo, Weight, BestFilter.
-/
import Derived.Test.YtkbbnmcbekhioaaFiltUndo
import Derived.StillTailTactics
namespace Go.Proofs.Ytkbbnmcbekhioaa
open Go.RowKit

theorem rback_any (a : Option Addr) (n cap : Nat) (xs : List Int) (i m : Nat) (w : World) (hr : Reads .u8 w a n cap xs) (hb : isB xs) (hi : n ≠ 0 → i < n) (hi2 : i ≤ 1000000) (hm : m ≤ 1000000) :
    Calls Try.prog 25 #[.slice a n cap, .int .i64 i, .int .i64 m] w fun e w' => e = .returned (.int .i64 (lback xs i m)) ∧ w' = w := by
  have hn := hr.n63.1
  by_cases h : (i : Int) - m < 0
  · have e : lback xs i m = 0 := by unfold lback; rw [if_neg (by omega)]
    rw [e]
    go_enter Try.func25, Try.ntmps25
    go_wp2
    go_ret
    exact ⟨rfl, rfl⟩
  · by_cases h0 : n = 0
    · subst h0
      have e : lback xs i m = 0 := by
        rw [List.eq_nil_of_length_eq_zero hr.len]; unfold lback; split <;> simp
      rw [e]
      have hz : (((0 : Nat) : Int) == 0) = true := rfl
      go_enter Try.func25, Try.ntmps25
      go_wp2
      go_ret
      exact ⟨rfl, rfl⟩
    · have hz : ((n : Int) == 0) = false := by rw [beq_eq_false_iff_ne]; omega
      have hi3 := hi h0
      obtain ⟨b, off, rfl, hc⟩ := hr.cellAt (i - m) (by omega)
      have hx := getD_bd hb (i - m)
      have e : lback xs i m = xs.getD (i - m) 0 := by unfold lback; rw [if_pos (by omega)]
      rw [e]
      clear e hr hb hi
      generalize xs.getD (i - m) 0 = x at *
      go_enter Try.func25, Try.ntmps25
      go_wp2
      go_ret
      exact ⟨rfl, rfl⟩

set_option maxHeartbeats 1000000 in
theorem rpaeth_any' (a b c : Int) (w : World) (ha : 0 ≤ a ∧ a ≤ 255) (hb : 0 ≤ b ∧ b ≤ 255) (hc : 0 ≤ c ∧ c ≤ 255) :
    Calls Try.prog 20 #[.int .i64 a, .int .i64 b, .int .i64 c] w fun e w' => e = .returned (.int .i64 (pae a b c)) ∧ w' = w := rpaeth_any a b c w ha hb hc

theorem rguess_any (kind l u c : Int) (w : World) (hl : 0 ≤ l ∧ l ≤ 255) (hu : 0 ≤ u ∧ u ≤ 255) (hc : 0 ≤ c ∧ c ≤ 255) :
    Calls Try.prog 24 #[.int .i64 kind, .int .i64 l, .int .i64 u, .int .i64 c] w fun e w' => e = .returned (.int .i64 (gs kind l u c)) ∧ w' = w := by
  have hpb := pae_bd l u c hl hu hc
  go_enter Try.func24, Try.ntmps24
  go_wp2_with (go_at_call 20; refine (rpaeth_any _ _ _ _ (by omega) (by omega) (by omega)).mono ?_; rintro e w' ⟨rfl, rfl⟩)
  all_goals go_ret
  all_goals go_tidy
  all_goals refine ⟨ret_int ?_, rfl⟩
  all_goals try simp only [beq_iff_eq, beq_eq_false_iff_ne] at *
  all_goals (simp only [gs]; (repeat' split) <;> first | rfl | omega | (exfalso; omega))

set_option maxHeartbeats 1000000 in
theorem rmay_any (kind bpp : Int) (pa ra : Option Addr) (pn pc rn rc : Nat) (w : World) (hp : pn ≤ 9223372036854775807) (hr : rn ≤ 9223372036854775807) (h0 : -9223372036854775808 ≤ kind ∧ kind ≤ 9223372036854775807) (h1 : -9223372036854775808 ≤ bpp ∧ bpp ≤ 9223372036854775807) :
    Calls Try.prog 23 #[.int .i64 kind, .int .i64 bpp, .slice pa pn pc, .slice ra rn rc] w fun e w' => e = .returned (.int .i64 (mayE kind bpp pn rn)) ∧ w' = w := by
  by_cases c1 : kind < 0
  · unfold mayE; rw [if_pos (.inl c1)]
    go_enter Try.func23, Try.ntmps23
    go_wp2
    go_ret
    exact ⟨rfl, rfl⟩
  · by_cases c2 : 4 < kind
    · unfold mayE; rw [if_pos (.inr (.inl c2))]
      go_enter Try.func23, Try.ntmps23
      go_wp2
      go_ret
      exact ⟨rfl, rfl⟩
    · by_cases c3 : bpp < 1
      · unfold mayE; rw [if_pos (.inr (.inr (.inl c3)))]
        go_enter Try.func23, Try.ntmps23
        go_wp2
        go_ret
        exact ⟨rfl, rfl⟩
      · by_cases c4 : 8 < bpp
        · unfold mayE; rw [if_pos (.inr (.inr (.inr c4)))]
          go_enter Try.func23, Try.ntmps23
          go_wp2
          go_ret
          exact ⟨rfl, rfl⟩
        · unfold mayE; rw [if_neg (by omega)]
          by_cases c5 : pn = 0
          · have q : ¬ (0 : Int) < pn := by omega
            rw [if_neg (by omega)]
            clear c5
            go_enter Try.func23, Try.ntmps23
            go_wp2
            go_ret
            exact ⟨rfl, rfl⟩
          · have q : (0 : Int) < pn := by omega
            by_cases c6 : pn = rn
            · have q2 : ((pn : Int) != (rn : Int)) = false := by subst c6; simp
              rw [if_neg (by omega)]
              clear c5 c6
              go_enter Try.func23, Try.ntmps23
              go_wp2
              go_ret
              exact ⟨rfl, rfl⟩
            · have q2 : ((pn : Int) != (rn : Int)) = true := by rw [bne_iff_ne]; omega
              rw [if_pos ⟨c5, c6⟩]
              clear c5 c6
              go_enter Try.func23, Try.ntmps23
              go_wp2
              go_ret
              exact ⟨rfl, rfl⟩

theorem rdo_no (kind bpp : Int) (pa ra : Option Addr) (pn pc rn rc : Nat) (w : World) (hp : pn ≤ 9223372036854775807) (hr : rn ≤ 9223372036854775807) (h0 : -9223372036854775808 ≤ kind ∧ kind ≤ 9223372036854775807) (h1 : -9223372036854775808 ≤ bpp ∧ bpp ≤ 9223372036854775807) (h : mayE kind bpp pn rn ≠ 0) :
    Calls Try.prog 11 #[.int .i64 kind, .int .i64 bpp, .slice pa pn pc, .slice ra rn rc] w fun e w' => e = .returned (.tuple #[.slice Option.none 0 0, .int .i64 (mayE kind bpp pn rn)]) ∧ w' = w := by
  have hb : (mayE kind bpp pn rn != 0) = true := by simpa using h
  go_enter Try.func11, Try.ntmps11
  go_wp2_with fail
  refine (rmay_any kind bpp pa ra pn pc rn rc w hp hr h0 h1).mono ?_; rintro e w1 ⟨rfl, rfl⟩
  go_wp2
  go_ret2
  exact ⟨rfl, rfl⟩

set_option maxHeartbeats 1000000 in
theorem rdo_yes (kind : Int) (bpp : Nat) (pa ra : Option Addr) (pn pc rn rc : Nat) (ps rs : List Int) (w : World) (hp : Reads .u8 w pa pn pc ps) (hr : Reads .u8 w ra rn rc rs) (bp : isB ps) (br : isB rs) (h : mayE kind bpp pn rn = 0) (hsz : rn ≤ 1000000) :
    Calls Try.prog 11 #[.int .i64 kind, .int .i64 bpp, .slice pa pn pc, .slice ra rn rc] w (RetB w (doL kind bpp ps rs) 0) := by
  obtain ⟨hk, hb1, hb8, hpr⟩ := mayE_zero h
  have hp63 := hp.n63.1
  have Hl := Lib.hid hr.len
  obtain ⟨i0, hi, hz0, hz1, hz2⟩ := info_parts infoB
  have Hi := Lib.hid hi; have Hz0 := Lib.hid hz0; have Hz1 := Lib.hid hz1; have Hz2 := Lib.hid hz2
  have Hpr := Lib.hid hpr
  clear hi hz0 hz1 hz2 hpr
  go_enter Try.func11, Try.ntmps11
  go_wp2_with fail
  refine (rmay_any kind bpp pa ra pn pc rn rc w hp63 (by omega) (by omega) (by omega)).mono ?_; rintro e w1 ⟨rfl, rfl⟩
  rw [h]
  clear h
  go_wp2_with (at_make; refine wpList_make_full _ rfl _ _ 22 rfl w1.heap.size 5 i0 (.int .u8 0) 1 Try.underlying22 Hi.out Hz0.out Hz1.out _ _ _ _ rn rfl rfl (by first | rfl | omega) (by first | rfl | omega) (by rw [Hz2.out]; omega) (by unfold maxLen; omega) (Nat.le_refl _) ?_)
  intro w2 hown hgrow
  rw [toList_made rn .u8] at hown
  have hb0 : Below w1.heap.size w1 w2 := (Below.refl _ _).grown hgrow (Nat.le_refl _) (fun k h => nomatch h)
  clear hgrow
  generalize hg : w1.heap.size = g at *
  have HG := Lib.hid hg; clear hg
  generalize hxs : List.replicate rn (0 : Int) = xs at hown
  have Hxs := Lib.hid hxs; clear hxs
  go_wp2
  go_loopw [12] (fun i wr => ∃ (k : Nat) (xs : List Int), k ≤ rn ∧ i = .int .i64 k ∧ wr.ownsRow g 5 1 (.slice (some ⟨g, 0, Option.none⟩) rn rn) rn (xs.map (Value.int .u8)) ∧ Below g w1 wr ∧
      Hid (xs.length = rn ∧ ∀ j, j < rn → xs.getD j 0 = if j < k then (doL kind bpp ps rs).getD j 0 else 0)) (fun i _ => rn - (intOf i).toNat)
  case atStart =>
    refine ⟨0, xs, Nat.zero_le _, rfl, hown, hb0, ?_⟩
    rw [← Hxs.out]
    exact ⟨by simp, fun j hj => by simp [List.getD, hj]⟩
  case round =>
    obtain ⟨k, ys, hkk, rfl, ho, hbel, Hy⟩ := hrel
    clear hown hb0 Hxs
    by_cases hlt : k < rn
    · have hr' : Reads .u8 wr ra rn rc rs := hr.below (by rw [HG.out]; exact hbel)
      have hp' : Reads .u8 wr pa pn pc ps := hp.below (by rw [HG.out]; exact hbel)
      have hgb : 0 ≤ gss kind bpp ps rs k ∧ gss kind bpp ps rs k ≤ 255 := gss_bd bp br k
      have hV : Hid ((doL kind bpp ps rs).getD k 0 = (rs.getD k 0 - gss kind bpp ps rs k) % 256) := doL_getD _ _ _ _ _ (by rw [Hl.out]; exact hlt)
      obtain ⟨b, off, rfl, hc1⟩ := hr'.cellAt k hlt
      have hc := owns_cell ho k (by omega)
      have hfz := ho.frozenAt k
      have hx := getD_bd br k
      generalize rs.getD k 0 = x at *
      have hG : Hid (gss kind bpp ps rs k = gs kind (lback rs k bpp) (lback ps k 0) (lback ps k bpp)) := by unfold Hid gss; rw [show lback ps k 0 = ps.getD k 0 by unfold lback; rw [if_pos (Nat.zero_le _), Nat.sub_zero]]
      have hprk : pn ≠ 0 → k < pn := fun hn => by rw [Hpr.out hn]; exact hlt
      have b1 := lback_bd br k bpp
      have b2 := lback_bd bp k 0
      have b3 := lback_bd bp k bpp
      have Hprk := Lib.hid hprk
      clear hr hp hprk
      go_wp2_with fail
      refine wp_region_still_tail 22 (by kernel_rfl) (by kernel_rfl) ?_
      simp only [List.take_succ_cons, List.take_zero, List.drop_succ_cons, List.drop_zero]
      repeat still_step
      still_call (rback_any _ _ _ _ k bpp _ (by exact hr'.drew) br (fun _ => hlt) (by omega) (by omega))
      repeat still_step
      still_call (rback_any _ _ _ _ k 0 _ (by exact hp'.drew) bp Hprk.out (by omega) (by omega))
      repeat still_step
      still_call (rback_any _ _ _ _ k bpp _ (by exact hp'.drew) bp Hprk.out (by omega) (by omega))
      repeat still_step
      still_call (rguess_any _ _ _ _ _ b1 b2 b3)
      rw [← hG.out]
      generalize gss kind bpp ps rs k = gv at *
      repeat still_step
      refine wpStill_nil ?_
      change wpList _ _ _ _ _ wr.drew
      go_wp2_with fail
      go_roundw
      case rel =>
        obtain ⟨hyl, hyj⟩ := Hy.out
        refine ⟨k + 1, ys.set k ((x - gv) % 256), by omega, by go_num, owns_set (World.ownsRow.drew ho) _ _, (hbel.setCell (p := ⟨g, k, Option.none⟩) (Nat.le_refl _) _).drew, by simpa using hyl, fun j hj => ?_⟩
        rw [getD_set, hyj j hj]
        by_cases e : j = k
        · rw [if_pos ⟨e.symm, by omega⟩, if_pos (by omega), e, hV.out]
        · rw [if_neg (fun h => e h.1.symm)]
          by_cases h2 : j < k
          · rw [if_pos h2, if_pos (by omega)]
          · rw [if_neg h2, if_neg (by omega)]
      case measure => simp [intOf]; omega
    · obtain rfl : k = rn := by omega
      go_wp2
      go_ret2
      obtain ⟨hyl, hyj⟩ := Hy.out
      have e : ys = doL kind bpp ps rs := ext_getD (by rw [hyl, doL_len, Hl.out]) fun j hj => by
        rw [hyj j (by omega), if_pos (by omega)]
      subst e
      unfold RetB
      rw [doL_len, Hl.out, HG.out]
      exact ⟨g, k, rfl, ho, hbel⟩
end Go.Proofs.Ytkbbnmcbekhioaa
