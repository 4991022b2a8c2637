/-
  The document's Decode of chapter 9.
-/
import Derived.Test.YtdlmcjcdmjkhhaaPixRefBytes
namespace Go.Proofs.Ytdlmcjcdmjkhhaa
open Go.RowKit

theorem results_shp1 {fn : Func} {p : Tmp} (h : fn.results = #[.cell p 23]) (tmps : Array Value) (w : World) (g : Nat) {W H C D : Int} (hp : tmps.getD p undef = .pointer (some ⟨g, 0, Option.none⟩)) (hb : Box w g W H C D) :
    (results fn tmps).run Try.prog w = .ok (shp W H C D) w := by
  have hl := run_loadVar_mid (P := Try.prog) w g 0 23 [.int .i64 W, .int .i64 H, .int .i64 C, .int .i64 D] _ (by
    intro j v hv
    match j, hv with
    | 0, hv => simp at hv; subst hv; exact hb.c0
    | 1, hv => simp at hv; subst hv; exact hb.c1
    | 2, hv => simp at hv; subst hv; exact hb.c2
    | 3, hv => simp at hv; subst hv; exact hb.c3) Try.underlying23 rfl shpInfo
  have hr : (results fn tmps).run Try.prog w = ((asAddr (tmps.getD p undef)).run Try.prog w).andThen fun a w1 => (loadVar 23 a).run Try.prog w1 := by
    simp only [results, h]
    simp [Sem.run_bind, Result.andThen]
  rw [hr, hp]
  simp [asAddr, hl]

set_option maxRecDepth 100000 in
set_option maxHeartbeats 1000000 in
theorem shapeOf_any (b off cap : Nat) (xs : List Int) (w : World) (hr : Reads .u8 w (some ⟨b, off, Option.none⟩) 6 cap xs) (hx : isB xs) :
    Calls Try.prog 41 #[.slice (some ⟨b, off, Option.none⟩) 6 cap] w fun e w' => e = .returned (shp (xs.getD 0 0 * 256 + xs.getD 1 0) (xs.getD 2 0 * 256 + xs.getD 3 0) (xs.getD 4 0) (xs.getD 5 0)) ∧ Below w.heap.size w w' := by
  have hl := hr.len
  have bs0 := box_alloc w 0 0 0 0 23
  have hB := (Below.refl w.heap.size w).alloc (Nat.le_refl _) (.cells #[.int .i64 0, .int .i64 0, .int .i64 0, .int .i64 0] 23)
  replace hr := hr.below hB
  obtain ⟨b', off', e, hlt, hc⟩ := hr.cells (by omega)
  obtain ⟨rfl, rfl⟩ : b' = b ∧ off' = off := by simpa [eq_comm] using e
  have x0 := hc 0 (by omega); have x1 := hc 1 (by omega); have x2 := hc 2 (by omega); have x3 := hc 3 (by omega); have x4 := hc 4 (by omega); have x5 := hc 5 (by omega)
  have y0 := hx.get 0 (by omega); have y1 := hx.get 1 (by omega); have y2 := hx.get 2 (by omega); have y3 := hx.get 3 (by omega); have y4 := hx.get 4 (by omega); have y5 := hx.get 5 (by omega)
  have or1 := or_join_i64 8 (xs.getD 0 0 * 256) (xs.getD 1 0) (by omega) (by omega) (by omega) (by omega) (by omega) (by omega)
  have or2 := or_join_i64 8 (xs.getD 2 0 * 256) (xs.getD 3 0) (by omega) (by omega) (by omega) (by omega) (by omega) (by omega)
  generalize xs.getD 0 0 = z0 at *
  generalize xs.getD 1 0 = z1 at *
  generalize xs.getD 2 0 = z2 at *
  generalize xs.getD 3 0 = z3 at *
  generalize xs.getD 4 0 = z4 at *
  generalize xs.getD 5 0 = z5 at *
  have BS := Lib.hid bs0; have HB := Lib.hid hB
  clear hr hc e hl hx bs0 hB hlt
  rw [Nat.add_zero] at x0
  go_enter Try.func41, Try.ntmps41
  go_wp2_with fail
  generalize w.alloc (.cells #[.int .i64 0, .int .i64 0, .int .i64 0, .int .i64 0] 23) = w0 at *
  have c0 := BS.out.c0; have c1 := BS.out.c1; have c2 := BS.out.c2; have c3 := BS.out.c3; have f0 := BS.out.f0; have f1 := BS.out.f1; have f2 := BS.out.f2; have f3 := BS.out.f3
  refine wp_region_still_tail 29 (by kernel_rfl) (by kernel_rfl) ?_
  simp only [List.take_succ_cons, List.take_zero, List.drop_succ_cons, List.drop_zero]
  repeat still_step
  refine wpStill_nil ?_
  change wpList _ _ _ _ _ w0.drew
  have s0 : IntKind.i64.wrap z0 = z0 := Go.IntWalk.i64_in _ (by omega)
  have s1 : IntKind.i64.wrap z1 = z1 := Go.IntWalk.i64_in _ (by omega)
  have s2 : IntKind.i64.wrap z2 = z2 := Go.IntWalk.i64_in _ (by omega)
  have s3 : IntKind.i64.wrap z3 = z3 := Go.IntWalk.i64_in _ (by omega)
  have s4 : IntKind.i64.wrap z4 = z4 := Go.IntWalk.i64_in _ (by omega)
  have s5 : IntKind.i64.wrap z5 = z5 := Go.IntWalk.i64_in _ (by omega)
  have s7 : IntKind.i64.wrap (z0 * 256) = z0 * 256 := Go.IntWalk.i64_in _ (by omega)
  have s8 : IntKind.i64.wrap (z2 * 256) = z2 * 256 := Go.IntWalk.i64_in _ (by omega)
  simp only [s0, s1, s2, s3, s4, s5, s7, s8, or1, or2]
  clear s0 s1 s2 s3 s4 s5 s7 s8 or1 or2 x0 x1 x2 x3 x4 x5
  go_wp2_with fail
  refine bodyPost_ret (results_shp1 rfl _ _ _ rfl ((BS.out.drew).set _ _ _ _)) rfl ?_
  exact ⟨rfl, (((HB.out.drew.setCell (by simp) _).setCell (by simp) _).setCell (by simp) _).setCell (by simp) _⟩

theorem reads_mid {w : World} {b off n cap : Nat} {xs : List Int} (h : Reads .u8 w (some ⟨b, off, Option.none⟩) n cap xs) (k m : Nat) (hk : k + m ≤ n) (hc : k < cap) : Reads .u8 w (some ⟨b, off + k, Option.none⟩) m (cap - k) ((xs.drop k).take m) := reads_upto (reads_from h k (by omega) hc) m (by omega)

set_option maxRecDepth 100000 in
set_option maxHeartbeats 1000000 in
theorem rdec_short (a : Option Addr) (n cap : Nat) (w : World) (hn : n < 7) :
    Calls Try.prog 29 #[.slice a n cap] w (RetRas w 0 0 0 0 [] 2) := by
  have by0 := Lib.hid (rbox_alloc w 0 0 0 0 Option.none 0 0 26)
  have hB := Lib.hid ((Below.refl w.heap.size w).alloc (Nat.le_refl _) (.cells #[.int .i64 0, .int .i64 0, .int .i64 0, .int .i64 0, .slice Option.none 0 0] 26))
  have hn' : (n : Int) < 7 := by omega
  clear hn
  go_enter Try.func29, Try.ntmps29
  go_wp2_with fail
  refine bodyPost_ret (results_ras rfl _ _ _ rfl by0.out) rfl ?_
  exact retRas_err hB.out

set_option maxRecDepth 100000 in
set_option maxHeartbeats 1000000 in
theorem rdec_err (a : Option Addr) (n cap : Nat) (xs : List Int) (w : World) (hr : Reads .u8 w a n cap xs) (hx : isB xs) (hn : 7 ≤ n) (hn2 : n ≤ 1000000) (hne : decErr xs ≠ 0) :
    Calls Try.prog 29 #[.slice a n cap] w (RetRas w 0 0 0 0 [] (decErr xs)) := by
  have hl := hr.len
  have hlc := hr.le
  have by0 := Lib.hid (rbox_alloc w 0 0 0 0 Option.none 0 0 26)
  have hB0 := Lib.hid ((Below.refl w.heap.size w).alloc (Nat.le_refl _) (.cells #[.int .i64 0, .int .i64 0, .int .i64 0, .int .i64 0, .slice Option.none 0 0] 26))
  replace hr := hr.below hB0.out
  obtain ⟨b, off, rfl, hlt, hc⟩ := hr.cells (by omega)
  have x0 := hc 0 (by omega)
  rw [Nat.add_zero] at x0
  have y0 := hx.get 0 (by omega)
  have hm1 := Lib.hid (reads_mid hr 1 6 (by omega) (by omega))
  have hSO := fun w' hr' => shapeOf_any b (off + 1) (cap - 1) ((xs.drop 1).take 6) w' hr' ((hx.drop 1).take 6)
  simp only [getD_sub] at hSO
  simp only [show (0 : Nat) < 6 by omega, show (1 : Nat) < 6 by omega, show (2 : Nat) < 6 by omega, show (3 : Nat) < 6 by omega, show (4 : Nat) < 6 by omega, show (5 : Nat) < 6 by omega, if_true, Nat.reduceAdd] at hSO
  have hW : dW xs = xs.getD 1 0 * 256 + xs.getD 2 0 := rfl
  have hH : dH xs = xs.getD 3 0 * 256 + xs.getD 4 0 := rfl
  have hC : dC xs = xs.getD 5 0 := rfl
  have hD : dD xs = xs.getD 6 0 := rfl
  have y3 := hx.get 3 (by omega); have y4 := hx.get 4 (by omega)
  rw [← hW, ← hH, ← hC, ← hD] at hSO
  have hHb : -9223372036854775808 ≤ dH xs ∧ dH xs ≤ 9223372036854775807 := by rw [hH]; omega
  have hE : decErr xs = if xs.length < 7 then 2 else if xs.getD 0 0 ≠ 82 ∨ mayN (dW xs) (dH xs) (dC xs) (dD xs) = false then 4
    else if (xs.length : Int) - 7 < sizeN (dW xs) (dH xs) (dC xs) (dD xs) then 2 else if sizeN (dW xs) (dH xs) (dC xs) (dD xs) < (xs.length : Int) - 7 then 3 else 0 := rfl
  rw [hl, if_neg (by omega)] at hE
  have hSb : sizeN (dW xs) (dH xs) (dC xs) (dD xs) ≤ 524288 ∧ 0 ≤ sizeN (dW xs) (dH xs) (dC xs) (dD xs) := by
    by_cases hb : Bnds (dW xs) (dH xs) (dC xs) (dD xs)
    · have := size_bd _ _ _ _ hb; omega
    · have := size_zero _ _ _ _ hb; omega
  have hSp : mayN (dW xs) (dH xs) (dC xs) (dD xs) = true → 1 ≤ sizeN (dW xs) (dH xs) (dC xs) (dD xs) := fun h => by
    unfold mayN at h
    exact (size_bd _ _ _ _ (of_decide_eq_true h).1).1
  have hSz := Lib.hid (fun w' => rsize_any (dW xs) (dH xs) (dC xs) (dD xs) w' hHb)
  have hMy := Lib.hid (fun w' => rmayShape_any (dW xs) (dH xs) (dC xs) (dD xs) w' hHb)
  generalize sizeN (dW xs) (dH xs) (dC xs) (dD xs) = sz at *
  generalize mayN (dW xs) (dH xs) (dC xs) (dD xs) = my at *
  clear hW hH hC hD y3 y4 hHb
  generalize dW xs = W at *
  generalize dH xs = H at *
  generalize dC xs = C at *
  generalize dD xs = D at *
  generalize decErr xs = E at *
  have Hne := Lib.hid hne; clear hne
  generalize xs.getD 0 0 = z0 at *
  have HSO := Lib.hid hSO
  have HR := Lib.hid hr; have HE := Lib.hid hE; have Hl := Lib.hid hl
  have HSp := Lib.hid hSp
  have hn1 : ¬ (n : Int) < 7 := by omega
  have hc1 : ¬ cap = 1 := by omega
  have hq1 : (7 : Int) ≤ cap := by omega
  clear hr hE hl hc hSO hSp
  go_enter Try.func29, Try.ntmps29
  go_wp2_with fail
  generalize w.alloc (.cells #[.int .i64 0, .int .i64 0, .int .i64 0, .int .i64 0, .slice Option.none 0 0] 26) = w0 at *
  refine (HSO.out _ hm1.out).mono ?_; rintro e w1 ⟨rfl, b1⟩
  have HB1 := Lib.hid (below_size hB0.out b1)
  have HR1 := Lib.hid (HR.out.below b1)
  have HBr := Lib.hid (by0.out.below b1)
  have hx1 := (b1.cell (p := ⟨b, off, Option.none⟩) hlt).trans x0
  clear x0 b1 HR by0 hB0 hm1
  have bl : Below w1.heap.size w1 (w1.alloc (.cells #[.int .i64 W, .int .i64 H, .int .i64 C, .int .i64 D] 23)) := (Below.refl _ _).alloc (Nat.le_refl _) _
  have hx2 := (bl.cell (p := ⟨b, off, Option.none⟩) (World.block_lt_of_cell? _ _ hx1)).trans hx1
  have HBs := Lib.hid (box_alloc w1 W H C D 23)
  replace HB1 := Lib.hid (below_size HB1.out bl)
  replace HR1 := Lib.hid (HR1.out.below bl)
  replace HBr := Lib.hid (HBr.out.below bl)
  clear hx1 bl
  have d0 := HBs.out.c0; have d1 := HBs.out.c1; have d2 := HBs.out.c2; have d3 := HBs.out.c3
  by_cases hz : z0 = 82
  · have hz' : (z0 != 82) = false := by simpa using hz
    go_wp2_with fail
    generalize w1.alloc (.cells #[.int .i64 W, .int .i64 H, .int .i64 C, .int .i64 D] 23) = v1 at *
    generalize w1.heap.size = gs at *
    refine (hMy.out _).mono ?_; rintro e w2 ⟨rfl, bb⟩
    clear d0 d1 d2 d3
    replace HB1 := Lib.hid (below_size HB1.out bb)
    replace HR1 := Lib.hid (HR1.out.below bb)
    replace HBr := Lib.hid (HBr.out.below bb)
    replace HBs := Lib.hid (HBs.out.below bb)
    clear bb
    clear hx2
    cases my
    · have he : E = 4 := by have := HE.out; rw [if_pos (.inr rfl)] at this; exact this
      have Hp := Lib.hid he
      clear he HE
      have c0 := HBr.out.box.c0; have c1 := HBr.out.box.c1; have c2 := HBr.out.box.c2; have c3 := HBr.out.box.c3; have c4 := HBr.out.c4; have f0 := HBr.out.box.f0; have f1 := HBr.out.box.f1; have f2 := HBr.out.box.f2; have f3 := HBr.out.box.f3; have f4 := HBr.out.f4
      go_wp2_with fail
      refine bodyPost_ret (results_ras rfl _ _ _ rfl (HBr.out.set 0 0 0 0 Option.none 0 0)) rfl ?_
      rw [Hp.out]
      exact retRas_err (((((HB1.out.setCell (by simp) _).setCell (by simp) _).setCell (by simp) _).setCell (by simp) _).setCell (by simp) _)
    · have he : E = if (n : Int) - 7 < sz then 2 else if sz < (n : Int) - 7 then 3 else 0 := by have := HE.out; rw [if_neg (by simp [hz])] at this; exact this
      have HE' := Lib.hid he
      clear HE he
      have d0 := HBs.out.c0; have d1 := HBs.out.c1; have d2 := HBs.out.c2; have d3 := HBs.out.c3
      go_wp2_with fail
      refine (hSz.out _).mono ?_; rintro e w3 ⟨rfl, bb⟩
      clear d0 d1 d2 d3
      replace HB1 := Lib.hid (below_size HB1.out bb)
      replace HR1 := Lib.hid (HR1.out.below bb)
      replace HBr := Lib.hid (HBr.out.below bb)
      replace HBs := Lib.hid (HBs.out.below bb)
      clear bb
      by_cases c1' : (n : Int) - 7 < sz
      · have he := HE'.out
        rw [if_pos c1'] at he
        have Hp := Lib.hid he
        clear he HE'
        have c0 := HBr.out.box.c0; have c1 := HBr.out.box.c1; have c2 := HBr.out.box.c2; have c3 := HBr.out.box.c3; have c4 := HBr.out.c4; have f0 := HBr.out.box.f0; have f1 := HBr.out.box.f1; have f2 := HBr.out.box.f2; have f3 := HBr.out.box.f3; have f4 := HBr.out.f4
        go_wp2_with fail
        refine bodyPost_ret (results_ras rfl _ _ _ rfl (HBr.out.set 0 0 0 0 Option.none 0 0)) rfl ?_
        rw [Hp.out]
        exact retRas_err (((((HB1.out.setCell (by simp) _).setCell (by simp) _).setCell (by simp) _).setCell (by simp) _).setCell (by simp) _)
      · have he := HE'.out
        rw [if_neg c1'] at he
        have c2' : sz < (n : Int) - 7 := by
          by_cases h : sz < (n : Int) - 7
          · exact h
          · rw [if_neg h] at he; exact absurd he Hne.out
        rw [if_pos c2'] at he
        have Hp := Lib.hid he
        clear he HE'
        have d0 := HBs.out.c0; have d1 := HBs.out.c1; have d2 := HBs.out.c2; have d3 := HBs.out.c3
        go_wp2_with fail
        refine (hSz.out _).mono ?_; rintro e w4 ⟨rfl, bb⟩
        clear d0 d1 d2 d3
        replace HB1 := Lib.hid (below_size HB1.out bb)
        replace HR1 := Lib.hid (HR1.out.below bb)
        replace HBr := Lib.hid (HBr.out.below bb)
        replace HBs := Lib.hid (HBs.out.below bb)
        clear bb
        have c0 := HBr.out.box.c0; have c1 := HBr.out.box.c1; have c2 := HBr.out.box.c2; have c3 := HBr.out.box.c3; have c4 := HBr.out.c4; have f0 := HBr.out.box.f0; have f1 := HBr.out.box.f1; have f2 := HBr.out.box.f2; have f3 := HBr.out.box.f3; have f4 := HBr.out.f4
        go_wp2_with fail
        refine bodyPost_ret (results_ras rfl _ _ _ rfl (HBr.out.set 0 0 0 0 Option.none 0 0)) rfl ?_
        rw [Hp.out]
        exact retRas_err (((((HB1.out.setCell (by simp) _).setCell (by simp) _).setCell (by simp) _).setCell (by simp) _).setCell (by simp) _)
  · have hz' : (z0 != 82) = true := by simpa using hz
    have he : E = 4 := by have := HE.out; rw [if_pos (.inl hz)] at this; exact this
    have Hp := Lib.hid he
    clear d0 d1 d2 d3
    clear he HE
    have bx := HBr.out
    have c0 := bx.box.c0; have c1 := bx.box.c1; have c2 := bx.box.c2; have c3 := bx.box.c3; have c4 := bx.c4; have f0 := bx.box.f0; have f1 := bx.box.f1; have f2 := bx.box.f2; have f3 := bx.box.f3; have f4 := bx.f4
    go_wp2_with fail
    refine bodyPost_ret (results_ras rfl _ _ _ rfl (HBr.out.set 0 0 0 0 Option.none 0 0)) rfl ?_
    rw [Hp.out]
    exact retRas_err (((((HB1.out.setCell (by simp) _).setCell (by simp) _).setCell (by simp) _).setCell (by simp) _).setCell (by simp) _)
set_option maxRecDepth 100000 in
set_option maxHeartbeats 1000000 in
theorem rdec_ok (a : Option Addr) (n cap : Nat) (xs : List Int) (w : World) (hr : Reads .u8 w a n cap xs) (hx : isB xs) (hn2 : n ≤ 1000000) (he : decErr xs = 0) :
    Calls Try.prog 29 #[.slice a n cap] w (RetRas w (dW xs) (dH xs) (dC xs) (dD xs) (xs.drop 7) 0) := by
  obtain ⟨hz1, hz2, hz3, hz4⟩ := decErr_zero he
  have hl := hr.len
  have hn : 7 ≤ n := by omega
  have hlc := hr.le
  have by0 := Lib.hid (rbox_alloc w 0 0 0 0 Option.none 0 0 26)
  have hB0 := Lib.hid ((Below.refl w.heap.size w).alloc (Nat.le_refl _) (.cells #[.int .i64 0, .int .i64 0, .int .i64 0, .int .i64 0, .slice Option.none 0 0] 26))
  replace hr := hr.below hB0.out
  obtain ⟨b, off, rfl, hlt, hc⟩ := hr.cells (by omega)
  have x0 := hc 0 (by omega)
  rw [Nat.add_zero] at x0
  have y0 := hx.get 0 (by omega)
  have hm1 := Lib.hid (reads_mid hr 1 6 (by omega) (by omega))
  have hSO := fun w' hr' => shapeOf_any b (off + 1) (cap - 1) ((xs.drop 1).take 6) w' hr' ((hx.drop 1).take 6)
  simp only [getD_sub] at hSO
  simp only [show (0 : Nat) < 6 by omega, show (1 : Nat) < 6 by omega, show (2 : Nat) < 6 by omega, show (3 : Nat) < 6 by omega, show (4 : Nat) < 6 by omega, show (5 : Nat) < 6 by omega, if_true, Nat.reduceAdd] at hSO
  have hW : dW xs = xs.getD 1 0 * 256 + xs.getD 2 0 := rfl
  have hH : dH xs = xs.getD 3 0 * 256 + xs.getD 4 0 := rfl
  have hC : dC xs = xs.getD 5 0 := rfl
  have hD : dD xs = xs.getD 6 0 := rfl
  have y3 := hx.get 3 (by omega); have y4 := hx.get 4 (by omega)
  rw [← hW, ← hH, ← hC, ← hD] at hSO
  have hHb : -9223372036854775808 ≤ dH xs ∧ dH xs ≤ 9223372036854775807 := by rw [hH]; omega
  have hSb : sizeN (dW xs) (dH xs) (dC xs) (dD xs) ≤ 524288 ∧ 0 ≤ sizeN (dW xs) (dH xs) (dC xs) (dD xs) := by
    by_cases hb : Bnds (dW xs) (dH xs) (dC xs) (dD xs)
    · have := size_bd _ _ _ _ hb; omega
    · have := size_zero _ _ _ _ hb; omega
  have hSp : mayN (dW xs) (dH xs) (dC xs) (dD xs) = true → 1 ≤ sizeN (dW xs) (dH xs) (dC xs) (dD xs) := fun h => by
    unfold mayN at h
    exact (size_bd _ _ _ _ (of_decide_eq_true h).1).1
  have hSz := Lib.hid (fun w' => rsize_any (dW xs) (dH xs) (dC xs) (dD xs) w' hHb)
  have hMy := Lib.hid (fun w' => rmayShape_any (dW xs) (dH xs) (dC xs) (dD xs) w' hHb)
  generalize sizeN (dW xs) (dH xs) (dC xs) (dD xs) = sz at *
  clear hW hH hC hD y3 y4 hHb
  generalize dW xs = W at *
  generalize dH xs = H at *
  generalize dC xs = C at *
  generalize dD xs = D at *
  rw [hz2] at x0
  have hszp := hSp hz3
  rw [hl] at hz4
  rw [hz3] at hMy
  clear hz1 hz2 hz3 y0
  have HSO := Lib.hid hSO
  have HR := Lib.hid hr; have Hl := Lib.hid hl
  have hn1 : ¬ (n : Int) < 7 := by omega
  have hc1 : ¬ cap = 1 := by omega
  have hq1 : (7 : Int) ≤ cap := by omega
  clear hr hl hc he hSO hSp
  go_enter Try.func29, Try.ntmps29
  go_wp2_with fail
  generalize w.alloc (.cells #[.int .i64 0, .int .i64 0, .int .i64 0, .int .i64 0, .slice Option.none 0 0] 26) = w0 at *
  refine (HSO.out _ hm1.out).mono ?_; rintro e w1 ⟨rfl, b1⟩
  have HB1 := Lib.hid (below_size hB0.out b1)
  have HR1 := Lib.hid (HR.out.below b1)
  have HBr := Lib.hid (by0.out.below b1)
  have hx1 := (b1.cell (p := ⟨b, off, Option.none⟩) hlt).trans x0
  clear x0 b1 HR by0 hB0 hm1
  have bl : Below w1.heap.size w1 (w1.alloc (.cells #[.int .i64 W, .int .i64 H, .int .i64 C, .int .i64 D] 23)) := (Below.refl _ _).alloc (Nat.le_refl _) _
  have hx2 := (bl.cell (p := ⟨b, off, Option.none⟩) (World.block_lt_of_cell? _ _ hx1)).trans hx1
  have HBs := Lib.hid (box_alloc w1 W H C D 23)
  replace HB1 := Lib.hid (below_size HB1.out bl)
  replace HR1 := Lib.hid (HR1.out.below bl)
  replace HBr := Lib.hid (HBr.out.below bl)
  clear hx1 bl
  have d0 := HBs.out.c0; have d1 := HBs.out.c1; have d2 := HBs.out.c2; have d3 := HBs.out.c3
  have hz : ((82 : Int) != 82) = false := by decide
  go_wp2_with fail
  generalize w1.alloc (.cells #[.int .i64 W, .int .i64 H, .int .i64 C, .int .i64 D] 23) = v1 at *
  generalize w1.heap.size = gs at *
  refine (hMy.out _).mono ?_; rintro e w2 ⟨rfl, bb⟩
  clear d0 d1 d2 d3
  replace HB1 := Lib.hid (below_size HB1.out bb)
  replace HR1 := Lib.hid (HR1.out.below bb)
  replace HBr := Lib.hid (HBr.out.below bb)
  replace HBs := Lib.hid (HBs.out.below bb)
  clear bb
  clear hx2 hz
  have c1 : ¬ (n : Int) - 7 < sz := by omega
  have c2 : ¬ sz < (n : Int) - 7 := by omega
  have d0 := HBs.out.c0; have d1 := HBs.out.c1; have d2 := HBs.out.c2; have d3 := HBs.out.c3
  go_wp2_with fail
  refine (hSz.out _).mono ?_; rintro e w3 ⟨rfl, bb⟩
  clear d0 d1 d2 d3
  replace HB1 := Lib.hid (below_size HB1.out bb)
  replace HR1 := Lib.hid (HR1.out.below bb)
  replace HBr := Lib.hid (HBr.out.below bb)
  replace HBs := Lib.hid (HBs.out.below bb)
  clear bb
  have d0 := HBs.out.c0; have d1 := HBs.out.c1; have d2 := HBs.out.c2; have d3 := HBs.out.c3
  go_wp2_with fail
  refine (hSz.out _).mono ?_; rintro e w4 ⟨rfl, bb⟩
  clear d0 d1 d2 d3
  replace HB1 := Lib.hid (below_size HB1.out bb)
  replace HR1 := Lib.hid (HR1.out.below bb)
  replace HBr := Lib.hid (HBr.out.below bb)
  replace HBs := Lib.hid (HBs.out.below bb)
  clear bb
  have hl8 : 8 ≤ n := by omega
  have HC := Lib.hid (reads_from HR1.out 7 (by omega) (by omega))
  have HLen : Hid ((xs.drop 7).length = n - 7) := by show _ = _; rw [List.length_drop, Hl.out]
  generalize xs.drop 7 = ys at *
  have Hgs := Lib.hid HBs.out.lt
  have Hw3 := Lib.hid HBr.out.lt
  have d0 := HBs.out.c0; have d1 := HBs.out.c1; have d2 := HBs.out.c2; have d3 := HBs.out.c3
  have hc7 : ¬ cap = 7 := by omega
  go_wp2_with fail
  clear c1 c2
  have HD := Lib.hid (And.intro d0 (And.intro d1 (And.intro d2 d3)))
  go_region_with ((go_at_call 25; refine (copyBytes_any _ _ _ ys _ (by exact HC.out.drew) (by omega)).mono ?_; rintro e w5 ⟨a4, k4, rfl, o4, b4⟩; have hb4 := (HBr.out.below (Below.refl _ _).drew).below b4; have e0 := (b4.cell Hgs.out).trans HD.out.1; have e1 := (b4.cell Hgs.out).trans HD.out.2.1; have e2 := (b4.cell Hgs.out).trans HD.out.2.2.1; have e3 := (b4.cell Hgs.out).trans HD.out.2.2.2; have c0 := hb4.box.c0; have c1 := hb4.box.c1; have c2 := hb4.box.c2; have c3 := hb4.box.c3; have c4 := hb4.c4; have f0 := hb4.box.f0; have f1 := hb4.box.f1; have f2 := hb4.box.f2; have f3 := hb4.box.f3; have f4 := hb4.f4))
  all_goals
    have H4 := Lib.hid hb4; have HO := Lib.hid (owns_base o4 (show w.heap.size + 1 ≤ w4.drew.heap.size from Hw3.out)); have HB := Lib.hid (below_size (HB1.out.drew) b4)
    clear hb4 o4 b4 c0 c1 c2 c3 c4 f0 f1 f2 f3 f4
    go_wp2_with fail
    refine bodyPost_ret (results_ras rfl _ _ _ rfl (H4.out.set W H C D a4 ys.length k4)) rfl ?_
    refine ⟨a4, k4, rfl, ?_, ((((HB.out.setCell (by simp) _).setCell (by simp) _).setCell (by simp) _).setCell (by simp) _).setCell (by simp) _⟩
    exact owns_base (owns_under (owns_under (owns_under (owns_under (owns_under HO.out _ _ _ (Nat.lt_succ_self _)) _ _ _ (Nat.lt_succ_self _)) _ _ _ (Nat.lt_succ_self _)) _ _ _ (Nat.lt_succ_self _)) _ _ _ (Nat.lt_succ_self _)) (Nat.le_succ _)

theorem rdec_any (a : Option Addr) (n cap : Nat) (xs : List Int) (w : World) (hr : Reads .u8 w a n cap xs) (hx : isB xs) (hn : n ≤ 1000000) :
    Calls Try.prog 29 #[.slice a n cap] w (RetRas w (rW xs) (rH xs) (rC xs) (rD xs) (rP xs) (decErr xs)) := by
  unfold rW rH rC rD rP
  by_cases h : decErr xs = 0
  · rw [if_pos h, if_pos h, if_pos h, if_pos h, if_pos h, h]
    exact rdec_ok a n cap xs w hr hx hn h
  · rw [if_neg h, if_neg h, if_neg h, if_neg h, if_neg h]
    by_cases h7 : n < 7
    · have : decErr xs = 2 := by unfold decErr; rw [if_pos (by rw [hr.len]; exact h7)]
      rw [this]
      exact rdec_short a n cap w h7
    · exact rdec_err a n cap xs w hr hx (by omega) hn h
end Go.Proofs.Ytdlmcjcdmjkhhaa
