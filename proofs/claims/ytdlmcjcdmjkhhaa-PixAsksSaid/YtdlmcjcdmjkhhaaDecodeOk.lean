/-
  pix.Decode of bytes that are a picture.
-/
import Derived.Test.YtdlmcjcdmjkhhaaDecode
namespace Go.Proofs.Ytdlmcjcdmjkhhaa
open Go.RowKit

theorem owns_under {w : World} {base T : Nat} {a : Option Addr} {n cap : Nat} {ws : List Value} (h : w.ownsRow base T 1 (.slice a n cap) n ws) (b i : Nat) (v : Value) (hb : b < base) : (w.setCell ⟨b, i, Option.none⟩ v).ownsRow base T 1 (.slice a n cap) n ws :=
  h.kept (row := some b) ⟨rfl, rfl, rfl, by simp, fun k _ hne => Below.heap_setCell w ⟨b, i, Option.none⟩ v k (fun h => hne (by rw [h]))⟩ (.inr fun e => by have := (h.lt b e).1; omega)

set_option maxRecDepth 100000 in
set_option maxHeartbeats 1000000 in
theorem dec_ok (a : Option Addr) (n cap : Nat) (xs : List Int) (w : World) (hr : Reads .u8 w a n cap xs) (hx : isB xs) (hn2 : n ≤ 1000000) (he : decErr xs = 0) :
    Calls Try.prog 28 #[.slice a n cap] w (RetRas w (dW xs) (dH xs) (dC xs) (dD xs) (xs.drop 7) 0) := by
  obtain ⟨hz1, hz2, hz3, hz4⟩ := decErr_zero he
  have hl := hr.len
  have hn : 7 ≤ n := by omega
  have hlc := hr.le
  have by0 := Lib.hid (rbox_alloc w 0 0 0 0 Option.none 0 0 26)
  have hB0 := Lib.hid ((Below.refl w.heap.size w).alloc (Nat.le_refl _) (.cells #[.int .i64 0, .int .i64 0, .int .i64 0, .int .i64 0, .slice Option.none 0 0] 26))
  replace hr := hr.below hB0.out
  have hsz0 : (w.alloc (.cells #[.int .i64 0, .int .i64 0, .int .i64 0, .int .i64 0, .slice Option.none 0 0] 26)).heap.size = w.heap.size + 1 := by simp
  obtain ⟨b, off, rfl, hlt, hc⟩ := hr.cells (by omega)
  have x0 := hc 0 (by omega); have x1 := hc 1 (by omega); have x2 := hc 2 (by omega); have x3 := hc 3 (by omega); have x4 := hc 4 (by omega); have x5 := hc 5 (by omega); have x6 := hc 6 (by omega)
  have y0 := hx.get 0 (by omega); have y1 := hx.get 1 (by omega); have y2 := hx.get 2 (by omega); have y3 := hx.get 3 (by omega); have y4 := hx.get 4 (by omega); have y5 := hx.get 5 (by omega); have y6 := hx.get 6 (by omega)
  have hW : dW xs = xs.getD 1 0 * 256 + xs.getD 2 0 := rfl
  have hH : dH xs = xs.getD 3 0 * 256 + xs.getD 4 0 := rfl
  have hC : dC xs = xs.getD 5 0 := rfl
  have hD : dD xs = xs.getD 6 0 := rfl
  have hSb : sizeN (dW xs) (dH xs) (dC xs) (dD xs) ≤ 524288 ∧ 0 ≤ sizeN (dW xs) (dH xs) (dC xs) (dD xs) := by
    by_cases hb : Bnds (dW xs) (dH xs) (dC xs) (dD xs)
    · have := size_bd _ _ _ _ hb; omega
    · have := size_zero _ _ _ _ hb; omega
  have hHb : -9223372036854775808 ≤ dH xs ∧ dH xs ≤ 9223372036854775807 := by omega
  have hSz := Lib.hid (fun w' => size_any (dW xs) (dH xs) (dC xs) (dD xs) w' hHb)
  have hMy := Lib.hid (fun w' => mayShape_any (dW xs) (dH xs) (dC xs) (dD xs) w' hHb)
  have hSp : mayN (dW xs) (dH xs) (dC xs) (dD xs) = true → 1 ≤ sizeN (dW xs) (dH xs) (dC xs) (dD xs) := fun h => by
    unfold mayN at h
    exact (size_bd _ _ _ _ (of_decide_eq_true h).1).1
  generalize sizeN (dW xs) (dH xs) (dC xs) (dD xs) = sz at *
  have or1 := or_join_i64 8 (xs.getD 1 0 * 256) (xs.getD 2 0) (by omega) (by omega) (by omega) (by omega) (by omega) (by omega)
  have or2 := or_join_i64 8 (xs.getD 3 0 * 256) (xs.getD 4 0) (by omega) (by omega) (by omega) (by omega) (by omega) (by omega)
  rw [← hW] at or1
  rw [← hH] at or2
  rw [← hC] at x5 y5
  rw [← hD] at x6 y6
  generalize dW xs = W at *
  generalize dH xs = H at *
  generalize dC xs = C at *
  generalize dD xs = D at *
  rw [hz2] at x0
  have hszp := hSp hz3
  rw [hl] at hz4
  rw [hz3] at hMy
  clear hz1 hz2 hz3 hSp y0
  generalize xs.getD 1 0 = z1 at *
  generalize xs.getD 2 0 = z2 at *
  generalize xs.getD 3 0 = z3 at *
  generalize xs.getD 4 0 = z4 at *
  have HSz := Lib.hid hsz0
  clear hsz0
  have HR := Lib.hid hr; have Hl := Lib.hid hl; have HX := Lib.hid hx; have Hc := Lib.hid hc
  have hn1 : ¬ (n : Int) < 7 := by omega
  clear hr hl he hx hc hHb hW hH hC hD
  go_enter Try.func28, Try.ntmps28
  go_wp2_with fail
  generalize w.alloc (.cells #[.int .i64 0, .int .i64 0, .int .i64 0, .int .i64 0, .slice Option.none 0 0] 26) = w0 at *
  have q0 : (0 : Int) < n := by omega
  have q1 : (1 : Int) < n := by omega
  have q2 : (2 : Int) < n := by omega
  have q3 : (3 : Int) < n := by omega
  have q4 : (4 : Int) < n := by omega
  have q5 : (5 : Int) < n := by omega
  have q6 : (6 : Int) < n := by omega
  go_region_held3 (fun w' => w'.cell? ⟨b, off + 1, Option.none⟩ = some (.int .u8 z1) ∧ w'.cell? ⟨b, off + 2, Option.none⟩ = some (.int .u8 z2) ∧ w'.cell? ⟨b, off + 3, Option.none⟩ = some (.int .u8 z3) ∧ w'.cell? ⟨b, off + 4, Option.none⟩ = some (.int .u8 z4) ∧ w'.cell? ⟨b, off + 5, Option.none⟩ = some (.int .u8 C) ∧ w'.cell? ⟨b, off + 6, Option.none⟩ = some (.int .u8 D))
    (first | go_keep) (first | fail)
  rename_i hHeld
  clear hHeld
  have s1 : IntKind.i64.wrap z1 = z1 := Go.IntWalk.i64_in _ (by omega)
  have s2 : IntKind.i64.wrap z2 = z2 := Go.IntWalk.i64_in _ (by omega)
  have s3 : IntKind.i64.wrap z3 = z3 := Go.IntWalk.i64_in _ (by omega)
  have s4 : IntKind.i64.wrap z4 = z4 := Go.IntWalk.i64_in _ (by omega)
  have s5 : IntKind.i64.wrap C = C := Go.IntWalk.i64_in _ (by omega)
  have s6 : IntKind.i64.wrap D = D := Go.IntWalk.i64_in _ (by omega)
  have s7 : IntKind.i64.wrap (z1 * 256) = z1 * 256 := Go.IntWalk.i64_in _ (by omega)
  have s8 : IntKind.i64.wrap (z3 * 256) = z3 * 256 := Go.IntWalk.i64_in _ (by omega)
  simp only [s1, s2, s3, s4, s5, s6, s7, s8, or1, or2]
  clear s1 s2 s3 s4 s5 s6 s7 s8 or1 or2 q0 q1 q2 q3 q4 q5 q6 x1 x2 x3 x4 x5 x6 y1 y2 y3 y4
  have hB1 := (hB0.out.alloc hB0.out.size (.cells #[.int .i64 W, .int .i64 H, .int .i64 C, .int .i64 D] 23)).drew
  have hbl : Below w0.heap.size w0 (w0.alloc (.cells #[.int .i64 W, .int .i64 H, .int .i64 C, .int .i64 D] 23)).drew := ((Below.refl _ _).alloc (Nat.le_refl _) _).drew
  have bs : Box _ _ _ _ _ _ := (box_alloc w0 W H C D 23).drew
  have br := by0.out.below hbl
  have hr1 := HR.out.below hbl
  have hx0 := (hbl.cell (p := ⟨b, off + 0, Option.none⟩) hlt).trans x0
  have hlt0 : w.heap.size < w0.heap.size := by have := HSz.out; omega
  clear x0 hbl
  have HB1 := Lib.hid hB1; have HBs := Lib.hid bs; have HBr := Lib.hid br; have HR1 := Lib.hid hr1; have Hlt0 := Lib.hid hlt0
  clear hr1 hB1 hlt0 HR Hc HSz by0 hB0
  generalize (w0.alloc (.cells #[.int .i64 W, .int .i64 H, .int .i64 C, .int .i64 D] 23)).drew = w1 at *
  have d0 := bs.c0; have d1 := bs.c1; have d2 := bs.c2; have d3 := bs.c3
  generalize w0.heap.size = gs at *
  go_wp2_with fail
  refine (hSz.out _).mono ?_; rintro e w2 ⟨rfl, b2⟩
  have HB2 := Lib.hid (below_size HB1.out b2)
  have bs2 := HBs.out.below b2
  have br2 := HBr.out.below b2
  have hx2 := (b2.cell (p := ⟨b, off + 0, Option.none⟩) (World.block_lt_of_cell? _ _ hx0)).trans hx0
  have HR2 := Lib.hid (HR1.out.below b2)
  clear d0 d1 d2 d3
  clear hx0 bs br HB1 HBs HBr HR1 b2
  rw [Nat.add_zero] at hx2
  have d0 := bs2.c0; have d1 := bs2.c1; have d2 := bs2.c2; have d3 := bs2.c3
  have hz : ((82 : Int) != 82) = false := by decide
  go_wp2_with fail
  refine (hMy.out _).mono ?_; rintro e w3 ⟨rfl, b3⟩
  have HB3 := Lib.hid (below_size HB2.out b3)
  have br3 := br2.below b3
  have bs3 := bs2.below b3
  have HR3 := Lib.hid (HR2.out.below b3)
  have HBr := Lib.hid br3
  have HBs := Lib.hid bs3
  have Hgs := Lib.hid bs3.lt
  clear d0 d1 d2 d3
  clear bs2 br2 b3 HR2 HB2 hx2 hz
  have hl8 : 8 ≤ n := by omega
  have c1 : ¬ (n : Int) - 7 < sz := by omega
  have c2 : ¬ sz < (n : Int) - 7 := by omega
  have HC := Lib.hid (reads_from HR3.out 7 (by omega) (by omega))
  generalize xs.drop 7 = ys at *
  have Hw3 := Lib.hid (show w.heap.size < w3.heap.size from HBr.out.lt)
  have d0 := bs3.c0; have d1 := bs3.c1; have d2 := bs3.c2; have d3 := bs3.c3
  clear bs3 br3
  have hc7 : ¬ cap = 7 := by omega
  go_wp2_with fail
  clear c1 c2
  have HD := Lib.hid (And.intro d0 (And.intro d1 (And.intro d2 d3)))
  go_region_with ((go_at_call 35; refine (clone_any _ _ _ ys _ (by exact HC.out.drew) (by omega)).mono ?_; rintro e w4 ⟨a4, k4, rfl, o4, b4⟩; have hb4 := (HBr.out.below (Below.refl _ _).drew).below b4; have e0 := (b4.cell Hgs.out).trans HD.out.1; have e1 := (b4.cell Hgs.out).trans HD.out.2.1; have e2 := (b4.cell Hgs.out).trans HD.out.2.2.1; have e3 := (b4.cell Hgs.out).trans HD.out.2.2.2; have c0 := hb4.box.c0; have c1 := hb4.box.c1; have c2 := hb4.box.c2; have c3 := hb4.box.c3; have c4 := hb4.c4; have f0 := hb4.box.f0; have f1 := hb4.box.f1; have f2 := hb4.box.f2; have f3 := hb4.box.f3; have f4 := hb4.f4))
  all_goals
    have H4 := Lib.hid hb4; have HO := Lib.hid (owns_base o4 (show w.heap.size + 1 ≤ w3.drew.heap.size from Hw3.out)); have HB := Lib.hid (below_size (HB3.out.drew) b4)
    clear hb4 o4 b4 c0 c1 c2 c3 c4 f0 f1 f2 f3 f4
    go_wp2_with fail
    refine bodyPost_ret (results_ras rfl _ _ _ rfl (H4.out.set W H C D a4 ys.length k4)) rfl ?_
    refine ⟨a4, k4, rfl, ?_, ((((HB.out.setCell (by simp) _).setCell (by simp) _).setCell (by simp) _).setCell (by simp) _).setCell (by simp) _⟩
    exact owns_base (owns_under (owns_under (owns_under (owns_under (owns_under HO.out _ _ _ (Nat.lt_succ_self _)) _ _ _ (Nat.lt_succ_self _)) _ _ _ (Nat.lt_succ_self _)) _ _ _ (Nat.lt_succ_self _)) _ _ _ (Nat.lt_succ_self _)) (Nat.le_succ _)
end Go.Proofs.Ytdlmcjcdmjkhhaa
