/-
  aquref.Ints, aquref.CopyInts.
-/
import Derived.Test.YtmdkinhbfndoeaaHuffLens
namespace Go.Proofs.Ytmdkinhbfndoeaa
open Go.RowKit

set_option maxRecDepth 100000 in
set_option maxHeartbeats 1000000 in
theorem ints_any (a b : Option Addr) (n ca m cb : Nat) (xs ys : List Int) (w : World) (hx : Reads .i64 w a n ca xs) (hy : Reads .i64 w b m cb ys) :
    Calls Try.prog 15 #[.slice a n ca, .slice b m cb] w fun e w' => e = .returned (.bool (decide (xs = ys))) ∧ Below w.heap.size w w' := by
  by_cases hnm : n = m
  · subst hnm
    have HX := Lib.hid hx; have HY := Lib.hid hy; have LX := Lib.hid hx.len; have LY := Lib.hid hy.len
    have h63 := hx.n63.1
    clear hx hy
    go_enter Try.func15, Try.ntmps15
    go_wp2_with fail
    go_loopw [5] (fun vi wr => ∃ i : Nat, i ≤ n ∧ vi = .int .i64 i ∧ Hid (xs.take i = ys.take i) ∧ Hid (Below w.heap.size w wr)) (fun vi _ => n - (intOf vi).toNat)
    case atStart => exact ⟨0, Nat.zero_le _, rfl, Lib.hid rfl, Lib.hid (Below.refl _ _)⟩
    case round =>
      obtain ⟨i, hi, rfl, HE, HB⟩ := hrel
      by_cases hlt : i < n
      · have X := HX.out.below HB.out
        have Y := HY.out.below HB.out
        obtain ⟨bx, ox, rfl, hlx, hcx⟩ := X.cells (by omega)
        obtain ⟨by', oy, rfl, hly, hcy⟩ := Y.cells (by omega)
        have c0 := fun z : GrownW wr => z.cell hlx (hcx i hlt)
        have c1 := fun z : GrownW wr => z.cell hly (hcy i hlt)
        have hex : xs.take (i + 1) = xs.take i ++ [xs.getD i 0] := take_getD xs i (by rw [LX.out]; exact hlt)
        have hey : ys.take (i + 1) = ys.take i ++ [ys.getD i 0] := take_getD ys i (by rw [LY.out]; exact hlt)
        have hne : xs.getD i 0 ≠ ys.getD i 0 → decide (xs = ys) = false := fun h => by
          simp only [decide_eq_false_iff_not]
          intro e; exact h (by rw [e])
        have HEX := Lib.hid hex; have HEY := Lib.hid hey; have HNE := Lib.hid hne
        clear hex hey hne X Y hcx hcy
        generalize xs.getD i 0 = x at *
        generalize ys.getD i 0 = y at *
        have hlt' : (i : Int) < n := by omega
        by_cases hxy : x = y
        · subst hxy
          go_upto_region 6 with (fail)
          refine wp_region_grow_lit (by kernel_rfl) (by kernel_rfl) ?_
          repeat (go_big_quiet_step (fail))
          refine wpQuiet_nil ?_
          intro wg hw'
          obtain ⟨⟨wz, hbg⟩, hw''⟩ := hw'
          subst hw''
          clear c0 c1
          go_wp2_with fail
          go_roundw
          case rel => exact ⟨i + 1, by omega, by go_num, Lib.hid (by rw [HEX.out, HEY.out, HE.out]), Lib.hid (below_size HB.out hbg)⟩
          case measure => simp [intOf]; omega
        · have hxy' : (x == y) = false := by simp [hxy]
          go_upto_region 6 with (fail)
          refine wp_region_grow_lit (by kernel_rfl) (by kernel_rfl) ?_
          repeat (go_big_quiet_step (fail))
          refine wpQuiet_nil ?_
          intro wg hw'
          obtain ⟨⟨wz, hbg⟩, hw''⟩ := hw'
          subst hw''
          clear c0 c1
          go_wp2_with fail
          go_ret
          exact ⟨by rw [HNE.out hxy]; rfl, below_size HB.out hbg⟩
      · obtain rfl : i = n := by omega
        have hxy : decide (xs = ys) = true := by
          simp only [decide_eq_true_eq]
          have := HE.out
          rwa [List.take_of_length_le (by rw [LX.out]; exact Nat.le_refl _), List.take_of_length_le (by rw [LY.out]; exact Nat.le_refl _)] at this
        have HD := Lib.hid hxy
        clear hxy
        have hlt' : ¬ (i : Int) < i := by omega
        go_wp2_with fail
        go_ret
        exact ⟨by rw [HD.out]; rfl, HB.out⟩
  · have hxy : decide (xs = ys) = false := by
      simp only [decide_eq_false_iff_not]
      intro e; exact hnm (by rw [← hx.len, ← hy.len, e])
    have HD := Lib.hid hxy
    have h1 := hx.n63.1; have h2 := hy.n63.1
    have hne : ¬ (n : Int) = m := by omega
    clear hxy hx hy
    go_enter Try.func15, Try.ntmps15
    go_wp2_with fail
    go_ret
    exact ⟨by rw [HD.out]; rfl, Below.refl _ _⟩

set_option maxHeartbeats 400000 in
theorem copyInts_any (a : Option Addr) (n cap : Nat) (xs : List Int) (w : World) (hr : Reads .i64 w a n cap xs) (hn : n ≤ 100000) :
    Calls Try.prog 12 #[.slice a n cap] w fun e w' => ∃ a' cap', e = .returned (.slice a' n cap') ∧ w'.ownsRow w.heap.size 3 1 (.slice a' n cap') n (xs.map (Value.int .i64)) ∧ Below w.heap.size w w' := by
  obtain ⟨i0, hi, hz0, hz1, hz2⟩ := info_parts infoInt
  have Hi := Lib.hid hi; have Hz0 := Lib.hid hz0; have Hz1 := Lib.hid hz1; have Hz2 := Lib.hid hz2
  have Hl := Lib.hid hr.len
  clear hi hz0 hz1 hz2
  go_enter Try.func12, Try.ntmps12
  go_wp2_with (at_builtin; go_loud (refine wpList_append_reads _ rfl _ _ 22 rfl w.heap.size 3 i0 (.int .i64 0) 8 Try.underlying22 Hi.out Hz0.out Hz1.out Hz2.out rfl .i64 (some ⟨w.heap.size, 0, none⟩) 0 0 [] rfl (World.ownsRow_made w _ 0 (Nat.le_refl _) (Nat.zero_le _) rfl) a n cap xs rfl (hr.below ((Below.refl _ _).alloc (Nat.le_refl _) _)) (by unfold maxLen; omega) (by omega) (by simp) ?_); intro a' cap' w' hown hgrow hnil)
  have hb : Below w.heap.size w w' := below_grown ((Below.refl _ _).alloc (Nat.le_refl _) _) (World.ownsRow_made w _ 0 (Nat.le_refl _) (Nat.zero_le _) rfl) hgrow (Nat.le_refl _) (by simp)
  clear hgrow
  rw [Nat.zero_add] at hown
  rw [List.nil_append] at hown
  go_wp2
  go_ret
  exact ⟨a', cap', by simp, hown, hb⟩
end Go.Proofs.Ytmdkinhbfndoeaa
