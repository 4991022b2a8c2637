/-
  aquref.Texts, aquref.Bools.
-/
import Derived.Test.YtdjbmjkfpmchgaaChecked
import Derived.Test.YtdjbmjkfpmchgaaGrow
import Derived.Deep.Cut
import Derived.Test.YtdjbmjkfpmchgaaReadsA
namespace Go.Proofs.Ytdjbmjkfpmchgaa
open Go.RowKit

set_option maxRecDepth 100000 in
set_option maxHeartbeats 1000000 in
theorem texts_any (a b : Option Addr) (n ca m cb : Nat) (xs ys : List ByteArray) (w : World) (hx : Strs w a n ca xs) (hy : Strs w b m cb ys) :
    Calls Try.prog 16 #[.slice a n ca, .slice b m cb] w fun e w' => e = .returned (.bool (decide (xs = ys))) ∧ Below w.heap.size w w' := by
  by_cases hnm : n = m
  · subst hnm
    have HX := Lib.hid hx; have HY := Lib.hid hy; have LX := Lib.hid hx.len; have LY := Lib.hid hy.len
    have h63 := hx.n63.1
    clear hx hy
    go_enter Try.func16, Try.ntmps16
    go_wp2_with fail
    go_loopw [5] (fun vi wr => ∃ i : Nat, i ≤ n ∧ vi = .int .i64 i ∧ Hid (xs.take i = ys.take i) ∧ Hid (Below w.heap.size w wr)) (fun vi _ => n - (intOf vi).toNat)
    case atStart => exact ⟨0, Nat.zero_le _, rfl, Lib.hid rfl, Lib.hid (Below.refl _ _)⟩
    case round =>
      obtain ⟨i, hi, rfl, HE, HB⟩ := hrel
      by_cases hlt : i < n
      · have X := HX.out.below HB.out
        have Y := HY.out.below HB.out
        obtain ⟨bx, ox, rfl, hlx, hcx⟩ := X.cells (by omega)
        obtain ⟨by', oy, rfl, hly, hcy⟩ := Y.cells (by omega)
        have c0 := fun z : GrownW wr => z.cell hlx (hcx i hlt)
        have c1 := fun z : GrownW wr => z.cell hly (hcy i hlt)
        have hex : xs.take (i + 1) = xs.take i ++ [xs.getD i ByteArray.empty] := take_getDA ByteArray.empty xs i (by rw [LX.out]; exact hlt)
        have hey : ys.take (i + 1) = ys.take i ++ [ys.getD i ByteArray.empty] := take_getDA ByteArray.empty ys i (by rw [LY.out]; exact hlt)
        have hne : xs.getD i ByteArray.empty ≠ ys.getD i ByteArray.empty → decide (xs = ys) = false := fun h => by
          simp only [decide_eq_false_iff_not]
          intro e; exact h (by rw [e])
        have HEX := Lib.hid hex; have HEY := Lib.hid hey; have HNE := Lib.hid hne
        clear hex hey hne X Y hcx hcy
        generalize xs.getD i ByteArray.empty = x at *
        generalize ys.getD i ByteArray.empty = y at *
        have hlt' : (i : Int) < n := by omega
        by_cases hxy : x = y
        · subst hxy
          have hxx := str_eq x
          go_upto_region 6 with (fail)
          refine wp_region_grow_lit (by kernel_rfl) (by kernel_rfl) ?_
          repeat (go_big_quiet_step (fail))
          refine wpQuiet_nil ?_
          intro wg hw'
          obtain ⟨⟨wz, hbg⟩, hw''⟩ := hw'
          subst hw''
          clear c0 c1
          go_wp2_with fail
          go_roundw
          case rel => exact ⟨i + 1, by omega, by go_num, Lib.hid (by rw [HEX.out, HEY.out, HE.out]), Lib.hid (below_size HB.out hbg)⟩
          case measure => simp [intOf]; omega
        · have hxy' := str_ne hxy
          go_upto_region 6 with (fail)
          refine wp_region_grow_lit (by kernel_rfl) (by kernel_rfl) ?_
          repeat (go_big_quiet_step (fail))
          refine wpQuiet_nil ?_
          intro wg hw'
          obtain ⟨⟨wz, hbg⟩, hw''⟩ := hw'
          subst hw''
          clear c0 c1
          go_wp2_with fail
          go_ret
          exact ⟨by rw [HNE.out hxy]; rfl, below_size HB.out hbg⟩
      · obtain rfl : i = n := by omega
        have hxy : decide (xs = ys) = true := by
          simp only [decide_eq_true_eq]
          have := HE.out
          rwa [List.take_of_length_le (by rw [LX.out]; exact Nat.le_refl _), List.take_of_length_le (by rw [LY.out]; exact Nat.le_refl _)] at this
        have HD := Lib.hid hxy
        clear hxy
        have hlt' : ¬ (i : Int) < i := by omega
        go_wp2_with fail
        go_ret
        exact ⟨by rw [HD.out]; rfl, HB.out⟩
  · have hxy : decide (xs = ys) = false := by
      simp only [decide_eq_false_iff_not]
      intro e; exact hnm (by rw [← hx.len, ← hy.len, e])
    have HD := Lib.hid hxy
    have h1 := hx.n63.1; have h2 := hy.n63.1
    have hne : ¬ (n : Int) = m := by omega
    clear hxy hx hy
    go_enter Try.func16, Try.ntmps16
    go_wp2_with fail
    go_ret
    exact ⟨by rw [HD.out]; rfl, Below.refl _ _⟩

end Go.Proofs.Ytdjbmjkfpmchgaa
