/-
  huff.tally.
-/
import Derived.Test.YtmdkinhbfndoeaaHuffRKraft
import Derived.Test.YtmdkinhbfndoeaaKBox
import Derived.Test.YtmdkinhbfndoeaaGrowTail
import Derived.Deep.DeepCutAuto
import Derived.Deep.RegionWith
namespace Go.Proofs.Ytmdkinhbfndoeaa
open Go.RowKit

def tallyL (ls : List Int) : List Int := (List.range 16).map fun m => if m = 0 then 0 else ((cnt ls m : Nat) : Int)
theorem tallyL_len (ls : List Int) : (tallyL ls).length = 16 := by simp [tallyL]
theorem tallyL_getD (ls : List Int) (m : Nat) (h : m < 16) : (tallyL ls).getD m 0 = if m = 0 then 0 else ((cnt ls m : Nat) : Int) := by unfold tallyL; rw [getD_map_range, if_pos h]
theorem tallyL_snoc_no (ls : List Int) (x : Int) (h : ¬ 0 < x) : tallyL (ls ++ [x]) = tallyL ls := by
  refine ext_getD (by rw [tallyL_len, tallyL_len]) fun m hm => ?_
  rw [tallyL_len] at hm
  rw [tallyL_getD _ _ hm, tallyL_getD _ _ hm]
  by_cases h0 : m = 0
  · rw [if_pos h0, if_pos h0]
  · rw [if_neg h0, if_neg h0, cnt_snoc, if_neg (by omega), Nat.add_zero]
theorem tallyL_snoc (ls : List Int) (x : Int) (h : 0 < x) (h15 : x ≤ 15) : tallyL (ls ++ [x]) = (tallyL ls).set x.toNat ((tallyL ls).getD x.toNat 0 + 1) := by
  refine ext_getD (by rw [List.length_set, tallyL_len, tallyL_len]) fun m hm => ?_
  rw [tallyL_len] at hm
  rw [getD_set, tallyL_getD _ _ hm, tallyL_getD _ _ hm, tallyL_len]
  by_cases h0 : m = 0
  · rw [if_pos h0, if_neg (by omega), if_pos h0]
  · rw [if_neg h0, if_neg h0, cnt_snoc]
    by_cases e : x.toNat = m
    · rw [if_pos (show x = (m : Int) by omega), if_pos (show x.toNat = m ∧ x.toNat < 16 from ⟨e, by omega⟩), tallyL_getD _ _ (by omega), if_neg (by omega), e]; omega
    · rw [if_neg (show ¬ x = (m : Int) by omega), if_neg (show ¬ (x.toNat = m ∧ x.toNat < 16) from fun h => e h.1), Nat.add_zero]
theorem tallyL_bd (ls : List Int) (m : Nat) : 0 ≤ (tallyL ls).getD m 0 ∧ (tallyL ls).getD m 0 ≤ ls.length := by
  by_cases hm : m < 16
  · rw [tallyL_getD _ _ hm]
    have := cnt_le ls m
    split <;> omega
  · have : (tallyL ls).getD m 0 = 0 := by simp [List.getD, tallyL, hm]
    rw [this]; omega

theorem arrI16 : (Try.prog.info? 79).map (·.size) = some 16 := by kernel_rfl
set_option maxHeartbeats 1000000 in
theorem tally_any (a : Option Addr) (n cap : Nat) (ls : List Int) (w : World) (hr : Reads .i64 w a n cap ls) (hk : lensOk ls) :
    Calls Try.prog 35 #[.slice a n cap] w fun e w' => e = .returned (.agg ((tallyL ls).map (Value.int .i64)).toArray) ∧ Below w.heap.size w w' := by
  have HR := Lib.hid hr; have HL := Lib.hid hr.len; have HK := Lib.hid hk
  have hn : n ≤ 300 := by have := hk.1; have := hr.len; omega
  have hn63 := hr.n63.1
  clear hr hk
  have Z1 := Lib.hid (KBox.new .i64 w 79 (List.replicate 16 0) #[.int .i64 0, .int .i64 0, .int .i64 0, .int .i64 0, .int .i64 0, .int .i64 0, .int .i64 0, .int .i64 0, .int .i64 0, .int .i64 0, .int .i64 0, .int .i64 0, .int .i64 0, .int .i64 0, .int .i64 0, .int .i64 0] rfl)
  have Z2 := Lib.hid (KBox.new .i64 (w.alloc (.cells #[.int .i64 0, .int .i64 0, .int .i64 0, .int .i64 0, .int .i64 0, .int .i64 0, .int .i64 0, .int .i64 0, .int .i64 0, .int .i64 0, .int .i64 0, .int .i64 0, .int .i64 0, .int .i64 0, .int .i64 0, .int .i64 0] 79)) 79 (List.replicate 16 0) #[.int .i64 0, .int .i64 0, .int .i64 0, .int .i64 0, .int .i64 0, .int .i64 0, .int .i64 0, .int .i64 0, .int .i64 0, .int .i64 0, .int .i64 0, .int .i64 0, .int .i64 0, .int .i64 0, .int .i64 0, .int .i64 0] rfl)
  have B2 : Hid (Below w.heap.size w ((w.alloc (.cells #[.int .i64 0, .int .i64 0, .int .i64 0, .int .i64 0, .int .i64 0, .int .i64 0, .int .i64 0, .int .i64 0, .int .i64 0, .int .i64 0, .int .i64 0, .int .i64 0, .int .i64 0, .int .i64 0, .int .i64 0, .int .i64 0] 79)).alloc (.cells #[.int .i64 0, .int .i64 0, .int .i64 0, .int .i64 0, .int .i64 0, .int .i64 0, .int .i64 0, .int .i64 0, .int .i64 0, .int .i64 0, .int .i64 0, .int .i64 0, .int .i64 0, .int .i64 0, .int .i64 0, .int .i64 0] 79))) := Lib.hid (((Below.refl _ _).alloc (Nat.le_refl _) _).alloc (by simp) _)
  have Z1' := Lib.hid (Z1.out.below ((Below.refl _ _).alloc (Nat.le_refl _) (.cells #[.int .i64 0, .int .i64 0, .int .i64 0, .int .i64 0, .int .i64 0, .int .i64 0, .int .i64 0, .int .i64 0, .int .i64 0, .int .i64 0, .int .i64 0, .int .i64 0, .int .i64 0, .int .i64 0, .int .i64 0, .int .i64 0] 79)))
  have h0 : (List.replicate 16 (0 : Int)) = tallyL (ls.take 0) := by rw [List.take_zero]; decide
  rw [World.size_alloc] at Z2
  go_enter Try.func35, Try.ntmps35
  go_wp2_with fail
  clear Z1
  generalize (w.alloc (.cells #[.int .i64 0, .int .i64 0, .int .i64 0, .int .i64 0, .int .i64 0, .int .i64 0, .int .i64 0, .int .i64 0, .int .i64 0, .int .i64 0, .int .i64 0, .int .i64 0, .int .i64 0, .int .i64 0, .int .i64 0, .int .i64 0] 79)).alloc (.cells #[.int .i64 0, .int .i64 0, .int .i64 0, .int .i64 0, .int .i64 0, .int .i64 0, .int .i64 0, .int .i64 0, .int .i64 0, .int .i64 0, .int .i64 0, .int .i64 0, .int .i64 0, .int .i64 0, .int .i64 0, .int .i64 0] 79) = w2 at *
  go_loopw [8] (fun vi wr => ∃ i : Nat, i ≤ n ∧ vi = .int .i64 i ∧ Hid (KBox .i64 wr (w.heap.size + 1) 79 (tallyL (ls.take i))) ∧ Hid (KBox .i64 wr w.heap.size 79 (List.replicate 16 0)) ∧ Hid (Below w.heap.size w wr)) (fun vi _ => n - (intOf vi).toNat)
  case atStart => exact ⟨0, Nat.zero_le _, rfl, by rw [← h0]; exact Z2, Z1', B2⟩
  case round =>
    obtain ⟨i, hi, rfl, T, Z, B⟩ := hrel
    clear Z2 Z1' B2
    by_cases hlt : i < n
    · obtain ⟨b, off, rfl, hc⟩ := (HR.out.below B.out).cellAt i hlt
      have hx := HK.out.2 (ls.getD i 0) (by simp [List.getD, HL.out, hlt])
      have HT := Lib.hid (take_getD ls i (by rw [HL.out]; exact hlt))
      generalize ls.getD i 0 = x at *
      have hlt' : (i : Int) < n := by omega
      have hi0 : (0 : Int) ≤ i := by omega
      by_cases hp : (0 : Int) < x
      · obtain ⟨y, rfl⟩ := Int.eq_ofNat_of_zero_le hx.1
        have hy : y < 16 := by omega
        have hy2 : (y : Int) < 16 := by omega
        have hy3 : (0 : Int) ≤ y := by omega
        have c := T.out.cell y (by rw [tallyL_len]; exact hy)
        have f := T.out.frozen y
        have hb := tallyL_bd (ls.take i) y
        rw [List.length_take, HL.out] at hb
        have HS := Lib.hid (tallyL_snoc (ls.take i) (y : Int) hp (by omega))
        have hw : wrap64 ((tallyL (ls.take i)).getD y 0 + 1) = (tallyL (ls.take i)).getD y 0 + 1 := by rw [wrap64]; omega
        have HW := Lib.hid hw
        clear hb hw
        go_wp2_with fail
        go_roundw
        case rel =>
          refine ⟨i + 1, by omega, by go_num, Lib.hid ?_, Lib.hid (Z.out.far _ _ _ (by omega)), Lib.hid (B.out.setCell (by simp) _)⟩
          rw [HT.out, HS.out]
          have := T.out.set y ((tallyL (ls.take i)).getD y 0 + 1)
          change KBox _ (wr.setCell _ (.int .i64 (wrap64 ((tallyL (ls.take i)).getD y 0 + 1)))) _ _ _
          rw [HW.out, Int.toNat_natCast]
          exact this
        case measure => simp [intOf]; omega
      · have HS := Lib.hid (tallyL_snoc_no (ls.take i) x hp)
        go_wp2_with fail
        go_roundw
        case rel =>
          refine ⟨i + 1, by omega, by go_num, Lib.hid ?_, Z, B⟩
          rw [HT.out, HS.out]
          exact T.out
        case measure => simp [intOf]; omega
    · have hin : i = n := by omega
      have hnl : ¬ (i : Int) < n := by omega
      rw [hin, List.take_of_length_le (by rw [HL.out]; exact Nat.le_refl _)] at T
      go_upto_region 8 with (fail)
      refine wp_region_list ?_
      refine wpList_load_arrK .i64 rfl 79 _ rfl (w.heap.size + 1) rfl (tallyL ls) 79 T.out 16 3 Try.underlying79 (by rw [tallyL_len]; exact arrI16) ?_
      refine wpList_store_arrK .i64 rfl 79 _ _ rfl w.heap.size rfl (tallyL ls) rfl _ 79 Z.out (by rw [tallyL_len]; exact arrI16) (by rw [tallyL_len]; rfl) ?_
      go_wp2_with fail
      refine bodyPost_ret (results_arrK (k := .i64) rfl Try.underlying79 _ _ _ rfl (Z.out.row (tallyL ls)) (by rw [tallyL_len]; exact arrI16)) rfl ?_
      exact ⟨rfl, below_setRow B.out (Nat.le_refl _) _⟩
end Go.Proofs.Ytmdkinhbfndoeaa
