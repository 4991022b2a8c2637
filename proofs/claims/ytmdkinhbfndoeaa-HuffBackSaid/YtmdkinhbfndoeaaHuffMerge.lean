/-
  huff.merge.
-/
import Derived.Test.YtmdkinhbfndoeaaHuffMergeP
import Derived.Test.YtmdkinhbfndoeaaGrowTail
namespace Go.Proofs.Ytmdkinhbfndoeaa
open Go.RowKit

theorem infoMem : (Try.prog.info? 99).map (fun i => (i.zero, i.size, i.bytes)) = some (some (.agg #[.int .i64 0, .bool false]), 2, 16) := by kernel_rfl

theorem take_getDV {α : Type} (xs : List α) (k : Nat) (h : k < xs.length) (d : α) : xs.take (k + 1) = xs.take k ++ [xs.getD k d] := by
  rw [List.take_add_one, List.getElem?_eq_getElem h]
  simp [List.getD, List.getElem?_eq_getElem h]
theorem sizeItem : (Try.prog.info? 68).map (·.size) = some 2 := by kernel_rfl
theorem slice_items (g n cap lo : Nat) (h1 : lo ≤ n) (h2 : n ≤ cap) : ∃ A : Option Addr, (lo < n → A = some ⟨g, lo * 2, Option.none⟩) ∧ ∀ w, (Instr.slice 66 (.slice (some ⟨g, 0, Option.none⟩) n cap) (some (.int .i64 (lo : Int))) Option.none Option.none).run Try.prog w = .ok (.slice A (n - lo) (cap - lo)) w := by
  obtain ⟨i, hi', hz⟩ := Option.map_eq_some_iff.1 sizeItem
  by_cases hc : cap = lo
  · refine ⟨some ⟨g, 0, Option.none⟩, fun h => absurd h (by omega), fun w => ?_⟩
    simp [Instr.slice, run_underlying Try.underlying66, Instr.sliceBounds, run_sliceBound, sizeOf, typeInfo, hi', hz, h1, hc]
  · refine ⟨some ⟨g, lo * 2, Option.none⟩, fun _ => rfl, fun w => ?_⟩
    simp [Instr.slice, run_underlying Try.underlying66, Instr.sliceBounds, run_sliceBound, sizeOf, typeInfo, hi', hz, h1, hc, Addr.add_lit]

set_option maxRecDepth 100000 in
set_option maxHeartbeats 2000000 in
theorem merge_any (g n ca : Nat) (its : List (Int × Int)) (h L cb : Nat) (ms : List Mem) (w : World) (hI : ItemsAt w g n its) (hM : MemsAt w h L ms) (hn : n ≤ 300) (hL : L ≤ 1000) (hcb : L ≤ cb ∧ cb ≤ maxLen) (hca : n ≤ ca ∧ ca ≤ maxLen)
    (hw : ∀ j, 0 ≤ (ms.getD j (0, false)).1 ∧ (ms.getD j (0, false)).1 ≤ 1000000000000000000) :
    Calls Try.prog 43 #[.slice (some ⟨g, 0, Option.none⟩) n ca, .slice (some ⟨h, 0, Option.none⟩) L cb] w fun e w' =>
      ∃ a c, e = .returned (.slice a (mergeP its ms).length c) ∧ w'.ownsRow w.heap.size 99 2 (.slice a (mergeP its ms).length c) (mergeP its ms).length (flatM (mergeP its ms)) ∧ Below w.heap.size w w' := by
  obtain ⟨i0, hi, hz0, hz1, hz2⟩ := info_parts infoMem
  have Hi := Lib.hid hi; have Hz0 := Lib.hid hz0; have Hz1 := Lib.hid hz1; have Hz2 := Lib.hid hz2
  have HI := Lib.hid hI; have HM := Lib.hid hM; have HW := Lib.hid hw
  have HT := Lib.hid (show (mergeP its ms).length ≤ 1000 by rw [mergeP_len ms ms.length its (Nat.le_refl _), hI.len, hM.len]; omega)
  have H0 := Lib.hid (show mergeP its ms = [] ++ mergeP (its.drop 0) (ms.drop 0) by simp)
  have hq : ((n : Int) + (L : Int) / 2).toNat = n + L / 2 := by omega
  have hq0 : (0 : Int) ≤ (n : Int) + (L : Int) / 2 := by omega
  clear hi hz0 hz1 hz2 hI hM hw
  generalize mergeP its ms = T at *
  go_enter Try.func43, Try.ntmps43
  go_wp2_with (at_make; go_loud (refine wpList_make_own _ rfl _ _ 97 rfl w.heap.size 99 i0 _ 2 Try.underlying97 Hi.out Hz0.out Hz1.out _ _ _ (n + L / 2) rfl rfl (by first | rfl | omega) (by rw [Hz2.out]; omega) (by unfold maxLen; omega) (Nat.le_refl _) ?_))
  intro w1 o1 g1
  have b1 : Below w.heap.size w w1 := (Below.refl _ _).grown g1 (Nat.le_refl _) (fun k h => nomatch h)
  have O1 := Lib.hid o1; have B1 := Lib.hid b1
  clear o1 g1 b1 hq hq0
  go_wp2_with fail
  go_loopw [5, 6, 7] (fun vo vn vi wr => ∃ (O : List Mem) (nx j : Nat) (a : Option Addr) (c : Nat), j ≤ L + 1 ∧ nx ≤ n ∧ vn = .int .i64 nx ∧ vi = .int .i64 j ∧ vo = .slice a O.length c ∧ wr.ownsRow w.heap.size 99 2 (.slice a O.length c) O.length (flatM O) ∧ Hid (T = O ++ mergeP (its.drop nx) (ms.drop j)) ∧ Below w.heap.size w wr) (fun _ _ vi _ => L + 2 - (intOf vi).toNat)
  case atStart => exact ⟨[], 0, 0, _, _, Nat.zero_le _, Nat.zero_le _, rfl, rfl, rfl, O1.out, H0, B1.out⟩
  case round =>
    obtain ⟨O, nx, j, a, c, hj, hnx, rfl, rfl, rfl, own, HE, bel⟩ := hrel
    clear O1 B1
    have HO := Lib.hid own; have HB := Lib.hid bel
    clear own bel
    by_cases hlt : j + 1 < L
    · have M := HM.out.below HB.out
      have m0 := fun z : GrownW wr => z.cell M.lt (M.c0 j (by omega))
      have m1 := fun z : GrownW wr => z.cell M.lt (M.c0 (j + 1) hlt)
      have w0 := HW.out j
      have w1' := HW.out (j + 1)
      have HK := Lib.hid (show j + 1 < ms.length by rw [HM.out.len]; exact hlt)
      have HP := fun (nx : Nat) (h : nx < its.length) (hle : (its.getD nx (0, 0)).1 ≤ (ms.getD j (0, false)).1 + (ms.getD (j + 1) (0, false)).1) => mergeP_item (its := its) (ms := ms) (k := j) (nx := nx) HK.out h hle
      have HQ := fun (nx : Nat) (hle : ¬ (nx < its.length ∧ (its.getD nx (0, 0)).1 ≤ (ms.getD j (0, false)).1 + (ms.getD (j + 1) (0, false)).1)) => mergeP_pack (its := its) (ms := ms) (k := j) (nx := nx) HK.out hle
      generalize (ms.getD j (0, false)).1 = x at *
      generalize (ms.getD (j + 1) (0, false)).1 = y at *
      replace HP := Lib.hid HP; replace HQ := Lib.hid HQ
      have hlt' : (j : Int) + 1 < L := by omega
      have hj63 : (j : Int) + 1 < 9223372036854775808 := by omega
      clear M
      go_upto_region 6 with (fail)
      refine wp_region_grow_lit (by kernel_rfl) (by kernel_rfl) ?_
      repeat (go_big_quiet_step (fail))
      refine wpQuiet_nil ?_
      intro wg hw'
      obtain ⟨⟨wz, hbg⟩, hw''⟩ := hw'
      subst hw''
      replace HO := Lib.hid (by
        refine owns_keep HO.out (fun r hr => hbg.block _ ?_)
        exact (HO.out.lt r hr).2)
      replace HB := Lib.hid (below_size HB.out hbg)
      clear hbg m0 m1
      go_wp2_with fail
      go_loopw [5, 6] (fun vo vn wr => ∃ (O : List Mem) (nx : Nat) (a : Option Addr) (c : Nat), nx ≤ n ∧ vn = .int .i64 nx ∧ vo = .slice a O.length c ∧ wr.ownsRow w.heap.size 99 2 (.slice a O.length c) O.length (flatM O) ∧ Hid (T = O ++ mergeP (its.drop nx) (ms.drop j)) ∧ Below w.heap.size w wr) (fun _ vn _ => n - (intOf vn).toNat)
      case atStart => exact ⟨O, nx, a, c, hnx, rfl, rfl, HO.out, HE, HB.out⟩
      case round =>
        clear HE HO HB hnx
        obtain ⟨O, nx, a, c, hnx, rfl, rfl, own, HE, bel⟩ := hrel
        have HO := Lib.hid own; have HB := Lib.hid bel
        clear own bel
        have HOl := Lib.hid (show O.length ≤ 1000 by have := HT.out; rw [HE.out, List.length_append] at this; omega)
        by_cases hin : nx < n
        · have I := HI.out.below HB.out
          have m0p := I.c0 nx hin
          have m0 := fun z : GrownW wr => z.cell I.lt m0p
          have hin' : (nx : Int) < n := by omega
          have hpi := HP.out nx (by rw [HI.out.len]; exact hin)
          have hqi := fun h => HQ.out nx h
          have HSG := Lib.hid (show single (its.getD nx (0, 0)) = ((its.getD nx (0, 0)).1, false) from rfl)
          by_cases hle : (its.getD nx (0, 0)).1 ≤ x + y
          · have HPI := Lib.hid (hpi hle)
            rw [HSG.out] at HPI
            generalize (its.getD nx (0, 0)).1 = z at *
            clear hpi hqi I HSG
            have h1000 := HOl.out
            go_wp2_with (at_builtin; go_loud (refine wpList_append_any _ rfl _ _ 97 rfl w.heap.size 99 i0 _ 2 16 Try.underlying97 Hi.out Hz0.out Hz1.out Hz2.out rfl (by decide) a O.length c (flatM O) rfl (World.ownsRow.alloc HO.out _) _ 1 1 _ rfl rfl (cells_alloc2 _ _ _ _ _) (by simp [Value.oneCell']) (by decide) (by unfold maxLen; omega) (by omega) (by have := HB.out.size; simp; omega) ?_); intro a2 c2 w5 r5 g5 f5)
            have B5 := (HB.out.alloc HB.out.size (.cells #[.int .i64 z, .bool false] 99)).grown g5 (by have := HB.out.size; simp; omega) (fun k hk => (HO.out.lt k hk).1)
            have e1 : (O ++ [(z, false)]).length = O.length + 1 := by simp
            refine ⟨⟨O ++ [(z, false)], nx + 1, a2, c2, by omega, by go_num, by rw [e1], ?_, Lib.hid (by rw [HE.out, HPI.out]; simp), B5⟩, ?_⟩
            · rw [e1, flatM_append]; exact r5
            · simp [intOf]; omega
          · clear hpi
            have HQI := Lib.hid (HQ.out nx (by rw [HI.out.len]; exact fun h => hle h.2))
            have hlt2 : (j : Int) + 2 ≤ 9223372036854775807 := by omega
            have h1000 := HOl.out
            clear hqi HSG I; generalize (its.getD nx (0, 0)).1 = z at *
            go_wp2_with (at_builtin; go_loud (refine wpList_append_any _ rfl _ _ 97 rfl w.heap.size 99 i0 _ 2 16 Try.underlying97 Hi.out Hz0.out Hz1.out Hz2.out rfl (by decide) a O.length c (flatM O) rfl (World.ownsRow.alloc HO.out _) _ 1 1 _ rfl rfl (cells_alloc2 _ _ _ _ _) (by simp [Value.oneCell']) (by decide) (by unfold maxLen; omega) (by omega) (by have := HB.out.size; simp; omega) ?_); intro a2 c2 w5 r5 g5 f5)
            have B5 := (HB.out.alloc HB.out.size (.cells #[.int .i64 (x + y), .bool true] 99)).grown g5 (by have := HB.out.size; simp; omega) (fun k hk => (HO.out.lt k hk).1)
            have e1 : (O ++ [(x + y, true)]).length = O.length + 1 := by simp
            have HE2 : T = (O ++ [(x + y, true)]) ++ mergeP (its.drop nx) (ms.drop (j + 2)) := by rw [HE.out, HQI.out]; simp
            have R5 : w5.ownsRow w.heap.size 99 2 (.slice a2 (O ++ [(x + y, true)]).length c2) (O ++ [(x + y, true)]).length (flatM (O ++ [(x + y, true)])) := by rw [e1, flatM_append]; exact r5
            clear r5 g5 f5 m0
            go_wp2_with fail
            refine ⟨⟨O ++ [(x + y, true)], nx, j + 2, a2, c2, by omega, hnx, rfl, by go_num, by rw [e1], R5, Lib.hid HE2, B5⟩, ?_⟩
            simp [intOf]; omega
        · have hin' : ¬ (nx : Int) < n := by omega
          have m0 := hin
          have HQI := Lib.hid (HQ.out nx (by rw [HI.out.len]; exact fun h => hin h.1))
          have hlt2 : (j : Int) + 2 ≤ 9223372036854775807 := by omega
          have h1000 := HOl.out
          go_wp2_with (at_builtin; go_loud (refine wpList_append_any _ rfl _ _ 97 rfl w.heap.size 99 i0 _ 2 16 Try.underlying97 Hi.out Hz0.out Hz1.out Hz2.out rfl (by decide) a O.length c (flatM O) rfl (World.ownsRow.alloc HO.out _) _ 1 1 _ rfl rfl (cells_alloc2 _ _ _ _ _) (by simp [Value.oneCell']) (by decide) (by unfold maxLen; omega) (by omega) (by have := HB.out.size; simp; omega) ?_); intro a2 c2 w5 r5 g5 f5)
          have B5 := (HB.out.alloc HB.out.size (.cells #[.int .i64 (x + y), .bool true] 99)).grown g5 (by have := HB.out.size; simp; omega) (fun k hk => (HO.out.lt k hk).1)
          have e1 : (O ++ [(x + y, true)]).length = O.length + 1 := by simp
          have HE2 : T = (O ++ [(x + y, true)]) ++ mergeP (its.drop nx) (ms.drop (j + 2)) := by rw [HE.out, HQI.out]; simp
          have R5 : w5.ownsRow w.heap.size 99 2 (.slice a2 (O ++ [(x + y, true)]).length c2) (O ++ [(x + y, true)]).length (flatM (O ++ [(x + y, true)])) := by rw [e1, flatM_append]; exact r5
          clear r5 g5 f5 m0
          go_wp2_with fail
          refine ⟨⟨O ++ [(x + y, true)], nx, j + 2, a2, c2, by omega, hnx, rfl, by go_num, by rw [e1], R5, Lib.hid HE2, B5⟩, ?_⟩
          simp [intOf]; omega
    · have hlt' : ¬ (j : Int) + 1 < L := by omega
      have HF := Lib.hid (show T = O ++ (its.drop nx).map single by rw [HE.out, mergeP_end (by rw [HM.out.len]; exact hlt)])
      have hj63 : (j : Int) + 1 < 9223372036854775808 := by omega
      clear HE
      obtain ⟨A, hA, hS⟩ := slice_items g n ca nx hnx hca.1
      have HA := Lib.hid hA
      have e0 : (n : Int) - nx = ((n - nx : Nat) : Int) := by omega
      clear hA
      go_wp2_with fail
      go_loopw [5, 70] (fun vo vk wr => ∃ (k : Nat) (a : Option Addr) (c : Nat), k ≤ n - nx ∧ vk = .int .i64 k ∧ vo = .slice a (O.length + k) c ∧ wr.ownsRow w.heap.size 99 2 (.slice a (O.length + k) c) (O.length + k) (flatM (O ++ ((its.drop nx).take k).map single)) ∧ Below w.heap.size w wr) (fun _ vk _ => n - nx - (intOf vk).toNat)
      case atStart => exact ⟨0, a, c, Nat.zero_le _, rfl, rfl, by simpa using HO.out, HB.out⟩
      case round =>
        clear HO HB
        obtain ⟨k, a, c, hk, rfl, rfl, own, bel⟩ := hrel
        have HO := Lib.hid own; have HB := Lib.hid bel
        clear own bel
        have HOl := Lib.hid (show O.length + (n - nx) ≤ 1000 by have := HT.out; rw [HF.out, List.length_append, List.length_map, List.length_drop, HI.out.len] at this; exact this)
        by_cases hkn : k < n - nx
        · have hA := HA.out (by omega)
          subst hA
          have I := HI.out.below HB.out
          have m0 := I.c0 (nx + k) (by omega)
          have m1 := I.c1 (nx + k) (by omega)
          have Ilt := I.lt
          have ea : nx * 2 + k * 2 = (nx + k) * 2 := by omega
          have hkn' : (k : Int) < ((n - nx : Nat) : Int) := by omega
          have HS1 := Lib.hid (show ((its.drop nx).take (k + 1)).map single = ((its.drop nx).take k).map single ++ [single (its.getD (nx + k) (0, 0))] by
            rw [take_getDV (its.drop nx) k (by rw [List.length_drop, HI.out.len]; exact hkn) (0, 0), List.map_append]; simp [List.getD])
          rw [show single (its.getD (nx + k) (0, 0)) = ((its.getD (nx + k) (0, 0)).1, false) from rfl] at HS1
          generalize (its.getD (nx + k) (0, 0)).1 = z1 at *
          generalize (its.getD (nx + k) (0, 0)).2 = z2 at *
          clear I
          go_upto_region 14 with (fail)
          have HO2 := Lib.hid (World.ownsRow.alloc HO.out (.cells #[.int .i64 z1, .int .i64 z2] 68))
          have HB2 := Lib.hid (HB.out.alloc HB.out.size (.cells #[.int .i64 z1, .int .i64 z2] 68))
          have hc0 : (wr.alloc (.cells #[.int .i64 z1, .int .i64 z2] 68)).cell? ⟨wr.heap.size, 0, Option.none⟩ = some (.int .i64 z1) := by
            have := cells_alloc2 wr (.int .i64 z1) (.int .i64 z2) 68 (0, 0) 0 _ rfl
            rwa [Addr.add_lit, Nat.zero_add] at this
          have h1000 := HOl.out
          generalize wr.alloc (.cells #[.int .i64 z1, .int .i64 z2] 68) = W2 at *
          generalize wr.heap.size = gx at *
          clear HO HB m0 m1 Ilt
          go_wp2_with (at_builtin; go_loud (refine wpList_append_any _ rfl _ _ 97 rfl w.heap.size 99 i0 _ 2 16 Try.underlying97 Hi.out Hz0.out Hz1.out Hz2.out rfl (by decide) a (O.length + k) c (flatM (O ++ ((its.drop nx).take k).map single)) rfl (World.ownsRow.alloc HO2.out _) _ 1 1 _ rfl rfl (cells_alloc2 _ _ _ _ _) (by simp [Value.oneCell']) (by decide) (by unfold maxLen; omega) (by omega) (by have := HB2.out.size; simp; omega) ?_); intro a2 c2 w5 r5 g5 f5)
          have B5 := (HB2.out.alloc HB2.out.size (.cells #[.int .i64 z1, .bool false] 99)).grown g5 (by have := HB2.out.size; simp; omega) (fun k hk => (HO2.out.lt k hk).1)
          clear g5 f5 hc0
          refine ⟨⟨k + 1, a2, c2, by omega, by go_num, by rw [Nat.add_assoc], ?_, B5⟩, ?_⟩
          · rw [← Nat.add_assoc, HS1.out, ← List.append_assoc, flatM_append]; exact r5
          · simp [intOf]; omega
        · obtain rfl : k = n - nx := by omega
          have hkn' : ¬ ((n - nx : Nat) : Int) < ((n - nx : Nat) : Int) := by omega
          have hl : O.length + (n - nx) = T.length := by rw [HF.out, List.length_append, List.length_map, List.length_drop, HI.out.len]
          have HO3 := HO.out
          rw [hl, List.take_of_length_le (by rw [List.length_drop, HI.out.len]; exact Nat.le_refl _), ← HF.out] at HO3
          rw [hl]
          have HO := Lib.hid HO3
          clear HO3
          go_wp2_with fail
          go_ret
          exact ⟨a, c, rfl, HO.out, HB.out⟩
end Go.Proofs.Ytmdkinhbfndoeaa
