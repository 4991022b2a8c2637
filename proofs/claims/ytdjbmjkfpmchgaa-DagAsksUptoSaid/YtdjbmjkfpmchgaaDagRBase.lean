/-
  The reference's Base.
-/
import Derived.Test.YtdjbmjkfpmchgaaDagRBaseP
namespace Go.Proofs.Ytdjbmjkfpmchgaa
open Go.RowKit Go.Maps

set_option maxRecDepth 100000 in
set_option maxHeartbeats 8000000 in
theorem rbase_any (h n cap : Nat) (ad : Option Addr) (ns : List Nd) (a b : ByteArray) (w : World) (hg : RG w h ad n cap ns) (G : Good ns) (hP : ∀ x, (psOf ns x).length ≤ 1048576) :
    Calls Try.prog 11 #[gp h, .string a, .string b] w fun e w' => ∃ (x : ByteArray) (c : Int), e = .returned (.tuple #[.string x, .int .i64 c]) ∧ BaseIs ns a b x c ∧ Below w.heap.size w w' := by
  obtain ⟨i0, hi, hz0, hz1, hz2⟩ := info_parts infoStr
  have Hi := Lib.hid hi; have Hz0 := Lib.hid hz0; have Hz1 := Lib.hid hz1; have Hz2 := Lib.hid hz2
  have GR := Lib.hid hg; have GD := Lib.hid G; have HP := Lib.hid hP
  clear hi hz0 hz1 hz2 hg G hP
  go_enter Try.func11, Try.ntmps11
  go_wp2_with fail
  refine (ghas_any h n cap ad ns a _ GR.out).mono ?_; rintro e w1 ⟨rfl, rfl⟩
  by_cases hina : a ∈ keysOf ns
  · rw [decide_eq_true hina]
    have HA := Lib.hid hina
    clear hina
    go_wp2_with fail
    refine (ghas_any h n cap ad ns b _ GR.out).mono ?_; rintro e w1 ⟨rfl, rfl⟩
    by_cases hinb : b ∈ keysOf ns
    · rw [decide_eq_true hinb]
      have HB := Lib.hid hinb
      clear hinb
      go_wp2_with fail
      refine (ranc_any h n cap ad ns a _ GR.out GD.out HP.out).mono ?_; rintro e w2 ⟨l, hl, al, cl, rfl, ol, bl⟩
      have HL := Lib.hid hl
      have hl500 : l.length ≤ 500 := by have := hl.le GD.out; have := GD.out.few; omega
      have RL := Lib.hid (readsA_of_owns (f := Value.string) ByteArray.empty ol)
      have BW := Lib.hid bl
      clear hl ol bl
      go_wp2_with fail
      refine (ranc_any h n cap ad ns b _ (GR.out.below BW.out) GD.out HP.out).mono ?_; rintro e w3 ⟨m, hm, am, cm, rfl, om, bm⟩
      have HM := Lib.hid hm
      have RM := Lib.hid (readsA_of_owns (f := Value.string) ByteArray.empty om)
      replace RL := Lib.hid (RL.out.below bm)
      replace BW := Lib.hid (below_size BW.out bm)
      have h63 := RL.out.n63
      clear hm om bm
      go_wp2_with fail
      go_loopw [10, 11] (fun vb vi wr => ∃ (i : Nat) (both : List ByteArray) (a : Option Addr) (cp : Nat), vb = .slice a both.length cp ∧ vi = .int .i64 i ∧ i ≤ l.length ∧ Hid (wr.ownsRow w3.heap.size 9 1 (.slice a both.length cp) both.length (both.map Value.string)) ∧ Hid (Com l m i both) ∧ Hid (Below w3.heap.size w3 wr)) (fun _ vi _ => l.length - (intOf vi).toNat)
      case atStart => exact ⟨0, [], Option.none, 0, rfl, rfl, Nat.zero_le _, Lib.hid ⟨rfl, .inl ⟨rfl, rfl⟩⟩, Lib.hid (Com.zero l m), Lib.hid (Below.refl _ _)⟩
      case round =>
        obtain ⟨i, both, ab, cb, rfl, rfl, hi, OO, CC, B4⟩ := hrel
        generalize wr = w4 at *
        have hbl := CC.out.len
        by_cases hlt : i < l.length
        · have i1 : (i : Int) < l.length := by omega
          have i2 : (0 : Int) ≤ i := by omega
          obtain ⟨b0, off, rfl, hb0, c0⟩ := (RL.out.below B4.out).cellAt i hlt
          obtain ⟨x, hx⟩ : ∃ x, x = l.getD i ByteArray.empty := ⟨_, rfl⟩
          rw [← hx] at c0
          have HX := Lib.hid hx
          have RM4 := Lib.hid (RM.out.below B4.out)
          clear hx hb0
          go_wp2_with fail
          refine (rhas_any _ _ _ m x _ RM4.out).mono ?_; rintro e w5 ⟨rfl, rfl⟩
          by_cases hxm : x ∈ m
          · rw [decide_eq_true hxm]
            have C2 : Hid (Com l m (i + 1) (both ++ [x])) := Lib.hid (by
              rw [HX.out]; exact CC.out.take HL.out.rises hlt (by rw [← HX.out]; exact hxm))
            clear hxm
            have bk := (Below.refl w5.heap.size w5).alloc (Nat.le_refl _) (.cells #[.string x] 9)
            have O5 := Lib.hid (owns_below OO.out bk)
            have B5 := Lib.hid (below_size B4.out bk)
            have S5 : Hid (Strs (w5.alloc (.cells #[.string x] 9)) (some ⟨w5.heap.size, 0, Option.none⟩) 1 1 [x]) := Lib.hid (readsA_alloc ByteArray.empty w5 [x] #[.string x] _ _ rfl (show 1 ≤ maxLen by decide) 1 rfl)
            clear bk
            go_wp2_with (at_builtin; refine wpList_append_readsA (f := Value.string) (d := ByteArray.empty) _ str_one rfl _ _ 35 rfl w3.heap.size 9 i0 (.string ByteArray.empty) 16 Try.underlying35 Hi.out Hz0.out Hz1.out Hz2.out rfl ab both.length cb both rfl O5.out (some ⟨w5.heap.size, 0, Option.none⟩) 1 1 [x] rfl S5.out (by unfold maxLen; omega) (by omega) B5.out.size ?_)
            intro a6 c6 w6 o6 g6
            have O6 : Hid (w6.ownsRow w3.heap.size 9 1 (.slice a6 (both.length + 1) c6) (both.length + 1) ((both ++ [x]).map Value.string)) := Lib.hid (by rw [List.map_append]; exact o6)
            have B6 := Lib.hid (below_grown B5.out O5.out g6 (Nat.le_refl _) B5.out.size)
            have hlen : (both ++ [x]).length = both.length + 1 := by simp
            clear o6 g6 O5 B5 S5
            rw [← hlen] at O6 ⊢
            generalize both ++ [x] = both2 at *
            go_wp2_with fail
            go_roundw
            case rel => exact ⟨i + 1, both2, a6, c6, rfl, by go_num, by omega, O6, C2, B6⟩
            case measure => (simp [intOf] <;> omega)
          · rw [decide_eq_false hxm]
            have C2 : Hid (Com l m (i + 1) both) := Lib.hid (CC.out.skip hlt (by rw [← HX.out]; exact hxm))
            clear hxm
            go_wp2_with fail
            go_roundw
            case rel => exact ⟨i + 1, both, ab, cb, rfl, by go_num, by omega, OO, C2, B4⟩
            case measure => (simp [intOf] <;> omega)
        · obtain rfl : i = l.length := by omega
          have hboth : ∀ y, y ∈ both ↔ y ∈ l ∧ y ∈ m := fun y => by rw [CC.out.mem, List.take_length]
          have hris := CC.out.rises
          have HBO := Lib.hid hboth; have HRI := Lib.hid hris
          have RB := Lib.hid (readsA_of_owns (f := Value.string) ByteArray.empty OO.out)
          replace BW := Lib.hid (below_size BW.out B4.out)
          have hb63 := RB.out.n63
          clear hboth hris OO CC RL RM B4 hlt hi
          have GR4 := Lib.hid (GR.out.below BW.out)
          go_wp2_with fail
          go_loopw [12, 13, 14] (fun vx vf vi wr => ∃ (i : Nat) (best : ByteArray) (found : Bool), vx = .string best ∧ vf = .bool found ∧ vi = .int .i64 i ∧ i ≤ both.length ∧ Hid (BestOf ns both (nearL ns both) i best found) ∧ Hid (Below w4.heap.size w4 wr)) (fun _ _ vi _ => both.length - (intOf vi).toNat)
          case atStart => exact ⟨0, ByteArray.empty, false, rfl, rfl, rfl, Nat.zero_le _, Lib.hid (BestOf.zero ns both _), Lib.hid (Below.refl _ _)⟩
          case round =>
            obtain ⟨i, best, found, rfl, rfl, rfl, hi, BO, B5⟩ := hrel
            generalize wr = w5 at *
            by_cases hlt : i < both.length
            · have i1 : (i : Int) < both.length := by omega
              have i2 : (0 : Int) ≤ i := by omega
              go_wp2_with fail
              go_loopw [15, 16] (fun vn vk wr => ∃ (k : Nat) (nr : Bool), vn = .bool nr ∧ vk = .int .i64 k ∧ k ≤ both.length ∧ Hid (nr = true ↔ ∀ j, j < k → j ≠ i → ancB ns (both.getD i ByteArray.empty) (both.getD j ByteArray.empty) = false) ∧ Hid (Below w5.heap.size w5 wr)) (fun _ vk _ => both.length - (intOf vk).toNat)
              case atStart => exact ⟨0, true, rfl, rfl, Nat.zero_le _, Lib.hid ⟨fun _ j h => absurd h (by omega), fun _ => rfl⟩, Lib.hid (Below.refl _ _)⟩
              case round =>
                obtain ⟨k, nr, rfl, rfl, hk, HN, B6⟩ := hrel
                generalize wr = w6 at *
                have B56 := Lib.hid (below_size B5.out B6.out)
                have G6 := Lib.hid (GR4.out.below B56.out)
                have R6 := Lib.hid (RB.out.below B56.out)
                obtain ⟨b0, off, rfl, hb0, c0⟩ := R6.out.cellAt i hlt
                obtain ⟨x, hx⟩ : ∃ x, x = both.getD i ByteArray.empty := ⟨_, rfl⟩
                rw [← hx] at c0 HN
                have HX := Lib.hid hx
                by_cases hlt2 : k < both.length
                · have k1 : (k : Int) < both.length := by omega
                  have k2 : (0 : Int) ≤ k := by omega
                  obtain ⟨_, _, e0, _, d0⟩ := R6.out.cellAt k hlt2
                  obtain ⟨rfl, rfl⟩ : b0 = _ ∧ off = _ := by simpa using e0
                  clear e0
                  obtain ⟨y, hy⟩ : ∃ y, y = both.getD k ByteArray.empty := ⟨_, rfl⟩
                  rw [← hy] at d0
                  have HY := Lib.hid hy
                  clear hy hx
                  have hI := fun v : GrownW w6 => ris_any h n cap ad ns x y v.val (G6.out.below v.below) GD.out HP.out
                  cases nr with
                  | false =>
                    have HN2 : Hid (false = true ↔ ∀ j, j < k + 1 → j ≠ i → ancB ns x (both.getD j ByteArray.empty) = false) := Lib.hid ⟨(fun e => nomatch e), fun e => HN.out.2 (fun j hj => e j (by omega))⟩
                    clear hI
                    go_upto_region 18 with (fail)
                    refine wp_region_grow_fast (by kernel_rfl) (by kernel_rfl) ?_
                    repeat (go_big_quiet_step (first | fail))
                    refine wpQuiet_nil ?_
                    intro wg hw'
                    obtain ⟨⟨wz, hbg⟩, hw''⟩ := hw'
                    subst hw''
                    go_wp2_with fail
                    go_roundw
                    case rel => exact ⟨k + 1, false, rfl, by go_num, by omega, (by rw [← HX.out]; exact HN2), Lib.hid (below_size B6.out hbg)⟩
                    case measure => (simp [intOf] <;> omega)
                  | true =>
                    by_cases hik : i = k
                    · subst hik
                      have HN2 : Hid (true = true ↔ ∀ j, j < i + 1 → j ≠ i → ancB ns x (both.getD j ByteArray.empty) = false) := Lib.hid ⟨fun _ j hj hne => HN.out.1 rfl j (by omega) hne, fun _ => rfl⟩
                      clear hI
                      go_upto_region 18 with (fail)
                      refine wp_region_grow_fast (by kernel_rfl) (by kernel_rfl) ?_
                      repeat (go_big_quiet_step (first | fail))
                      refine wpQuiet_nil ?_
                      intro wg hw'
                      obtain ⟨⟨wz, hbg⟩, hw''⟩ := hw'
                      subst hw''
                      go_wp2_with fail
                      go_roundw
                      case rel => exact ⟨i + 1, true, rfl, by go_num, by omega, (by rw [← HX.out]; exact HN2), Lib.hid (below_size B6.out hbg)⟩
                      case measure => (simp [intOf] <;> omega)
                    · have hne : ¬ (i : Int) = k := by omega
                      have hd : decide ((i : Int) = k) = false := decide_eq_false hne
                      have hd2 : decide (i = k) = false := decide_eq_false hik
                      have hd3 : ((i : Int) == (k : Int)) = false := by simpa using hne
                      have hd4 : (i == k) = false := by simpa using hik
                      have HN2 : Hid ((!ancB ns x y) = true ↔ ∀ j, j < k + 1 → j ≠ i → ancB ns x (both.getD j ByteArray.empty) = false) := Lib.hid (by
                        have := near_step (P := fun j => j ≠ i → ancB ns x (both.getD j ByteArray.empty) = false) (c := !ancB ns x y) HN.out ⟨fun h _ => by rw [← HY.out]; simpa using h, fun h => by have := h (fun e => hik e.symm); rw [← HY.out] at this; rw [this]; rfl⟩
                        rw [Bool.true_and] at this
                        exact this)
                      generalize ancB ns x y = cc at *
                      go_upto_region 18 with (fail)
                      have f1 := fun v : GrownW w6 => v.cell hb0 c0
                      have f2 := fun v : GrownW w6 => v.cell hb0 d0
                      clear c0 d0
                      cases cc with
                      | false =>
                        refine wp_region_grow_fast (by kernel_rfl) (by kernel_rfl) ?_
                        repeat (go_big_quiet_step (first | (go_at_call 20; with_reducible exact grow_call (hI _))))
                        refine wpQuiet_nil ?_
                        intro wg hw'
                        obtain ⟨⟨wz, hbg⟩, hw''⟩ := hw'
                        subst hw''
                        clear f1 f2 hI
                        go_wp2_with fail
                        go_roundw
                        case rel => exact ⟨k + 1, true, rfl, by go_num, by omega, (by rw [← HX.out]; exact HN2), Lib.hid (below_size B6.out hbg)⟩
                        case measure => (simp [intOf] <;> omega)
                      | true =>
                        refine wp_region_grow_fast (by kernel_rfl) (by kernel_rfl) ?_
                        repeat (go_big_quiet_step (first | (go_at_call 20; with_reducible exact grow_call (hI _))))
                        refine wpQuiet_nil ?_
                        intro wg hw'
                        obtain ⟨⟨wz, hbg⟩, hw''⟩ := hw'
                        subst hw''
                        clear f1 f2 hI
                        go_wp2_with fail
                        go_roundw
                        case rel => exact ⟨k + 1, false, rfl, by go_num, by omega, (by rw [← HX.out]; exact HN2), Lib.hid (below_size B6.out hbg)⟩
                        case measure => (simp [intOf] <;> omega)
                · obtain rfl : k = both.length := by omega
                  have hnear := near_of HRI.out hlt (near := nr) (by rw [← HX.out]; exact HN.out)
                  rw [← HX.out] at hnear
                  have hxk : x ∈ keysOf ns := by
                    have hm := (HL.out.mem x).1 ((HBO.out x).1 (by rw [hx]; exact getDS_mem hlt)).1
                    exact hm.2.there GD.out hm.1
                  have HNR := Lib.hid hnear
                  clear hnear hx HN hlt2 hk
                  cases nr with
                  | false =>
                    have BO2 : Hid (BestOf ns both (nearL ns both) (i + 1) best found) := Lib.hid (BO.out.skip (by rw [← HX.out]; exact fun e => nomatch HNR.out.2 e))
                    go_upto_region 19 with (fail)
                    refine wp_region_grow_fast (by kernel_rfl) (by kernel_rfl) ?_
                    repeat (go_big_quiet_step (first | fail))
                    refine wpQuiet_nil ?_
                    intro wg hw'
                    obtain ⟨⟨wz, hbg⟩, hw''⟩ := hw'
                    subst hw''
                    go_wp2_with fail
                    go_roundw
                    case rel => exact ⟨i + 1, best, found, rfl, rfl, by go_num, by omega, BO2, Lib.hid (below_size B56.out hbg)⟩
                    case measure => (simp [intOf] <;> omega)
                  | true =>
                    have hm : both.getD i ByteArray.empty ∈ nearL ns both := by rw [← HX.out]; exact HNR.out.1 rfl
                    cases found with
                    | false =>
                      have BO2 : Hid (BestOf ns both (nearL ns both) (i + 1) x true) := Lib.hid (by rw [HX.out]; exact BO.out.take HRI.out hlt hm (fun e => nomatch e))
                      clear hm
                      go_upto_region 19 with (fail)
                      refine wp_region_grow_fast (by kernel_rfl) (by kernel_rfl) ?_
                      repeat (go_big_quiet_step (first | fail))
                      refine wpQuiet_nil ?_
                      intro wg hw'
                      obtain ⟨⟨wz, hbg⟩, hw''⟩ := hw'
                      subst hw''
                      have c9 := (hbg.cell (p := ⟨b0, off + i, Option.none⟩) hb0).trans c0
                      go_wp2_with fail
                      go_roundw
                      case rel => exact ⟨i + 1, x, true, rfl, rfl, by go_num, by omega, BO2, Lib.hid (below_size B56.out hbg)⟩
                      case measure => (simp [intOf] <;> omega)
                    | true =>
                      have hbk : best ∈ keysOf ns := by
                        have hm := (HL.out.mem best).1 ((HBO.out best).1 (BO.out.2 rfl).1).1
                        exact hm.2.there GD.out hm.1
                      obtain ⟨zx, hzx, hzxe, hcx⟩ := at_in2 h n cap ad ns x hxk
                      obtain ⟨zy, hzy, hzye, hcy⟩ := at_in2 h n cap ad ns best hbk
                      obtain ⟨bn, offn, rfl, hbn, hcs⟩ := G6.out.nd.cells (by have := G6.out.nd.len; omega)
                      have hnl := G6.out.nd.len
                      obtain ⟨_, _, _, _, x2, _⟩ := hcs zx (by omega)
                      obtain ⟨_, _, _, _, y2, _⟩ := hcs zy (by omega)
                      have hx3 : (ns.getD zx default).st = stOf ns x := by rw [hzxe]; rfl
                      have hy3 : (ns.getD zy default).st = stOf ns best := by rw [hzye]; rfl
                      rw [hx3] at x2; rw [hy3] at y2
                      have zx1 : (zx : Int) < n := by omega
                      have zx0 : (0 : Int) ≤ zx := by omega
                      have zy1 : (zy : Int) < n := by omega
                      have zy0 : (0 : Int) ≤ zy := by omega
                      have hIx := fun v : GrownW w6 => hcx v.val (G6.out.below v.below)
                      have hIy := fun v : GrownW w6 => hcy v.val (G6.out.below v.below)
                      have gc := G6.out.cell
                      have hgl := G6.out.lt
                      have HM9 := Lib.hid hm
                      clear hcs hx3 hy3 hzx hzxe hcx hzy hzye hcy hbk hnl hm
                      by_cases hlt2 : stOf ns best ≤ stOf ns x
                      · have BO2 : Hid (BestOf ns both (nearL ns both) (i + 1) x true) := Lib.hid (by rw [HX.out]; exact BO.out.take HRI.out hlt HM9.out (fun _ => by rw [← HX.out]; exact hlt2))
                        generalize stOf ns x = sx at *
                        generalize stOf ns best = sb at *
                        go_upto_region 19 with (fail)
                        have f1 := fun v : GrownW w6 => v.cell hgl gc
                        have f3 := fun v : GrownW w6 => v.cell hb0 c0
                        have f4 := fun v : GrownW w6 => v.cell hbn x2
                        have f5 := fun v : GrownW w6 => v.cell hbn y2
                        refine wp_region_grow_fast (by kernel_rfl) (by kernel_rfl) ?_
                        repeat (go_big_quiet_step (first | (go_at_call 29; first | with_reducible exact grow_call_same (hIx _) | with_reducible exact grow_call_same (hIy _))))
                        refine wpQuiet_nil ?_
                        intro wg hw'
                        obtain ⟨⟨wz, hbg⟩, hw''⟩ := hw'
                        subst hw''
                        have c9 := (hbg.cell (p := ⟨b0, off + i, Option.none⟩) hb0).trans c0
                        clear f1 f3 f4 f5 hIx hIy gc hgl x2 y2 c0
                        go_wp2_with fail
                        go_roundw
                        case rel => exact ⟨i + 1, x, true, rfl, rfl, by go_num, by omega, BO2, Lib.hid (below_size B56.out hbg)⟩
                        case measure => (simp [intOf] <;> omega)
                      · have BO2 : Hid (BestOf ns both (nearL ns both) (i + 1) best true) := Lib.hid (BO.out.keep (by rw [← HX.out]; omega))
                        generalize stOf ns x = sx at *
                        generalize stOf ns best = sb at *
                        go_upto_region 19 with (fail)
                        have f1 := fun v : GrownW w6 => v.cell hgl gc
                        have f3 := fun v : GrownW w6 => v.cell hb0 c0
                        have f4 := fun v : GrownW w6 => v.cell hbn x2
                        have f5 := fun v : GrownW w6 => v.cell hbn y2
                        refine wp_region_grow_fast (by kernel_rfl) (by kernel_rfl) ?_
                        repeat (go_big_quiet_step (first | (go_at_call 29; first | with_reducible exact grow_call_same (hIx _) | with_reducible exact grow_call_same (hIy _))))
                        refine wpQuiet_nil ?_
                        intro wg hw'
                        obtain ⟨⟨wz, hbg⟩, hw''⟩ := hw'
                        subst hw''
                        clear f1 f3 f4 f5 hIx hIy gc hgl x2 y2 c0
                        go_wp2_with fail
                        go_roundw
                        case rel => exact ⟨i + 1, best, true, rfl, rfl, by go_num, by omega, BO2, Lib.hid (below_size B56.out hbg)⟩
                        case measure => (simp [intOf] <;> omega)
            · obtain rfl : i = both.length := by omega
              have BI := Lib.hid (BO.out.near GD.out HL.out HM.out HA.out HB.out HBO.out)
              have BX := Lib.hid (below_size BW.out B5.out)
              cases found with
              | false =>
                go_wp2_with fail
                go_ret2
                have hbe := (BO.out.1 rfl).1
                subst hbe
                exact ⟨_, _, rfl, BI.out, BX.out⟩
              | true =>
                go_wp2_with fail
                go_ret2
                exact ⟨_, _, rfl, BI.out, BX.out⟩
    · rw [decide_eq_false hinb]
      have HB := Lib.hid hinb
      clear hinb
      go_wp2_with fail
      go_ret2
      exact ⟨_, _, rfl, .inl ⟨fun h => HB.out h.2, rfl, rfl⟩, Below.refl _ _⟩
  · rw [decide_eq_false hina]
    have HA := Lib.hid hina
    clear hina
    go_wp2_with fail
    go_ret2
    exact ⟨_, _, rfl, .inl ⟨fun h => HA.out h.1, rfl, rfl⟩, Below.refl _ _⟩
end Go.Proofs.Ytdjbmjkfpmchgaa
