/-
  The walk of the statement WordGaps.
-/
import Derived.Test.YtmajdgmbcgkelaaDoorWordFirst
import Derived.Test.YtmajdgmbcgkelaaDoorWordGapsP
import Derived.Test.YtmajdgmbcgkelaaDoorOpenStrs
namespace Go.Proofs.YtmajdgmbcgkelaaDoor
open Go.RowKit
open Go.Lib (decodeL validD encodeRune decodeL_width)

theorem mkS_list (l : List UInt8) : (mkS l).data.toList = l := by simp [mkS]
theorem mkS_size (l : List UInt8) : (mkS l).size = l.length := by rw [Lib.size_eq, mkS_list]
theorem mkS_of (s : ByteArray) : mkS s.data.toList = s := by cases s; simp [mkS]
theorem getD_at (l : List UInt8) (k : Nat) (h : k < l.length) : l.getD k 0 = l[k] := by
  rw [List.getD_eq_getElem?_getD, List.getElem?_eq_getElem h]; rfl
theorem byteAt_getD (s : ByteArray) (k : Nat) (hk : k < s.size) : byteAt s k = ((s.data.toList.getD k 0).toNat : Int) := by
  have hl : k < s.data.toList.length := by rw [← Lib.size_eq]; exact hk
  rw [head_byte s k hk, List.drop_eq_getElem_cons hl, List.headD_cons, getD_at _ k hl]
theorem mkS_app (a b : List UInt8) : mkS a ++ mkS b = mkS (a ++ b) := str_app a b
theorem getD_listA {α : Type} (d : α) (xs : List α) (i : Nat) (h : i < xs.length) : xs.getD i d ∈ xs := by
  have : xs.getD i d = xs[i] := by simp [List.getD, h]
  rw [this]; exact List.getElem_mem h

set_option maxRecDepth 100000 in
theorem gaps_early (a : Option Addr) (n cap : Nat) (gap : Int) (w : World) (hT : Tabs w) (hn : (n : Int) ≤ 9223372036854775807) (h : gap < 1 ∨ 20 < gap ∨ 40 < n) :
    Calls Tryd.prog 8 #[.slice a n cap, .int .i64 gap] w fun e w' => e = .returned (.bool true) ∧ Below w.heap.size w w' := by
  by_cases h1 : gap < 1
  · clear h
    go_enter Tryd.func8, Tryd.ntmps8
    go_wp2_with fail
    refine (first_any w hT).mono ?_; rintro e w1 ⟨rfl, hb1⟩
    go_wp2_with fail
    refine (first_any w1 (hT.below hb1)).mono ?_; rintro e w2 ⟨rfl, hb2⟩
    go_wp2_with fail
    go_ret
    exact ⟨rfl, below_size hb1 hb2⟩
  · by_cases h2 : 20 < gap
    · clear h
      go_enter Tryd.func8, Tryd.ntmps8
      go_wp2_with fail
      refine (first_any w hT).mono ?_; rintro e w1 ⟨rfl, hb1⟩
      go_wp2_with fail
      refine (first_any w1 (hT.below hb1)).mono ?_; rintro e w2 ⟨rfl, hb2⟩
      go_wp2_with fail
      go_ret
      exact ⟨rfl, below_size hb1 hb2⟩
    · have h3 : (40 : Int) < n := by omega
      clear h
      go_enter Tryd.func8, Tryd.ntmps8
      go_wp2_with fail
      refine (first_any w hT).mono ?_; rintro e w1 ⟨rfl, hb1⟩
      go_wp2_with fail
      refine (first_any w1 (hT.below hb1)).mono ?_; rintro e w2 ⟨rfl, hb2⟩
      go_wp2_with fail
      go_ret
      exact ⟨rfl, below_size hb1 hb2⟩

set_option maxRecDepth 100000 in
set_option maxHeartbeats 4000000 in
theorem gaps_good (a : Option Addr) (n cap : Nat) (ms : List ByteArray) (g : Nat) (w : World) (hT : Tabs w) (hr : Strs w a n cap ms) (hn : n ≤ 40) (hg1 : 1 ≤ g) (hg2 : g ≤ 20) (hsz : ∀ s ∈ ms, s.size ≤ maxLen) :
    Calls Tryd.prog 8 #[.slice a n cap, .int .i64 (g : Nat)] w fun e w' => e = .returned (.bool true) ∧ Below w.heap.size w w' := by
  have k1 : ¬ (g : Int) < 1 := by omega
  have k2 : ¬ (20 : Int) < g := by omega
  have k3 : ¬ (40 : Int) < n := by omega
  have HR := Lib.hid hr
  have HM := Lib.hid hr.len
  have HN := Lib.hid hn
  have HG := Lib.hid (show 1 ≤ g ∧ g ≤ 20 from ⟨hg1, hg2⟩)
  have HT := Lib.hid hT
  have HZ := Lib.hid hsz
  clear hr hn hg1 hg2 hT hsz
  go_enter Tryd.func8, Tryd.ntmps8
  go_wp2_with fail
  refine (first_any w HT.out).mono ?_; rintro e w1 ⟨rfl, hb1⟩
  have HB1 := Lib.hid hb1
  clear hb1
  go_wp2_with fail
  go_loopw [5, 7] (fun vb vi wr => ∃ i : Nat, vi = .int .i64 i ∧ vb = .string (mkS (List.replicate i 32)) ∧ wr = w1 ∧ Hid (i ≤ g)) (fun _ vi _ => g - (intOf vi).toNat)
  case atStart => exact ⟨0, rfl, rfl, rfl, Lib.hid (Nat.zero_le _)⟩
  case round =>
    obtain ⟨i, rfl, rfl, rfl, HI⟩ := hrel
    by_cases hi : i < g
    · have hi' : (i : Int) < g := by omega
      have hsz : ((mkS (List.replicate i 32)).size : Int) ≤ 20 := by rw [mkS_size, List.length_replicate]; have := HG.out; omega
      have hap : mkS (List.replicate i 32) ++ ⟨#[32]⟩ = mkS (List.replicate (i + 1) 32) := by
        have : (⟨#[32]⟩ : ByteArray) = mkS [32] := rfl
        rw [this, mkS_app, ← List.replicate_succ']
      have q1 := Lib.hid (show i + 1 ≤ g by omega)
      have q2 := Lib.hid (show g - (i + 1) < g - i by omega)
      have hi64 : (i : Int) + 1 ≤ 9223372036854775807 := by have := HG.out; omega
      have HAP := Lib.hid hap
      clear hi hap
      go_wp2
      go_roundw
      case rel => exact ⟨i + 1, by simp, by rw [HAP.out], trivial, q1⟩
      case measure =>
        have e1 : ((i : Int) + 1).toNat = i + 1 := by omega
        simp only [intOf, e1, Int.toNat_natCast]
        exact q2.out
    · have hi' : ¬ (i : Int) < g := by omega
      obtain rfl : i = g := by have := HI.out; omega
      clear hi HI
      have hbl : (mkS (List.replicate i 32)).size = i := by rw [mkS_size, List.length_replicate]
      have HBL := Lib.hid hbl
      clear hbl
      obtain ⟨bl, hbl⟩ : ∃ bl, mkS (List.replicate i 32) = bl := ⟨_, rfl⟩
      rw [hbl] at HBL ⊢
      have HBE := Lib.hid hbl
      clear hbl
      go_wp2_with fail
      go_loopw [6, 8] (fun vl vj wr => ∃ (j : Nat) (ws : List (List UInt8)), vj = .int .i64 j ∧ vl = .string (mkS (lineG i ws)) ∧ Hid (j ≤ n) ∧ Hid (ws.length = j) ∧ Hid (∀ x ∈ ws, wordG x) ∧ Hid (ms.take j = ws.map mkS) ∧ Hid (Below w.heap.size w wr)) (fun _ vj _ => n - (intOf vj).toNat)
      case atStart => exact ⟨0, [], rfl, rfl, Lib.hid (Nat.zero_le _), Lib.hid rfl, Lib.hid (fun x hx => nomatch hx), Lib.hid (by simp), HB1⟩
      case round =>
        obtain ⟨j, ws, rfl, rfl, HJ, HW, HG2, HTK, HB⟩ := hrel
        by_cases hj : j < n
        · have hj' : (j : Int) < n := by omega
          obtain ⟨b, off, rfl, hc⟩ := (HR.out.below HB.out).cellAt j hj
          have hj0 : (0 : Int) ≤ j := by omega
          have hmem := getD_listA ByteArray.empty ms j (by rw [HM.out]; exact hj)
          have htk := take_getDA ByteArray.empty ms j (by rw [HM.out]; exact hj)
          have hsm := HZ.out _ hmem
          obtain ⟨s, hs⟩ : ∃ s, ms.getD j ByteArray.empty = s := ⟨_, rfl⟩
          rw [hs] at hc htk hsm
          have HTK2 := Lib.hid htk
          have hs63 : (s.size : Int) ≤ 9223372036854775807 := by unfold maxLen at hsm; omega
          have cF := first_any _ (HT.out.below HB.out)
          have hj64 : (j : Int) + 1 ≤ 9223372036854775807 := by have := HN.out; omega
          have q1 := Lib.hid (show j + 1 ≤ n by omega)
          have q2 := Lib.hid (show n - (j + 1) < n - j by omega)
          have hlenL := lineG_len i ws HG2.out
          have hls : (mkS (lineG i ws)).size ≤ 2800 := by
            rw [mkS_size]
            have h1 := HG.out.2; have h2 := HW.out; have h3 := HN.out; have h4 := HJ.out
            have : (50 + i) * ws.length ≤ 70 * 40 := Nat.mul_le_mul (by omega) (by omega)
            omega
          have HLS := Lib.hid hls
          clear hmem htk hsm hs hj hlenL hls
          by_cases hz : s.size < 1 ∨ 50 < s.size
          · by_cases hz1 : (s.size : Int) < 1
            · clear hz
              go_wp2_with fail
              refine cF.mono ?_; rintro e w2 ⟨rfl, hb2⟩
              have hB2 := below_size HB.out hb2
              go_wp2_with fail
              go_ret
              exact ⟨rfl, hB2⟩
            · have hz2 : (50 : Int) < s.size := by omega
              clear hz
              go_wp2_with fail
              refine cF.mono ?_; rintro e w2 ⟨rfl, hb2⟩
              have hB2 := below_size HB.out hb2
              go_wp2_with fail
              go_ret
              exact ⟨rfl, hB2⟩
          · have hz1 : ¬ (s.size : Int) < 1 := by omega
            have hz2 : ¬ (50 : Int) < s.size := by omega
            clear hz hs63
            go_wp2_with fail
            go_loopw [9] (fun vk wk => ∃ k : Nat, vk = .int .i64 k ∧ wk = wr ∧ Hid (k ≤ s.size) ∧ Hid (∀ q, q < k → wordB (s.data.toList.getD q 0))) (fun vk _ => s.size - (intOf vk).toNat)
            case atStart => exact ⟨0, rfl, rfl, Lib.hid (Nat.zero_le _), Lib.hid (fun q hq => absurd hq (Nat.not_lt_zero _))⟩
            case round =>
              obtain ⟨k, rfl, rfl, HK, HKB⟩ := hrel
              by_cases hk : k < s.size
              · have hk' : (k : Int) < s.size := by omega
                have ki := fun (w : World) => run_index_str (P := Tryd.prog) 9 Tryd.underlying9 s (k : Int) k rfl hk w
                have hbv := byteAt_getD s k hk
                rw [hbv] at ki
                have hbd := UInt8.toNat_lt (s.data.toList.getD k 0)
                have q3 := Lib.hid (show k + 1 ≤ s.size by omega)
                have q4 := Lib.hid (show s.size - (k + 1) < s.size - k by omega)
                have hk64 : (k : Int) + 1 ≤ 9223372036854775807 := by omega
                have HKB2 : (wordB (s.data.toList.getD k 0)) → ∀ q, q < k + 1 → wordB (s.data.toList.getD q 0) := fun h q hq => by
                  rcases Nat.lt_or_ge q k with h1 | h1
                  · exact HKB.out q h1
                  · obtain rfl : q = k := by omega
                    exact h
                have HKB3 := Lib.hid HKB2
                clear HKB2 hbv
                obtain ⟨x, hx⟩ : ∃ x : Nat, (s.data.toList.getD k 0).toNat = x := ⟨_, rfl⟩
                have HX := Lib.hid hx
                rw [hx] at ki hbd
                clear hx hk
                by_cases x32 : (x : Int) ≤ 32
                · go_wp2_with fail
                  refine cF.mono ?_; rintro e w2 ⟨rfl, hb2⟩
                  have hB2 := below_size HB.out hb2
                  go_wp2_with fail
                  go_ret
                  exact ⟨rfl, hB2⟩
                · by_cases x126 : (126 : Int) < x
                  · go_wp2_with fail
                    refine cF.mono ?_; rintro e w2 ⟨rfl, hb2⟩
                    have hB2 := below_size HB.out hb2
                    go_wp2_with fail
                    go_ret
                    exact ⟨rfl, hB2⟩
                  · by_cases x34 : x = 34
                    · subst x34
                      go_wp2_with fail
                      refine cF.mono ?_; rintro e w2 ⟨rfl, hb2⟩
                      have hB2 := below_size HB.out hb2
                      go_wp2_with fail
                      go_ret
                      exact ⟨rfl, hB2⟩
                    · have k34 : ((x : Int) == 34) = false := by simp; omega
                      have q5 := Lib.hid (HKB3.out (by unfold wordB; rw [HX.out]; omega))
                      clear x34 cF
                      go_wp2
                      go_roundw
                      case rel => exact ⟨k + 1, by simp, trivial, q3, q5⟩
                      case measure =>
                        have e1 : ((k : Int) + 1).toNat = k + 1 := by omega
                        simp only [intOf, e1, Int.toNat_natCast]
                        exact q4.out
              · have hk' : ¬ (k : Int) < s.size := by omega
                have hke : k = s.size := by have := HK.out; omega
                have hwg : wordG s.data.toList := by
                  refine ⟨by rw [← Lib.size_eq]; omega, by rw [← Lib.size_eq]; omega, fun y hy => ?_⟩
                  obtain ⟨q, hq, rfl⟩ := List.mem_iff_getElem.1 hy
                  have := HKB.out q (by rw [hke, Lib.size_eq]; exact hq)
                  rw [getD_at _ q hq] at this
                  exact this
                have hcat : mkS (lineG i ws) ++ (s ++ bl) = mkS (lineG i (ws ++ [s.data.toList])) := by
                  have e1 : s = mkS s.data.toList := by cases s; simp [mkS]
                  have e2 : bl = mkS (List.replicate i 32) := HBE.out.symm
                  conv => lhs; rw [e1, e2]
                  rw [mkS_app, mkS_app, lineG_snoc]
                have HC := Lib.hid hcat
                have q5 : Hid (∀ x ∈ ws ++ [s.data.toList], wordG x) := Lib.hid (fun x hx => by
                  rcases List.mem_append.1 hx with h | h
                  · exact HG2.out x h
                  · obtain rfl : x = s.data.toList := by simpa using h
                    exact hwg)
                have q6 : Hid (ms.take (j + 1) = (ws ++ [s.data.toList]).map mkS) := Lib.hid (by
                  have e1 : mkS s.data.toList = s := by cases s; simp [mkS]
                  rw [HTK2.out, HTK.out, List.map_append, List.map_cons, List.map_nil, e1])
                have q7 : Hid ((ws ++ [s.data.toList]).length = j + 1) := Lib.hid (by simp [HW.out])
                have hs50 : (s.size : Int) ≤ 50 := by omega
                have hb20 : (bl.size : Int) ≤ 20 := by rw [HBL.out]; have := HG.out; omega
                have hl28 : ((mkS (lineG i ws)).size : Int) ≤ 2800 := by have := HLS.out; omega
                clear hwg hcat hke hk HK HKB cF
                go_wp2
                go_roundw
                case rel => exact ⟨j + 1, ws ++ [s.data.toList], by simp, by rw [HC.out], q1, q7, q5, q6, HB⟩
                case measure =>
                  have e1 : ((j : Int) + 1).toNat = j + 1 := by omega
                  simp only [intOf, e1, Int.toNat_natCast]
                  exact q2.out
        · have hj' : ¬ (j : Int) < n := by omega
          have hje : j = n := by have := HJ.out; omega
          have htk := HTK.out
          rw [hje, List.take_of_length_le (by rw [HM.out]; exact Nat.le_refl _)] at htk
          have hwl : ws.length ≤ 40 := by have := HW.out; have := HN.out; omega
          have hlenL := lineG_len i ws HG2.out
          have h70 : (50 + i) * ws.length ≤ 70 * 40 := Nat.mul_le_mul (by have := HG.out; omega) hwl
          have hls : (mkS (lineG i ws)).size ≤ 2800 := by rw [mkS_size]; omega
          have cW := fun (w1 : World) (h : Tabs w1) => words_any (mkS (lineG i ws)) w1 (by omega) h
          simp only [mkS_list, gaps_words i HG.out.1 ws HG2.out hwl, ansWs] at cW
          have hap : mkS (lineG i ws) ++ ⟨#[97, 34, 98, 34]⟩ = mkS (lineG i ws ++ [97, 34, 98, 34]) := mkS_app (lineG i ws) [97, 34, 98, 34]
          have hsz2 : (mkS (lineG i ws ++ [97, 34, 98, 34])).size = (mkS (lineG i ws)).size + 4 := by rw [mkS_size, mkS_size]; simp
          have cB := fun (w1 : World) (h : Tabs w1) => words_any (mkS (lineG i ws ++ [97, 34, 98, 34])) w1 (by omega) h
          have hlen3 : (mkS (lineG i ws ++ [97, 34, 98, 34])).size - ([34, 98, 34] : List UInt8).length = (mkS (lineG i ws)).size + 1 := by rw [hsz2]; simp
          simp only [mkS_list, gaps_bad i HG.out.1 ws HG2.out hwl, ansWs, hlen3] at cB
          have HAP := Lib.hid hap
          generalize mkS (lineG i ws ++ [97, 34, 98, 34]) = ls2 at *
          generalize mkS (lineG i ws) = ls at *
          have hls' : (ls.size : Int) ≤ 2800 := by omega
          have HTK3 := Lib.hid htk
          clear hap hsz2 hlen3 hls h70 hlenL hwl htk hje hj HTK HJ HW
          go_wp2_with fail
          refine (cW _ (HT.out.below HB.out)).mono ?_; rintro e w4 ⟨⟨a4, cap4, rfl, ho⟩, hb4⟩
          have hS := owns_strs ho
          rw [← HTK3.out] at hS
          have HB4 := Lib.hid (below_size HB.out hb4)
          clear ho hb4 cW
          go_wp2_with fail
          rw [HAP.out]
          refine (cB _ (HT.out.below HB4.out)).mono ?_; rintro e w5 ⟨rfl, hb5⟩
          have HB5 := Lib.hid (below_size HB4.out hb5)
          have hS5 := hS.below hb5
          clear hb5 cB hS
          go_wp2_with fail
          refine (first_any _ (HT.out.below HB5.out)).mono ?_; rintro e w6 ⟨rfl, hb6⟩
          have HB6 := Lib.hid (below_size HB5.out hb6)
          have hS6 := hS5.below hb6
          clear hb6 hS5
          go_wp2_with fail
          refine (texts_any _ _ _ _ _ _ _ _ _ hS6 (HR.out.below HB6.out)).mono ?_; rintro e w7 ⟨rfl, hb7⟩
          rw [decide_eq_true rfl]
          have hB7 := below_size HB6.out hb7
          clear hS6 hb7
          go_wp2_with fail
          go_ret
          exact ⟨rfl, hB7⟩

theorem walk_WordGaps (a : Option Addr) (n cap : Nat) (ms : List ByteArray) (gap : Int) (w : World) (hT : Tabs w) (hr : Strs w a n cap ms) (hsz : ∀ s ∈ ms, s.size ≤ maxLen) (hg : -9223372036854775808 ≤ gap ∧ gap ≤ 9223372036854775807) :
    Calls Tryd.prog 8 #[.slice a n cap, .int .i64 gap] w fun e w' => e = .returned (.bool true) ∧ Below w.heap.size w w' := by
  have hn := hr.n63.1
  by_cases h : gap < 1 ∨ 20 < gap ∨ 40 < n
  · exact gaps_early a n cap gap w hT (by omega) h
  · obtain ⟨g, rfl⟩ := Int.eq_ofNat_of_zero_le (show 0 ≤ gap by omega)
    exact gaps_good a n cap ms g w hT hr (by omega) (by omega) (by omega) hsz
end Go.Proofs.YtmajdgmbcgkelaaDoor
