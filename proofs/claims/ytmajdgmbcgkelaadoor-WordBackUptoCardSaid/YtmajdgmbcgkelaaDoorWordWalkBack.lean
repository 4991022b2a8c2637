/-
  The walk of the statement WordBack, for texts of at most 1048576 bytes each.
-/
import Derived.Test.YtmajdgmbcgkelaaDoorWordFirst
import Derived.Test.YtmajdgmbcgkelaaDoorWordBackP
import Derived.Test.YtmajdgmbcgkelaaDoorOpenStrsU
namespace Go.Proofs.YtmajdgmbcgkelaaDoor
open Go.RowKit
open Go.Lib (decodeL validD encodeRune decodeL_width)

theorem mkS_list (l : List UInt8) : (mkS l).data.toList = l := by simp [mkS]
theorem mkS_size (l : List UInt8) : (mkS l).size = l.length := by rw [Lib.size_eq, mkS_list]
theorem mkS_of (s : ByteArray) : mkS s.data.toList = s := by cases s; simp [mkS]
theorem mkS_app (a b : List UInt8) : mkS a ++ mkS b = mkS (a ++ b) := str_app a b
theorem getD_listA {α : Type} (d : α) (xs : List α) (i : Nat) (h : i < xs.length) : xs.getD i d ∈ xs := by
  have : xs.getD i d = xs[i] := by simp [List.getD, h]
  rw [this]; exact List.getElem_mem h

set_option maxRecDepth 100000 in
theorem back_early (a : Option Addr) (n cap : Nat) (gap : Int) (w : World) (hT : Tabs w) (hn : (n : Int) ≤ 9223372036854775807) (h : 60 < n ∨ gap < 1 ∨ 20 < gap) :
    Calls Tryd.prog 5 #[.slice a n cap, .int .i64 gap] w fun e w' => e = .returned (.bool true) ∧ Below w.heap.size w w' := by
  by_cases h1 : (60 : Int) < n
  · clear h
    go_enter Tryd.func5, Tryd.ntmps5
    go_wp2_with fail
    refine (first_any w hT).mono ?_; rintro e w1 ⟨rfl, hb1⟩
    go_wp2_with fail
    refine (first_any w1 (hT.below hb1)).mono ?_; rintro e w2 ⟨rfl, hb2⟩
    go_wp2_with fail
    go_ret
    exact ⟨rfl, below_size hb1 hb2⟩
  · by_cases h2 : gap < 1
    · clear h
      go_enter Tryd.func5, Tryd.ntmps5
      go_wp2_with fail
      refine (first_any w hT).mono ?_; rintro e w1 ⟨rfl, hb1⟩
      go_wp2_with fail
      refine (first_any w1 (hT.below hb1)).mono ?_; rintro e w2 ⟨rfl, hb2⟩
      go_wp2_with fail
      go_ret
      exact ⟨rfl, below_size hb1 hb2⟩
    · have h3 : 20 < gap := by omega
      clear h
      go_enter Tryd.func5, Tryd.ntmps5
      go_wp2_with fail
      refine (first_any w hT).mono ?_; rintro e w1 ⟨rfl, hb1⟩
      go_wp2_with fail
      refine (first_any w1 (hT.below hb1)).mono ?_; rintro e w2 ⟨rfl, hb2⟩
      go_wp2_with fail
      go_ret
      exact ⟨rfl, below_size hb1 hb2⟩

/-- How long the line may be: n as the statement counts, T the bytes of the texts so far. -/
def Few (LL i n : Nat) : Prop := ∃ T, LL ≤ 22 * i + 6 * T ∧ (n < 5000 → T ≤ n) ∧ T ≤ 1048576 ∧ n ≤ 5000
theorem Few.more {LL i n z g : Nat} (h : Few LL i n) (L2 : Nat) (h2 : L2 ≤ LL + (g + (6 * z + 2))) (hg : g ≤ 20) (hz : z ≤ 1048576) (n2 : Nat) (hn : n2 ≤ 5000) (hc : (z ≤ 5000 ∧ n2 = n + z) ∨ (5000 < z ∧ n2 = n + 5000)) : Few L2 (i + 1) n2 := by
  obtain ⟨T, a, b, c, d⟩ := h
  by_cases hz0 : z = 0
  · exact ⟨T, by omega, fun h => by have := b (by omega); omega, c, hn⟩
  · have hT : T ≤ n := by
      by_cases h5 : n < 5000
      · exact b h5
      · omega
    exact ⟨T + z, by omega, fun h => by omega, by omega, hn⟩
theorem Few.top {LL i n : Nat} (h : Few LL i n) (hi : i ≤ 60) : LL ≤ 6400000 := by
  obtain ⟨T, a, _, c, _⟩ := h
  omega

set_option maxRecDepth 100000 in
set_option maxHeartbeats 4000000 in
theorem back_good (a : Option Addr) (n cap : Nat) (ms : List ByteArray) (g : Nat) (w : World) (hT : Tabs w) (hr : Strs w a n cap ms) (hn : n ≤ 60) (hg1 : 1 ≤ g) (hg2 : g ≤ 20) (hsz : ∀ s ∈ ms, s.size ≤ 1048576) :
    Calls Tryd.prog 5 #[.slice a n cap, .int .i64 (g : Nat)] w fun e w' => e = .returned (.bool true) ∧ Below w.heap.size w w' := by
  have k1 : ¬ (g : Int) < 1 := by omega
  have k2 : ¬ (20 : Int) < g := by omega
  have k3 : ¬ (60 : Int) < n := by omega
  have HR := Lib.hid hr
  have HM := Lib.hid hr.len
  have HN := Lib.hid hn
  have HG := Lib.hid (show 1 ≤ g ∧ g ≤ 20 from ⟨hg1, hg2⟩)
  have HT := Lib.hid hT
  have HZ := Lib.hid hsz
  clear hr hn hg1 hg2 hT hsz
  go_enter Tryd.func5, Tryd.ntmps5
  go_wp2_with fail
  refine (first_any w HT.out).mono ?_; rintro e w1 ⟨rfl, hb1⟩
  have HB1 := Lib.hid hb1
  clear hb1
  go_wp2_with fail
  go_loopw [5, 7] (fun vb vi wr => ∃ i : Nat, vi = .int .i64 i ∧ vb = .string (mkS (List.replicate i 32)) ∧ wr = w1 ∧ Hid (i ≤ g)) (fun _ vi _ => g - (intOf vi).toNat)
  case atStart => exact ⟨0, rfl, rfl, rfl, Lib.hid (Nat.zero_le _)⟩
  case round =>
    obtain ⟨i, rfl, rfl, rfl, HI⟩ := hrel
    by_cases hi : i < g
    · have hi' : (i : Int) < g := by omega
      have hsz : ((mkS (List.replicate i 32)).size : Int) ≤ 20 := by rw [mkS_size, List.length_replicate]; have := HG.out; omega
      have hap : mkS (List.replicate i 32) ++ ⟨#[32]⟩ = mkS (List.replicate (i + 1) 32) := by
        have : (⟨#[32]⟩ : ByteArray) = mkS [32] := rfl
        rw [this, mkS_app, ← List.replicate_succ']
      have q1 := Lib.hid (show i + 1 ≤ g by omega)
      have q2 := Lib.hid (show g - (i + 1) < g - i by omega)
      have hi64 : (i : Int) + 1 ≤ 9223372036854775807 := by have := HG.out; omega
      have HAP := Lib.hid hap
      clear hi hap
      go_wp2
      go_roundw
      case rel => exact ⟨i + 1, by simp, by rw [HAP.out], trivial, q1⟩
      case measure =>
        have e1 : ((i : Int) + 1).toNat = i + 1 := by omega
        simp only [intOf, e1, Int.toNat_natCast]
        exact q2.out
    · have hi' : ¬ (i : Int) < g := by omega
      obtain rfl : i = g := by have := HI.out; omega
      clear hi HI
      have hbl : (mkS (List.replicate i 32)).size = i := by rw [mkS_size, List.length_replicate]
      have HBL := Lib.hid hbl
      clear hbl
      obtain ⟨bl, hbl⟩ : ∃ bl, mkS (List.replicate i 32) = bl := ⟨_, rfl⟩
      rw [hbl] at HBL ⊢
      have HBE := Lib.hid hbl
      clear hbl
      go_wp2_with fail
      go_loopw [6, 8, 9] (fun vl vn vj wr => ∃ (j m : Nat) (tss : List (List Nat)), vj = .int .i64 j ∧ vn = .int .i64 m ∧ vl = .string (mkS (lineQ i tss)) ∧ Hid (j ≤ n) ∧ Hid (tss.length = j) ∧ Hid (∀ x ∈ tss, ∀ r ∈ x, okR r) ∧ Hid (ms.take j = tss.map fun x => mkS (enc x)) ∧ Hid (Below w.heap.size w wr) ∧ Hid (Few (lineQ i tss).length j m)) (fun _ _ vj _ => n - (intOf vj).toNat)
      case atStart => exact ⟨0, 0, [], rfl, rfl, rfl, Lib.hid (Nat.zero_le _), Lib.hid rfl, Lib.hid (fun x hx => nomatch hx), Lib.hid (by simp), HB1, Lib.hid ⟨0, by simp [lineQ], fun _ => Nat.le_refl _, by omega, by omega⟩⟩
      case round =>
        obtain ⟨j, m, tss, rfl, rfl, rfl, HJ, HW, HG2, HTK, HB, HF⟩ := hrel
        by_cases hj : j < n
        · have hj' : (j : Int) < n := by omega
          obtain ⟨b, off, rfl, hc⟩ := (HR.out.below HB.out).cellAt j hj
          have hj0 : (0 : Int) ≤ j := by omega
          have hmem := getD_listA ByteArray.empty ms j (by rw [HM.out]; exact hj)
          have htk := take_getDA ByteArray.empty ms j (by rw [HM.out]; exact hj)
          have hsm := HZ.out _ hmem
          obtain ⟨s, hs⟩ : ∃ s, ms.getD j ByteArray.empty = s := ⟨_, rfl⟩
          rw [hs] at hc htk hsm
          have HTK2 := Lib.hid htk
          have HSM := Lib.hid hsm
          have hm5 : m ≤ 5000 := HF.out.choose_spec.2.2.2
          have cF := fun (w1 : World) (h : Tabs w1) => first_any w1 h
          have hj64 : (j : Int) + 1 ≤ 9223372036854775807 := by have := HN.out; omega
          have q1 := Lib.hid (show j + 1 ≤ n by omega)
          have q2 := Lib.hid (show n - (j + 1) < n - j by omega)
          -- the count that the statement keeps
          obtain ⟨m2, hm2, hmc⟩ : ∃ m2 : Nat, (∀ x y : Int, x = min (s.size : Int) 5000 → y = min ((m : Int) + x) 20000 → y = m2) ∧ ((s.size ≤ 5000 ∧ m2 = m + s.size) ∨ (5000 < s.size ∧ m2 = m + 5000)) := by
            by_cases hz : s.size ≤ 5000
            · exact ⟨m + s.size, fun x y hx hy => by omega, .inl ⟨hz, rfl⟩⟩
            · exact ⟨m + 5000, fun x y hx hy => by omega, .inr ⟨by omega, rfl⟩⟩
          have e1 := hm2 _ _ rfl rfl
          have hw1 : (m : Int) + min (s.size : Int) 5000 ≤ 9223372036854775807 := by omega
          have hw0 : -9223372036854775808 ≤ (m : Int) + min (s.size : Int) 5000 := by omega
          have HMC := Lib.hid hmc
          have hs1 : (s.size : Int) ≤ 1048576 := by omega
          clear hmem htk hsm hs hj hm2 hmc
          by_cases hbig : (5000 : Int) < m2
          · go_wp2_with fail
            refine (cF _ (HT.out.below HB.out)).mono ?_; rintro e w2 ⟨rfl, hb2⟩
            have hB2 := below_size HB.out hb2
            go_wp2_with fail
            go_ret
            exact ⟨rfl, hB2⟩
          · have cQ := fun (w1 : World) (h : Tabs w1) => quote_any s w1 (by have := HSM.out; omega) h
            have cC := fun (w1 : World) (h : Tabs w1) => count_any s w1 (by have := HSM.out; omega) h
            cases hv : validD s.data.toList with
            | false =>
              simp only [hv, Bool.false_eq_true, false_and, false_or, true_and] at cQ cC
              clear hv
              go_wp2_with fail
              refine (cQ _ (HT.out.below HB.out)).mono ?_; rintro e w2 ⟨rfl, hb2⟩
              have hc2 : w2.cell? ⟨b, off + j, Option.none⟩ = some (.string s) := (hb2.cell (p := ⟨b, off + j, Option.none⟩) hc.1).trans hc.2
              have HB2 := Lib.hid (below_size HB.out hb2)
              clear hc hb2 cQ
              go_wp2_with fail
              refine (cC _ (HT.out.below HB2.out)).mono ?_; rintro e w3 ⟨rfl, hb3⟩
              have hB3 := below_size HB2.out hb3
              clear hc2 hb3 cC
              go_wp2_with fail
              refine (cF _ (HT.out.below hB3)).mono ?_; rintro e w4 ⟨rfl, hb4⟩
              go_wp2_with fail
              go_ret
              exact ⟨rfl, below_size hB3 hb4⟩
            | true =>
              obtain ⟨rs, hok, hL⟩ := signs_of _ hv
              have hrr : runes s.data.toList = rs := by rw [hL]; exact runes_enc rs hok
              simp only [hv, hrr, Bool.true_eq_false, false_and, or_false, true_and] at cQ cC
              have cQ' : ∀ w1, Tabs w1 → Calls Tryd.prog 13 #[.string s] w1 fun e w' => e = .returned (.tuple #[.string (mkS (quoteL rs)), .int .i64 0]) ∧ Below w1.heap.size w1 w' := cQ
              have hlen : (enc rs).length = s.size := by rw [← hL, Lib.size_eq]
              have hbd := bodyL_len rs
              have hel := enc_len rs
              have hqs : (mkS (quoteL rs)).size ≤ 6 * s.size + 2 := by rw [mkS_size, quoteL_len]; omega
              have hcat : mkS (lineQ i tss) ++ (bl ++ mkS (quoteL rs)) = mkS (lineQ i (tss ++ [rs])) := by
                rw [← HBE.out, mkS_app, mkS_app, lineQ_snoc]
              have HC := Lib.hid hcat
              have hll : (lineQ i (tss ++ [rs])).length ≤ (lineQ i tss).length + (i + (6 * s.size + 2)) := by
                rw [lineQ_snoc]
                simp only [List.length_append, List.length_replicate, quoteL_len]
                omega
              have q8 : Hid (Few (lineQ i (tss ++ [rs])).length (j + 1) m2) := Lib.hid (HF.out.more _ hll HG.out.2 HSM.out m2 (by omega) HMC.out)
              have hl64 : ((mkS (lineQ i tss)).size : Int) ≤ 6400000 := by
                rw [mkS_size]
                have := HF.out.top (by have := HJ.out; have := HN.out; omega)
                omega
              have hq64 : ((mkS (quoteL rs)).size : Int) ≤ 6400000 := by omega
              have hb20 : (bl.size : Int) ≤ 20 := by rw [HBL.out]; have := HG.out; omega
              have q5 : Hid (∀ x ∈ tss ++ [rs], ∀ r ∈ x, okR r) := Lib.hid (fun x hx => by
                rcases List.mem_append.1 hx with h | h
                · exact HG2.out x h
                · obtain rfl : x = rs := by simpa using h
                  exact hok)
              have q6 : Hid (ms.take (j + 1) = (tss ++ [rs]).map fun x => mkS (enc x)) := Lib.hid (by
                have e1 : mkS (enc rs) = s := by rw [← hL]; exact mkS_of s
                rw [HTK2.out, HTK.out, List.map_append, List.map_cons, List.map_nil, e1])
              have q7 : Hid ((tss ++ [rs]).length = j + 1) := Lib.hid (by simp [HW.out])
              clear hv hok hL hrr cQ hlen hbd hel hqs hcat hll
              generalize mkS (quoteL rs) = qs at *
              go_wp2_with fail
              refine (cQ' _ (HT.out.below HB.out)).mono ?_; rintro e w2 ⟨rfl, hb2⟩
              have hc2 : w2.cell? ⟨b, off + j, Option.none⟩ = some (.string s) := (hb2.cell (p := ⟨b, off + j, Option.none⟩) hc.1).trans hc.2
              have HB2 := Lib.hid (below_size HB.out hb2)
              clear hc hb2 cQ'
              go_wp2_with fail
              refine (cC _ (HT.out.below HB2.out)).mono ?_; rintro e w3 ⟨rfl, hb3⟩
              have HB3 := Lib.hid (below_size HB2.out hb3)
              clear hc2 hb3 cC e1 hw1 hw0 hs1 hm5 HMC
              go_wp2
              go_roundw
              case rel => exact ⟨j + 1, m2, tss ++ [rs], by simp, rfl, by rw [HC.out], q1, q7, q5, q6, HB3, q8⟩
              case measure =>
                have e1 : ((j : Int) + 1).toNat = j + 1 := by omega
                simp only [intOf, e1, Int.toNat_natCast]
                exact q2.out
        · have hj' : ¬ (j : Int) < n := by omega
          have hje : j = n := by have := HJ.out; omega
          have htk := HTK.out
          rw [hje, List.take_of_length_le (by rw [HM.out]; exact Nat.le_refl _)] at htk
          have htl := HF.out.top (by have := HJ.out; have := HN.out; omega)
          have hls : (mkS (lineQ i tss)).size ≤ 6400000 := by rw [mkS_size]; exact htl
          have hap : mkS (lineQ i tss) ++ bl = mkS (lineQ i tss ++ List.replicate i 32) := by rw [← HBE.out, mkS_app]
          have hap2 : (mkS (lineQ i tss ++ List.replicate i 32)).size = (mkS (lineQ i tss)).size + i := by rw [mkS_size, mkS_size]; simp
          have hi20 := HG.out.2
          have cW := fun (w1 : World) (h : Tabs w1) => words_any (mkS (lineQ i tss ++ List.replicate i 32)) w1 (by omega) h
          simp only [mkS_list] at cW
          have HAP := Lib.hid hap
          have hb20 : (bl.size : Int) ≤ 20 := by rw [HBL.out]; omega
          have htl2 : tss.length = n := by rw [HW.out, hje]
          by_cases h50 : n ≤ 50
          · simp only [back_words i HG.out.1 tss HG2.out (by omega), ansWs] at cW
            have hmm : (tss.map enc).map mkS = ms := by rw [List.map_map, htk]; rfl
            rw [hmm, List.length_map, htl2] at cW
            generalize mkS (lineQ i tss ++ List.replicate i 32) = ls2 at *
            generalize mkS (lineQ i tss) = ls at *
            have hls' : (ls.size : Int) ≤ 6400000 := by omega
            have k50 : ¬ (50 : Int) < n := by omega
            clear hap hap2 hls htl htk hje hj HTK HJ HW htl2 hmm h50 hi20
            go_wp2_with fail
            rw [HAP.out]
            refine (cW _ (HT.out.below HB.out)).mono ?_; rintro e w4 ⟨⟨a4, cap4, rfl, ho⟩, hb4⟩
            have hS : Strs w4 a4 n cap4 ms := readsA_of_owns ByteArray.empty ho
            have HB4 := Lib.hid (below_size HB.out hb4)
            clear ho hb4 cW
            go_wp2_with fail
            refine (first_any _ (HT.out.below HB4.out)).mono ?_; rintro e w6 ⟨rfl, hb6⟩
            have HB6 := Lib.hid (below_size HB4.out hb6)
            have hS6 := hS.below hb6
            clear hb6 hS
            go_wp2_with fail
            refine (texts_any _ _ _ _ _ _ _ _ _ hS6 (HR.out.below HB6.out)).mono ?_; rintro e w7 ⟨rfl, hb7⟩
            rw [decide_eq_true rfl]
            have hB7 := below_size HB6.out hb7
            clear hS6 hb7
            go_wp2_with fail
            go_ret
            exact ⟨rfl, hB7⟩
          · obtain ⟨rest, hwl, hrl⟩ := back_over i HG.out.1 tss HG2.out (by omega)
            simp only [hwl, ansWs] at cW
            have hat : (mkS (lineQ i tss ++ List.replicate i 32)).size - rest.length < (mkS (lineQ i tss)).size ∨ (mkS (lineQ i tss)).size = 0 := by omega
            have hpos : 0 < (mkS (lineQ i tss)).size := by
              rw [mkS_size]
              have := lineQ_len i tss
              omega
            obtain ⟨p, hp⟩ : ∃ p : Nat, (mkS (lineQ i tss ++ List.replicate i 32)).size - rest.length = p := ⟨_, rfl⟩
            rw [hp] at cW hat
            generalize mkS (lineQ i tss ++ List.replicate i 32) = ls2 at *
            generalize mkS (lineQ i tss) = ls at *
            have hls' : (ls.size : Int) ≤ 6400000 := by omega
            have k50 : (50 : Int) < n := by omega
            have hpl : (p : Int) < (ls.size : Int) := by omega
            clear hap hap2 hls htl htk hje hj HTK HJ HW htl2 h50 hi20 hwl hrl hat hpos hp
            go_wp2_with fail
            rw [HAP.out]
            refine (cW _ (HT.out.below HB.out)).mono ?_; rintro e w4 ⟨rfl, hb4⟩
            have HB4 := Lib.hid (below_size HB.out hb4)
            clear hb4 cW
            go_wp2_with fail
            refine (first_any _ (HT.out.below HB4.out)).mono ?_; rintro e w6 ⟨rfl, hb6⟩
            have hB6 := below_size HB4.out hb6
            go_wp2_with fail
            go_ret
            exact ⟨rfl, hB6⟩

theorem walk_WordBack (a : Option Addr) (n cap : Nat) (ms : List ByteArray) (gap : Int) (w : World) (hT : Tabs w) (hr : Strs w a n cap ms) (hsz : ∀ s ∈ ms, s.size ≤ 1048576) (hg : -9223372036854775808 ≤ gap ∧ gap ≤ 9223372036854775807) :
    Calls Tryd.prog 5 #[.slice a n cap, .int .i64 gap] w fun e w' => e = .returned (.bool true) ∧ Below w.heap.size w w' := by
  have hn := hr.n63.1
  by_cases h : 60 < n ∨ gap < 1 ∨ 20 < gap
  · exact back_early a n cap gap w hT (by omega) h
  · obtain ⟨g, rfl⟩ := Int.eq_ofNat_of_zero_le (show 0 ≤ gap by omega)
    exact back_good a n cap ms g w hT hr (by omega) (by omega) (by omega) hsz
end Go.Proofs.YtmajdgmbcgkelaaDoor
