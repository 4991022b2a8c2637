/-
  The walk of LzPlain.
-/
import Derived.Test.YtfolhckhedinhaaLzPlainPure
namespace Go.Proofs.Ytfolhckhedinhaa
open Go.RowKit Go.Maps Go.WideMaps

theorem plain_not (b : Option Addr) (n cap : Nat) (w : World) (hn : n ≤ 9223372036854775807) (h : ¬ n ≤ 2000) :
    Calls Try.prog 8 #[.slice b n cap] w fun e w' => e = .returned (.bool true) ∧ Below w.heap.size w w' := by
  have h1 : (2000 : Int) < n := by omega
  go_enter Try.func8, Try.ntmps8
  go_wp2_with fail
  refine (first_any w).mono ?_; rintro e w1 ⟨rfl, b1⟩
  go_wp2_with fail
  refine (first_any w1).mono ?_; rintro e w2 ⟨rfl, b2⟩
  go_wp2_with fail
  go_ret
  exact ⟨rfl, below_size b1 b2⟩

theorem arr3 : ArrKey Try.prog 46 5 3 := ⟨Try.underlying46, by kernel_rfl, by kernel_rfl, by kernel_rfl⟩
theorem keyed3 : Keyed Try.prog 46 := Keyed.of_law arr3.law
theorem typesSize : ∃ m, Try.prog.types.size = m + 1 := ⟨Try.prog.types.size - 1, by kernel_rfl⟩

set_option maxRecDepth 100000 in
set_option maxHeartbeats 1000000 in
theorem plain_in (b : Option Addr) (n cap : Nat) (xs : List Int) (w : World) (hr : Reads .u8 w b n cap xs) (hx : isB xs) (hn : n ≤ 2000) :
    Calls Try.prog 8 #[.slice b n cap] w fun e w' => e = .returned (.bool true) ∧ Below w.heap.size w w' := by
  have hmm := @run_makeMap Try.prog
  have HR := Lib.hid hr; have HX := Lib.hid hx; have HL := Lib.hid hr.len
  have h1 : decide ((2000 : Int) < n) = false := by simp; omega
  clear hr hx
  go_enter Try.func8, Try.ntmps8
  go_wp2_with fail
  refine (first_any w).mono ?_; rintro e w1 ⟨rfl, bb⟩
  have B := Lib.hid bb
  replace HR := Lib.hid (HR.out.below bb)
  clear bb
  go_wp2_with fail
  refine (find_yes _ _ _ _ _ HR.out HX.out (by omega)).mono ?_; rintro e w3 ⟨al, kl, rfl, ol, bb⟩
  have T := Lib.hid (toks_of_owns ol rfl)
  replace B := Lib.hid (below_size B.out bb)
  replace HR := Lib.hid (HR.out.below bb)
  clear bb ol
  have HTL := Lib.hid (findL_len xs)
  obtain ⟨N, hN⟩ : ∃ N, (findL xs).length = N := ⟨_, rfl⟩
  have HN := Lib.hid hN
  rw [hN] at T ⊢
  have hN63 := T.out.n63
  clear hN
  have hmap0 : (w3.alloc (.map #[] 0)).ownsMap Try.prog 46 (plainElem (H := Unit) Try.prog 3) w3.heap.size 0 (.map []) := World.ownsMap_made _ _ _ _
  have hb0 : Below w3.heap.size w3 (w3.alloc (.map #[] 0)) := (Below.refl _ _).alloc (Nat.le_refl _) _
  have hgm0 : w3.heap.size < (w3.alloc (.map #[] 0)).heap.size := by simp
  have A1 := Lib.hid hb0; have A3 := Lib.hid hmap0
  go_wp2_with fail
  clear hmm hmap0 hb0
  generalize w3.alloc (.map #[] 0) = w4 at *
  generalize hgm : w3.heap.size = gm at *
  have HGM := Lib.hid hgm
  clear hgm
  go_loopw [6, 7] (fun vt vi wr => ∃ (i cnt : Nat) (D : DataW Unit), i ≤ n - 2 ∧ vi = .int .i64 i ∧ vt = .bool (tw xs i) ∧ wr.ownsMap Try.prog 46 (plainElem (H := Unit) Try.prog 3) gm cnt D ∧ cnt ≤ i ∧ Hid (Seen xs D i) ∧ Below gm w3 wr ∧ gm < wr.heap.size) (fun _ vi _ => n - (intOf vi).toNat)
  case atStart => exact ⟨0, 0, .map [], Nat.zero_le _, rfl, rfl, A3.out, Nat.le_refl _, Lib.hid (seen_zero xs), A1.out, hgm0⟩
  case round =>
    obtain ⟨i, cnt, D, hi, rfl, rfl, hm, hcnt, HS, hbel, hgl⟩ := hrel
    clear A1 A3 hgm0
    have M1 := Lib.hid hm; have B1 := Lib.hid hbel
    clear hm hbel
    by_cases hlt : i + 3 ≤ n
    · have g1 : (i : Int) + 2 < n := by omega
      obtain ⟨b0, off, rfl, hb0, hcs⟩ := HR.out.cells (by omega)
      have hb0' : b0 < gm := by rw [← HGM.out]; exact hb0
      have Keep : Hid (∀ w', Below gm w3 w' → w'.cell? ⟨b0, off + i, Option.none⟩ = some (.int .u8 (xs.getD i 0)) ∧ w'.cell? ⟨b0, off + (i + 1), Option.none⟩ = some (.int .u8 (xs.getD (i + 1) 0)) ∧ w'.cell? ⟨b0, off + (i + 2), Option.none⟩ = some (.int .u8 (xs.getD (i + 2) 0))) := Lib.hid (fun w' hb => ⟨(hb.cell (p := ⟨b0, off + i, Option.none⟩) hb0').trans (hcs i (by omega)), (hb.cell (p := ⟨b0, off + (i + 1), Option.none⟩) hb0').trans (hcs (i + 1) (by omega)), (hb.cell (p := ⟨b0, off + (i + 2), Option.none⟩) hb0').trans (hcs (i + 2) (by omega))⟩)
      have x0 := HX.out.get i (by rw [HL.out]; omega)
      have x1 := HX.out.get (i + 1) (by rw [HL.out]; omega)
      have x2 := HX.out.get (i + 2) (by rw [HL.out]; omega)
      have HK := Lib.hid (show kAt xs i = k3 (xs.getD i 0) (xs.getD (i + 1) 0) (xs.getD (i + 2) 0) from rfl)
      generalize xs.getD i 0 = y0 at *
      generalize xs.getD (i + 1) 0 = y1 at *
      generalize xs.getD (i + 2) 0 = y2 at *
      have i0' : (i : Int) < n := by omega
      have i1' : (i : Int) + 1 < n := by omega
      have i3' : (0 : Int) ≤ i := by omega
      have i4' : (0 : Int) ≤ (i : Int) + 1 := by omega
      have i5' : (0 : Int) ≤ (i : Int) + 2 := by omega
      have q1 : IntKind.i64.wrap ((i : Int) + 1) = (i : Int) + 1 := by rw [Go.IntWalk.i64_in _ (by omega)]
      have q2 : IntKind.i64.wrap ((i : Int) + 2) = (i : Int) + 2 := by rw [Go.IntWalk.i64_in _ (by omega)]
      have q3 : ((i : Int) + 1).toNat = i + 1 := by omega
      have q4 : ((i : Int) + 2).toNat = i + 2 := by omega
      clear hcs hb0
      go_wp2_with fail
      go_region_held3 (fun w' => w'.cell? ⟨b0, off + i, Option.none⟩ = some (.int .u8 y0) ∧ w'.cell? ⟨b0, off + (i + 1), Option.none⟩ = some (.int .u8 y1) ∧ w'.cell? ⟨b0, off + (i + 2), Option.none⟩ = some (.int .u8 y2))
        (first | exact Keep.out _ B1.out.drew | exact Keep.out _ ((B1.out.alloc (Nat.le_of_lt hgl) _).drew) | exact Keep.out _ ((B1.out.drew).alloc (Nat.le_of_lt hgl) _) | exact Keep.out _ (B1.out.alloc (Nat.le_of_lt hgl) _)) (fail)
      have hc3 := alloc3_cells wr (.int .u8 y0) (.int .u8 y1) (.int .u8 y2) 46
      have B2 := Lib.hid ((B1.out.alloc (Nat.le_of_lt hgl) (.cells #[.int .u8 y0, .int .u8 y1, .int .u8 y2] 46)).drew)
      have M2 := Lib.hid ((M1.out.alloc (.cells #[.int .u8 y0, .int .u8 y1, .int .u8 y2] 46)).drew)
      have hgl2 : wr.heap.size < (wr.alloc (.cells #[.int .u8 y0, .int .u8 y1, .int .u8 y2] 46)).drew.heap.size := by simp
      obtain ⟨c0, c1, c2⟩ := (show (wr.alloc (.cells #[.int .u8 y0, .int .u8 y1, .int .u8 y2] 46)).drew.cell? ⟨wr.heap.size, 0, Option.none⟩ = some (.int .u8 y0) ∧ (wr.alloc (.cells #[.int .u8 y0, .int .u8 y1, .int .u8 y2] 46)).drew.cell? ⟨wr.heap.size, 1, Option.none⟩ = some (.int .u8 y1) ∧ (wr.alloc (.cells #[.int .u8 y0, .int .u8 y1, .int .u8 y2] 46)).drew.cell? ⟨wr.heap.size, 2, Option.none⟩ = some (.int .u8 y2) from hc3)
      generalize (wr.alloc (.cells #[.int .u8 y0, .int .u8 y1, .int .u8 y2] 46)).drew = W2 at *
      clear M1 hc3 Keep
      have wf8 : ∀ v : Int, 0 ≤ v ∧ v < 256 → (Lit.int .u8 v).wf = true := fun v hv => by
        simp only [Lit.wf, IntKind.min, IntKind.max, IntKind.signed, IntKind.bits, Bool.and_eq_true, decide_eq_true_eq, Bool.false_eq_true, if_false]
        omega
      have hkey := keyOf_three arr3 Try.underlying5 typesSize (wf8 _ x0) (wf8 _ x1) (wf8 _ x2)
      rw [← HK.out] at hkey
      have HKEY := Lib.hid hkey
      have hsn := HS.out.2 i
      have hav : aheadV xs i = lastOf xs i (code xs i) := by rw [aheadV, if_pos (by rw [HL.out]; exact hlt)]
      rw [← hav] at hsn
      have htw : tw xs (i + 1) = (tw xs i || Maps.has D (kAt xs i)) := by
        rw [tw, hsn]
        congr 1
        rw [HL.out]
        simp [hlt]
      have HTW := Lib.hid htw
      have HSP := Lib.hid (fun d => seen_put HX.out HS.out (by rw [HL.out]; exact hlt) d)
      have hgl3 : gm < W2.heap.size := by omega
      generalize kAt xs i = kk at *
      generalize hob : Maps.has D kk = ob at *
      clear hkey hsn hav htw x0 x1 x2 i4' i5' q1 q2 q3 q4 i1'
      generalize tw xs i = tb at *
      cases tb
      all_goals
        go_wp2_with (first
          | (at_lookup; refine wpList_lookup_own_ok_int _ rfl _ _ 45 rfl 46 3 .i64 keyed3 Try.underlying45 Try.underlying3 (zeroI _) gm cnt D rfl M2.out _ _ rfl HKEY.out ?_; intro c hat hwc)
          | (at_mapUpdate; refine wpList_mapUpdate_own _ rfl _ _ _ 45 rfl 46 3 keyed3 Try.underlying45 _ gm cnt D rfl M2.out (by unfold maxLen; omega) _ _ _ rfl rfl HKEY.out _ [] (plainElem_int Try.underlying3 (WalkArith.wf_i64 (by omega))) ?_; intro w5 hown5 hgrow5))
        have HB5 := Lib.hid (B2.out.grown hgrow5 (by have := B2.out.size; rw [HGM.out] at this; exact this) (fun q hq => by cases hq; omega))
        have HM5 := Lib.hid hown5
        have hg5 : gm < w5.heap.size := Nat.lt_of_lt_of_le hgl3 hgrow5.size
        clear hgrow5 hown5 hat c0 c1 c2
        go_wp2_with fail
        go_roundw
        case rel => exact ⟨i + 1, cnt + 1, _, by omega, by go_num, by rw [HTW.out]; simp, HM5.out, by omega, Lib.hid (HSP.out _), HB5.out, hg5⟩
        case measure => simp [intOf]; omega
    · have g1 : decide ((i : Int) + 2 < n) = false := by simp; omega
      have hti : tw xs i = tw xs (xs.length - 2) := by
        rw [HL.out]
        congr 1
        omega
      rw [hti]
      have hcp := copy_iff HX.out (by rw [HL.out]; omega)
      have hpl := plain_of_tw (xs := xs) HX.out (by rw [HL.out]; omega)
      have HCP := Lib.hid hcp; have HPL := Lib.hid hpl
      replace T := Lib.hid (T.out.below (by rw [HGM.out]; exact B1.out))
      have B3 := Lib.hid (below_size B.out (by rw [HGM.out]; exact B1.out : Below w3.heap.size w3 wr))
      clear hti hcp hpl M1 B1 HS hgl
      generalize tw xs (xs.length - 2) = tb at *
      go_wp2_with fail
      go_loopw [11, 12] (fun vn vi wz => ∃ (j : Nat), j ≤ N ∧ vi = .int .i64 j ∧ vn = .int .i64 (((findL xs).take j).countP isCopy : Nat) ∧ wz = wr) (fun _ vi _ => N - (intOf vi).toNat)
      case atStart => exact ⟨0, Nat.zero_le _, rfl, rfl, rfl⟩
      case round =>
        obtain ⟨j, hj, rfl, rfl, rfl⟩ := hrel
        have hcl : ((findL xs).take j).countP isCopy ≤ j := Nat.le_trans List.countP_le_length (by rw [List.length_take]; omega)
        by_cases hlt2 : j < N
        · obtain ⟨ga, of2, tk, rfl, hg, htt, k0, k1, k2⟩ := T.out.at j hlt2
          have hnx : ((findL xs).take (j + 1)).countP isCopy = ((findL xs).take j).countP isCopy + if isCopy tk = true then 1 else 0 := by
            rw [List.take_add_one, htt, List.countP_append]
            simp [List.countP_cons]
          have HNX := Lib.hid hnx
          generalize ((findL xs).take j).countP isCopy = cn at *
          obtain ⟨t0, t1, t2⟩ := tk
          dsimp only at k0 k1 k2
          have hic : isCopy (t0, t1, t2) = decide (0 < t0) := rfl
          rw [hic] at HNX
          clear htt hnx k1 k2 hic
          by_cases hz : 0 < t0
          · have g3 : decide (0 < t0) = true := by simpa using hz
            go_wp2_with fail
            go_roundw
            case rel => exact ⟨j + 1, by omega, by go_num, by rw [HNX.out, g3]; go_num, trivial⟩
            case measure => simp [intOf]; omega
          · have g3 : decide (0 < t0) = false := by simpa using hz
            go_wp2_with fail
            go_roundw
            case rel => exact ⟨j + 1, by omega, by go_num, by rw [HNX.out, g3]; go_num, trivial⟩
            case measure => simp [intOf]; omega
        · obtain rfl : j = N := by omega
          have htk : (findL xs).take j = findL xs := List.take_of_length_le (by have := HN.out; omega)
          rw [htk] at hcl ⊢
          generalize (findL xs).countP isCopy = cn at *
          clear htk
          cases tb with
          | false =>
            have hcn : cn = 0 := by
              have := HCP.out
              simp at this
              exact this
            subst hcn
            have hnn : j = n := by rw [← HN.out, ← HL.out]; exact HPL.out rfl
            subst hnn
            go_wp2_with fail
            refine (first_any _).mono ?_; rintro e w6 ⟨rfl, bb⟩
            replace B3 := Lib.hid (below_size B3.out bb)
            clear bb
            go_wp2_with fail
            go_ret
            exact ⟨rfl, B3.out⟩
          | true =>
            have hcn : 0 < cn := HCP.out.2 rfl
            have g4 : (0 : Int) < cn := by omega
            go_wp2_with fail
            refine (first_any _).mono ?_; rintro e w6 ⟨rfl, bb⟩
            replace B3 := Lib.hid (below_size B3.out bb)
            clear bb
            go_wp2_with fail
            go_ret
            exact ⟨rfl, B3.out⟩

theorem walk_LzPlain (b : Option Addr) (n cap : Nat) (xs : List Int) (w : World) (hr : Reads .u8 w b n cap xs) (hx : isB xs) :
    Calls Try.prog 8 #[.slice b n cap] w fun e w' => e = .returned (.bool true) ∧ Below w.heap.size w w' := by
  by_cases h : n ≤ 2000
  · exact plain_in b n cap xs w hr hx h
  · exact plain_not b n cap w hr.n63.1 h
end Go.Proofs.Ytfolhckhedinhaa
