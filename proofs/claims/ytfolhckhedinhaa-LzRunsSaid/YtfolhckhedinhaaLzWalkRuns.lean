/-
  The walk of LzRuns.
-/
import Derived.Test.YtfolhckhedinhaaLzRunsPure
namespace Go.Proofs.Ytfolhckhedinhaa
open Go.RowKit

theorem runs_not (c : Int) (t : Int) (w : World) (h : ¬ (4 ≤ t ∧ t ≤ 20000)) :
    Calls Try.prog 7 #[.int .u8 c, .int .i64 t] w fun e w' => e = .returned (.bool true) ∧ Below w.heap.size w w' := by
  by_cases h1 : t < 4
  · go_enter Try.func7, Try.ntmps7
    go_wp2_with fail
    refine (first_any w).mono ?_; rintro e w1 ⟨rfl, b1⟩
    go_wp2_with fail
    refine (first_any w1).mono ?_; rintro e w2 ⟨rfl, b2⟩
    go_wp2_with fail
    go_ret
    exact ⟨rfl, below_size b1 b2⟩
  · have h2 : 20000 < t := by omega
    go_enter Try.func7, Try.ntmps7
    go_wp2_with fail
    refine (first_any w).mono ?_; rintro e w1 ⟨rfl, b1⟩
    go_wp2_with fail
    refine (first_any w1).mono ?_; rintro e w2 ⟨rfl, b2⟩
    go_wp2_with fail
    go_ret
    exact ⟨rfl, below_size b1 b2⟩

set_option maxRecDepth 100000 in
set_option maxHeartbeats 1000000 in
theorem runs_in (c : Int) (hc : 0 ≤ c ∧ c ≤ 255) (n : Nat) (w : World) (hn4 : 4 ≤ n) (hn : n ≤ 20000) :
    Calls Try.prog 7 #[.int .u8 c, .int .i64 n] w fun e w' => e = .returned (.bool true) ∧ Below w.heap.size w w' := by
  obtain ⟨i0, hi, hz0, hz1, hz2⟩ := info_parts infoC
  have Hi := Lib.hid hi; have Hz0 := Lib.hid hz0; have Hz1 := Lib.hid hz1; have Hz2 := Lib.hid hz2
  have h1 : decide ((n : Int) < 4) = false := by simp; omega
  have h2 : decide ((20000 : Int) < n) = false := by simp; omega
  have hcw : c % 256 = c := by omega
  clear hi hz0 hz1 hz2
  go_enter Try.func7, Try.ntmps7
  go_wp2_with fail
  refine (first_any w).mono ?_; rintro e w1 ⟨rfl, bb⟩
  have B := Lib.hid bb
  clear bb
  go_wp2_with (at_make; refine wpList_make_full _ rfl _ _ 22 rfl w1.heap.size 5 i0 (.int .u8 0) 1 Try.underlying22 Hi.out Hz0.out Hz1.out _ _ _ _ n rfl rfl (by first | rfl | omega) (by first | rfl | omega) (by rw [Hz2.out]; omega) (by unfold maxLen; omega) (Nat.le_refl _) ?_)
  intro w2 hown hgrow
  rw [toList_made n .u8] at hown
  have hb0 : Below w1.heap.size w1 w2 := (Below.refl _ _).grown hgrow (Nat.le_refl _) (fun k h => nomatch h)
  clear hgrow
  generalize hg : w1.heap.size = g at *
  have HG := Lib.hid hg; clear hg
  generalize hxs : List.replicate n (0 : Int) = os at hown
  have Hxs := Lib.hid hxs; clear hxs
  have A1 := Lib.hid hb0; have A2 := Lib.hid hown
  clear hb0 hown
  go_wp2_with fail
  go_loopw [6] (fun vi wr => ∃ (k : Nat) (zs : List Int), k ≤ n ∧ vi = .int .i64 k ∧ wr.ownsRow g 5 1 (.slice (some ⟨g, 0, Option.none⟩) n n) n (zs.map (Value.int .u8)) ∧ Hid (zs.length = n ∧ ∀ j, j < n → zs.getD j 0 = if j < k then c else 0) ∧ Below g w1 wr) (fun vi _ => n - (intOf vi).toNat)
  case atStart =>
    refine ⟨0, os, Nat.zero_le _, rfl, A2.out, ?_, A1.out⟩
    rw [← Hxs.out]
    exact Lib.hid ⟨by simp, fun j hj => by simp [List.getD, hj]⟩
  case round =>
    obtain ⟨k, zs, hk, rfl, ho, Hz, hbel⟩ := hrel
    clear A1 A2 Hxs
    by_cases hlt : k < n
    · have hcl := owns_cell ho k hlt
      have hfz := ho.frozenAt k
      have O1 := Lib.hid (owns_set ho k c)
      have B1 := Lib.hid (hbel.setCell (p := ⟨g, k, Option.none⟩) (Nat.le_refl _) (.int .u8 c))
      generalize zs.getD k 0 = z at *
      clear ho hbel
      go_wp2_with fail
      go_roundw
      case rel =>
        obtain ⟨zl, zv⟩ := Hz.out
        refine ⟨k + 1, zs.set k c, by omega, by go_num, O1.out, Lib.hid ⟨by simpa using zl, fun j hj => ?_⟩, B1.out⟩
        rw [getD_set, zv j hj]
        by_cases e : k = j
        · rw [if_pos ⟨e, by omega⟩, if_pos (by omega)]
        · rw [if_neg (fun h => e h.1)]
          split <;> split <;> first | rfl | omega
      case measure => simp [intOf]; omega
    · obtain rfl : k = n := by omega
      obtain rfl : zs = List.replicate k c := by
        obtain ⟨zl, zv⟩ := Hz.out
        refine ext_getD (by rw [zl]; simp) fun j hj => ?_
        rw [zv j (by omega), if_pos (by omega), rep_getD k c j (by omega)]
      have hrd : Reads .u8 wr (some ⟨g, 0, Option.none⟩) k k (List.replicate k c) := reads_of_owns ho
      have HIB := Lib.hid (show isB (List.replicate k c) from isB_of_all _ (by simp; omega))
      have R := Lib.hid hrd
      have B2 := Lib.hid (below_size B.out (by rw [HG.out]; exact hbel : Below w1.heap.size w1 wr))
      clear ho hbel Hz hrd B
      have hlen : (List.replicate k c).length = k := by simp
      have HLN := Lib.hid hlen
      clear hlen
      have HF := Lib.hid (find_yes _ _ _ _ wr R.out HIB.out (by omega))
      have H2 := Lib.hid (rep_len2 k c hn4)
      have H1 := Lib.hid (rep_iter1 k c hn4)
      obtain ⟨N, hN⟩ : ∃ N, (findL (List.replicate k c)).length = N := ⟨_, rfl⟩
      have HN := Lib.hid hN
      clear hN
      go_wp2_with fail
      refine HF.out.mono ?_; rintro e w3 ⟨al, kl, rfl, ol, bb⟩
      have T := Lib.hid (toks_of_owns ol rfl)
      replace B2 := Lib.hid (below_size B2.out bb)
      clear bb ol HF R
      rw [HN.out] at T ⊢
      rw [HN.out] at H2
      have hN2 := H2.out
      have hN63 := T.out.n63
      obtain ⟨ga, off, tk, rfl, hg, htt, k0, k1, k2⟩ := T.out.at 0 (by omega)
      obtain ⟨ha, hti⟩ := iter_tok (List.replicate k c) 0 (by rw [HN.out]; omega)
      rw [hti] at htt
      obtain rfl := Option.some.inj htt
      rw [show (iter (List.replicate k c) 0).2 = 0 from rfl, (rep_tok0 k c 0 (by omega) (.inl rfl)).1] at k0 k1 k2
      dsimp only at k0 k1 k2
      rw [Nat.zero_mul, Nat.add_zero] at k0 k1 k2
      have g0 : decide ((N : Int) < 2) = false := by simp; omega
      have g1 : (0 : Int) < N := by omega
      clear hti htt ha hg
      go_wp2_with fail
      clear k0 k1 k2
      go_loopw [9, 10] (fun va vi wr => ∃ (i : Nat), 1 ≤ i ∧ i ≤ N ∧ vi = .int .i64 i ∧ va = .int .i64 ((k - (iter (List.replicate k c) i).2 : Nat)) ∧ 1 ≤ (iter (List.replicate k c) i).2 ∧ wr = w3) (fun _ vi _ => N - (intOf vi).toNat)
      case atStart => exact ⟨1, Nat.le_refl _, by omega, rfl, by rw [H1.out]; congr 1; omega, by rw [H1.out]; exact Nat.le_refl _, rfl⟩
      case round =>
        obtain ⟨i, hi1, hi, rfl, rfl, hat1, rfl⟩ := hrel
        have hat := iter_le (List.replicate k c) i
        rw [HLN.out] at hat
        by_cases hlt : i < N
        · obtain ⟨ga', off', tk, e2, hg, htt, k0, k1, k2⟩ := T.out.at i hlt
          obtain ⟨rfl, rfl⟩ : ga = ga' ∧ off = off' := by simpa using e2
          obtain ⟨ha, hti⟩ := iter_tok (List.replicate k c) i (by rw [HN.out]; exact hlt)
          rw [hti] at htt
          obtain rfl := Option.some.inj htt
          have hnx : (iter (List.replicate k c) (i + 1)).2 = (iter (List.replicate k c) i).2 + stepAt (List.replicate k c) (iter (List.replicate k c) i).2 := by rw [iter, if_pos ha]
          rw [HLN.out] at ha
          have i9 : (i : Int) < N := by omega
          by_cases h3 : (iter (List.replicate k c) i).2 + 3 ≤ k
          · obtain ⟨e1, e3⟩ := rep_tok k c _ hat1 h3
            rw [e1] at k0 k1 k2
            rw [e3] at hnx
            have HNX := Lib.hid hnx
            generalize (iter (List.replicate k c) i).2 = at0 at *
            dsimp only at k0 k1 k2
            obtain ⟨L, hL⟩ : ∃ L, min 258 (k - at0) = L := ⟨_, rfl⟩
            obtain ⟨M, hM⟩ : ∃ M, k - at0 = M := ⟨_, rfl⟩
            have hmn : min (M : Int) 258 = L := by omega
            have g5 : decide ((L : Int) < 3) = false := by simp; omega
            rw [hL] at k0 HNX
            rw [hM]
            clear hti htt hnx k2 e1 e3 e2 hg hL
            go_wp2_with fail
            all_goals
              go_roundw
              case rel => exact ⟨i + 1, by omega, by omega, by go_num, by rw [HNX.out]; congr 1; omega, by rw [HNX.out]; omega, trivial⟩
              case measure => simp [intOf]; omega
          · obtain ⟨e1, e3⟩ := rep_tok0 k c _ ha (.inr h3)
            rw [e1] at k0 k1 k2
            rw [e3] at hnx
            have HNX := Lib.hid hnx
            generalize (iter (List.replicate k c) i).2 = at0 at *
            dsimp only at k0 k1 k2
            obtain ⟨M, hM⟩ : ∃ M, k - at0 = M := ⟨_, rfl⟩
            have hmn : min (M : Int) 258 = M := by omega
            have g5 : (M : Int) < 3 := by omega
            rw [hM]
            clear hti htt hnx k1 e1 e3 e2 hg
            go_wp2_with fail
            go_roundw
            case rel => exact ⟨i + 1, by omega, by omega, by go_num, by rw [HNX.out]; congr 1; omega, by rw [HNX.out]; omega, trivial⟩
            case measure => simp [intOf]; omega
        · obtain rfl : i = N := by omega
          have hla : (iter (List.replicate k c) i).2 = k := by rw [← HN.out, iter_last, HLN.out]
          rw [hla, Nat.sub_self]
          clear hat
          go_wp2_with fail
          refine (first_any _).mono ?_; rintro e w6 ⟨rfl, bb⟩
          replace B2 := Lib.hid (below_size B2.out bb)
          clear bb
          go_wp2_with fail
          go_ret
          exact ⟨rfl, B2.out⟩

theorem walk_LzRuns (c t : Int) (w : World) (hc : 0 ≤ c ∧ c < 256) (_ : -9223372036854775808 ≤ t ∧ t ≤ 9223372036854775807) :
    Calls Try.prog 7 #[.int .u8 c, .int .i64 t] w fun e w' => e = .returned (.bool true) ∧ Below w.heap.size w w' := by
  by_cases h : 4 ≤ t ∧ t ≤ 20000
  · obtain ⟨T, rfl⟩ := Int.eq_ofNat_of_zero_le (show 0 ≤ t by omega)
    exact runs_in c (by omega) T w (by omega) (by omega)
  · exact runs_not c t w h
end Go.Proofs.Ytfolhckhedinhaa
