/-
  The walk of LzBack.
-/
import Derived.Test.YtfolhckhedinhaaLzBackPure
import Derived.Test.YtfolhckhedinhaaBytes
namespace Go.Proofs.Ytfolhckhedinhaa
open Go.RowKit

theorem back_not (b : Option Addr) (n cap : Nat) (t : Int) (w : World) (hn : n ≤ 9223372036854775807) (h : ¬ (1 ≤ t ∧ t ≤ 40 ∧ n ≤ 1000)) :
    Calls Try.prog 5 #[.slice b n cap, .int .i64 t] w fun e w' => e = .returned (.bool true) ∧ Below w.heap.size w w' := by
  by_cases h1 : t < 1
  · go_enter Try.func5, Try.ntmps5
    go_wp2_with fail
    refine (first_any w).mono ?_; rintro e w1 ⟨rfl, b1⟩
    go_wp2_with fail
    refine (first_any w1).mono ?_; rintro e w2 ⟨rfl, b2⟩
    go_wp2_with fail
    go_ret
    exact ⟨rfl, below_size b1 b2⟩
  · by_cases h2 : 40 < t
    · go_enter Try.func5, Try.ntmps5
      go_wp2_with fail
      refine (first_any w).mono ?_; rintro e w1 ⟨rfl, b1⟩
      go_wp2_with fail
      refine (first_any w1).mono ?_; rintro e w2 ⟨rfl, b2⟩
      go_wp2_with fail
      go_ret
      exact ⟨rfl, below_size b1 b2⟩
    · have h3 : (1000 : Int) < n := by omega
      go_enter Try.func5, Try.ntmps5
      go_wp2_with fail
      refine (first_any w).mono ?_; rintro e w1 ⟨rfl, b1⟩
      go_wp2_with fail
      refine (first_any w1).mono ?_; rintro e w2 ⟨rfl, b2⟩
      go_wp2_with fail
      go_ret
      exact ⟨rfl, below_size b1 b2⟩

set_option maxRecDepth 100000 in
set_option maxHeartbeats 1000000 in
theorem back_in (b : Option Addr) (n cap : Nat) (xs : List Int) (t : Nat) (w : World) (hr : Reads .u8 w b n cap xs) (hx : isB xs) (ht1 : 1 ≤ t) (ht : t ≤ 40) (hn : n ≤ 1000) :
    Calls Try.prog 5 #[.slice b n cap, .int .i64 t] w fun e w' => e = .returned (.bool true) ∧ Below w.heap.size w w' := by
  obtain ⟨i0, hi, hz0, hz1, hz2⟩ := info_parts infoC
  have Hi := Lib.hid hi; have Hz0 := Lib.hid hz0; have Hz1 := Lib.hid hz1; have Hz2 := Lib.hid hz2
  have HR := Lib.hid hr; have HX := Lib.hid hx; have HL := Lib.hid hr.len
  have h1 : decide ((t : Int) < 1) = false := by simp; omega
  have h2 : decide ((40 : Int) < t) = false := by simp; omega
  have h3 : decide ((1000 : Int) < n) = false := by simp; omega
  clear hi hz0 hz1 hz2 hr hx
  go_enter Try.func5, Try.ntmps5
  go_wp2_with fail
  refine (first_any w).mono ?_; rintro e w1 ⟨rfl, bb⟩
  have B := Lib.hid bb
  replace HR := Lib.hid (HR.out.below bb)
  clear bb
  go_wp2_with fail
  go_loopw [5, 6] (fun vo vi wr => ∃ (i : Nat) (o : Option Addr) (ca : Nat) (ys : List Int), i ≤ t ∧ vo = .slice o ys.length ca ∧ vi = .int .i64 i ∧ wr.ownsRow w1.heap.size 5 1 (.slice o ys.length ca) ys.length (ys.map (Value.int .u8)) ∧ ys.length ≤ 1000 * i ∧ Hid (isB ys) ∧ Below w1.heap.size w1 wr) (fun _ vi _ => t - (intOf vi).toNat)
  case atStart => exact ⟨0, _, _, [], Nat.zero_le _, rfl, rfl, World.ownsRow_nil _ _ _ _, Nat.zero_le _, Lib.hid isB.nil, Below.refl _ _⟩
  case round =>
    obtain ⟨i, o, ca, ys, hi, rfl, rfl, ho, hyl, HY, hb⟩ := hrel
    have HO := Lib.hid ho; have HB := Lib.hid hb
    clear ho hb
    by_cases hlt : i < t
    · have hR := HR.out.below HB.out
      go_wp2_with (at_builtin; refine wpList_append_reads _ rfl _ _ 22 rfl w1.heap.size 5 i0 (.int .u8 0) 1 Try.underlying22 Hi.out Hz0.out Hz1.out Hz2.out rfl .u8 o ys.length ca ys rfl HO.out b n cap xs rfl hR (by unfold maxLen; omega) (by omega) HB.out.size ?_)
      intro a5 c5 w5 r5 g5 _
      have b5 := HB.out.grown g5 HB.out.size (fun k hk => (HO.out.lt k hk).1)
      have B5 := Lib.hid b5; have R5 := Lib.hid r5
      clear r5 g5 b5 hR
      go_wp2_with fail
      go_roundw
      case rel => exact ⟨i + 1, a5, c5, ys ++ xs, by omega, by rw [List.length_append, HL.out], by go_num, by rw [List.length_append, HL.out, List.map_append]; exact R5.out, by rw [List.length_append, HL.out]; omega, Lib.hid (HY.out.append HX.out), B5.out⟩
      case measure => simp [intOf]; omega
    · obtain rfl : i = t := by omega
      have YR := Lib.hid (reads_of_owns HO.out)
      have hyl2 : ys.length ≤ 40000 := by omega
      have B2 := Lib.hid (below_size B.out HB.out)
      clear HO HB B HR HX HL hlt
      go_wp2_with fail
      refine (find_yes _ _ _ _ _ YR.out HY.out hyl2).mono ?_; rintro e w3 ⟨al, kl, rfl, ol, bb⟩
      have T := Lib.hid (toks_of_owns ol rfl)
      replace B2 := Lib.hid (below_size B2.out bb)
      replace YR := Lib.hid (YR.out.below bb)
      clear bb ol
      go_wp2_with fail
      have q1 := expand_any _ _ _ _ w3 T.out
      rw [findL_exp HY.out hyl2] at q1
      refine q1.mono ?_; rintro e w4 ⟨ac, kc, rfl, oc, bb⟩
      have C := Lib.hid (reads_of_owns oc)
      replace B2 := Lib.hid (below_size B2.out bb)
      replace YR := Lib.hid (YR.out.below bb)
      replace T := Lib.hid (T.out.below bb)
      clear bb oc q1
      dsimp only at C ⊢
      have q1 := bytes_any _ _ _ _ _ _ _ _ _ C.out YR.out HY.out HY.out
      rw [decide_eq_true rfl] at q1
      have Q1 := Lib.hid q1; clear q1
      go_wp2_with fail
      refine Q1.out.mono ?_; rintro e w5 ⟨rfl, rfl⟩
      clear Q1 C
      have HTL := Lib.hid (findL_len ys)
      obtain ⟨N, hN⟩ : ∃ N, (findL ys).length = N := ⟨_, rfl⟩
      have HN := Lib.hid hN
      rw [hN] at T ⊢
      have hN63 := T.out.n63
      clear hN
      go_wp2_with fail
      go_loopw [11, 12] (fun va vi wr => ∃ (i : Nat), i ≤ N ∧ vi = .int .i64 i ∧ va = .int .i64 ((iter ys i).2 : Nat) ∧ wr = w5) (fun _ vi _ => N - (intOf vi).toNat)
      case atStart => exact ⟨0, Nat.zero_le _, rfl, rfl, rfl⟩
      case round =>
        obtain ⟨i, hi, rfl, rfl, rfl⟩ := hrel
        have hat := iter_le ys i
        by_cases hlt : i < N
        · obtain ⟨ga, off, tk, rfl, hg, htt, k0, k1, k2⟩ := T.out.at i hlt
          obtain ⟨ha, hti⟩ := iter_tok ys i (by rw [HN.out]; exact hlt)
          rw [hti] at htt
          obtain rfl := Option.some.inj htt
          have hnx : (iter ys (i + 1)).2 = (iter ys i).2 + stepAt ys (iter ys i).2 := by rw [iter, if_pos ha]
          have hst := tokAt_step ys (iter ys i).2
          have hds := tokAt_dist (xs := ys) (iter ys i).2
          have hmy := tokAt_may HY.out (iter ys i).2
          have hsl := stepAt_le ys _ ha
          rw [mayT, decide_eq_true_iff] at hmy
          have HNX := Lib.hid hnx
          generalize (iter ys i).2 = at0 at *
          generalize tokAt ys at0 = tk at *
          obtain ⟨t0, t1, t2⟩ := tk
          dsimp only at k0 k1 k2 hmy hst hds
          clear hti htt hnx k2
          by_cases hz : t0 = 0
          · subst hz
            go_wp2_with fail
            go_roundw
            case rel => exact ⟨i + 1, by omega, by go_num, by rw [HNX.out]; congr 1; omega, trivial⟩
            case measure => simp [intOf]; omega
          · have g1 : (0 : Int) < t0 := by omega
            have g2 : decide ((at0 : Int) < t1) = false := by simp; omega
            have g3 : decide (t0 < 3) = false := by simp; omega
            have g4 : decide (258 < t0) = false := by simp; omega
            have g5 : max t0 1 = t0 := by omega
            rw [g5] at hst
            go_wp2_with fail
            go_roundw
            case rel => exact ⟨i + 1, by omega, by go_num, by rw [HNX.out]; congr 1; omega, trivial⟩
            case measure => simp [intOf]; omega
        · obtain rfl : i = N := by omega
          have hla : (iter ys i).2 = ys.length := by rw [← HN.out]; exact iter_last ys
          have hle : i ≤ ys.length := by have := HTL.out; rw [HN.out] at this; exact this
          rw [hla]
          clear hat
          go_wp2_with fail
          refine (first_any _).mono ?_; rintro e w6 ⟨rfl, bb⟩
          replace B2 := Lib.hid (below_size B2.out bb)
          clear bb
          go_wp2_with fail
          go_ret
          exact ⟨rfl, B2.out⟩

theorem walk_LzBack (b : Option Addr) (n cap : Nat) (xs : List Int) (t : Int) (w : World) (hr : Reads .u8 w b n cap xs) (hx : isB xs) (_ : -9223372036854775808 ≤ t ∧ t ≤ 9223372036854775807) :
    Calls Try.prog 5 #[.slice b n cap, .int .i64 t] w fun e w' => e = .returned (.bool true) ∧ Below w.heap.size w w' := by
  by_cases h : 1 ≤ t ∧ t ≤ 40 ∧ n ≤ 1000
  · obtain ⟨T, rfl⟩ := Int.eq_ofNat_of_zero_le (show 0 ≤ t by omega)
    exact back_in b n cap xs T w hr hx (by omega) (by omega) h.2.2
  · exact back_not b n cap t w hr.n63.1 h
end Go.Proofs.Ytfolhckhedinhaa
