/-
  The walk of the statement FiltKinds.
-/
import Derived.Test.YtkbbnmcbekhioaaFiltUndo
import Derived.Test.YtkbbnmcbekhioaaBytes
namespace Go.Proofs.Ytkbbnmcbekhioaa
open Go.RowKit

theorem far_self (x : Int) : far x x = 0 := by unfold far; split <;> omega
theorem far_nonneg (x y : Int) : 0 ≤ far x y := by unfold far; split <;> omega
theorem pae_zero (l : Int) : pae l 0 0 = l := by
  unfold pae; rw [far_self, if_pos ⟨far_nonneg _ _, far_nonneg _ _⟩]
theorem doL_none (bpp : Nat) (rs : List Int) (hb : isB rs) : doL 0 bpp [] rs = rs := by
  apply ext_getD (doL_len _ _ _ _)
  intro i hi
  rw [doL_len] at hi
  rw [doL_getD _ _ _ _ _ hi]
  have := hb.get i hi
  have e : gss 0 bpp [] rs i = 0 := by simp [gss, gs]
  rw [e]; omega
theorem doL_up (bpp : Nat) (rs : List Int) (hb : isB rs) : doL 2 bpp [] rs = rs := by
  apply ext_getD (doL_len _ _ _ _)
  intro i hi
  rw [doL_len] at hi
  rw [doL_getD _ _ _ _ _ hi]
  have := hb.get i hi
  have e : gss 2 bpp [] rs i = 0 := by simp [gss, gs]
  rw [e]; omega
theorem doL_same (bpp : Nat) (rs : List Int) (i : Nat) (hi : i < rs.length) : (doL 2 bpp rs rs).getD i 0 = 0 := by
  rw [doL_getD _ _ _ _ _ hi]
  simp [gss, gs]
theorem doL_sub (bpp : Nat) (rs : List Int) (hb : isB rs) (i : Nat) (hi : i < rs.length) (h : i < bpp) : (doL 1 bpp [] rs).getD i 0 = rs.getD i 0 := by
  rw [doL_getD _ _ _ _ _ hi]
  have := hb.get i hi
  unfold gss gs lback
  simp only [if_true]
  rw [if_neg (by omega)]; omega
theorem doL_pae (bpp : Nat) (rs : List Int) : doL 4 bpp [] rs = doL 1 bpp [] rs := by
  unfold doL
  apply List.map_congr_left
  intro i _
  have e : gss 4 bpp [] rs i = gss 1 bpp [] rs i := by
    unfold gss
    have h0 : lback [] i bpp = 0 := by unfold lback; split <;> simp
    simp only [List.getD_nil, h0]
    unfold gs
    simp [pae_zero]
  rw [e]

set_option maxRecDepth 100000 in
set_option maxHeartbeats 1000000 in
theorem kinds_out (bpp : Int) (ra : Option Addr) (rn rc : Nat) (w : World) (hr : rn ≤ 9223372036854775807) (h : 5000 < rn ∨ bpp < 1 ∨ 8 < bpp) :
    Calls Try.prog 6 #[.int .i64 bpp, .slice ra rn rc] w fun e w' => e = .returned (.bool true) ∧ Below w.heap.size w w' := by
  by_cases c2 : (5000 : Int) < rn
  · clear h
    go_enter Try.func6, Try.ntmps6
    go_wp2_with fail
    refine (first_any w).mono ?_; rintro e w1 ⟨rfl, hb1⟩
    go_wp2_with fail
    refine (first_any w1).mono ?_; rintro e w2 ⟨rfl, hb2⟩
    go_wp2_with fail
    go_ret
    exact ⟨rfl, below_size hb1 hb2⟩
  · by_cases c3 : bpp < 1
    · clear h
      go_enter Try.func6, Try.ntmps6
      go_wp2_with fail
      refine (first_any w).mono ?_; rintro e w1 ⟨rfl, hb1⟩
      go_wp2_with fail
      refine (first_any w1).mono ?_; rintro e w2 ⟨rfl, hb2⟩
      go_wp2_with fail
      go_ret
      exact ⟨rfl, below_size hb1 hb2⟩
    · have c4 : 8 < bpp := by omega
      clear h
      go_enter Try.func6, Try.ntmps6
      go_wp2_with fail
      refine (first_any w).mono ?_; rintro e w1 ⟨rfl, hb1⟩
      go_wp2_with fail
      refine (first_any w1).mono ?_; rintro e w2 ⟨rfl, hb2⟩
      go_wp2_with fail
      go_ret
      exact ⟨rfl, below_size hb1 hb2⟩

set_option maxRecDepth 100000 in
set_option maxHeartbeats 4000000 in
theorem kinds_in (bpp : Nat) (ra : Option Addr) (rn rc : Nat) (rs : List Int) (w : World) (hr : Reads .u8 w ra rn rc rs) (br : isB rs) (h : ¬ (5000 < rn ∨ (bpp : Int) < 1 ∨ 8 < (bpp : Int))) :
    Calls Try.prog 6 #[.int .i64 bpp, .slice ra rn rc] w fun e w' => e = .returned (.bool true) ∧ Below w.heap.size w w' := by
  have c2 : ¬ (5000 : Int) < rn := by omega
  have c3 : ¬ (bpp : Int) < 1 := by omega
  have c4 : ¬ 8 < (bpp : Int) := by omega
  have hE : ∀ (j : Nat) (pn : Nat), j < 5 → (pn = 0 ∨ pn = rn) → mayE j bpp pn rn = 0 := by
    intro j pn hj hp
    unfold mayE
    rw [if_neg (by omega), if_neg (by omega)]
  have HE := Lib.hid hE
  have Hl := Lib.hid hr.len
  have k0 := doL_none bpp rs br
  have k2 := doL_up bpp rs br
  have k4 := doL_pae bpp rs
  have ks := doL_same bpp rs
  have k1 := doL_sub bpp rs br
  have K0 := Lib.hid k0; have K2 := Lib.hid k2; have K4 := Lib.hid k4; have KS := Lib.hid ks; have K1 := Lib.hid k1
  clear hE h k0 k2 k4 ks k1
  go_enter Try.func6, Try.ntmps6
  go_wp2_with fail
  refine (first_any w).mono ?_; rintro e w1 ⟨rfl, hb1⟩
  have hr1 := hr.below hb1
  go_wp2_with fail
  refine (do_yes (0 : Nat) bpp Option.none ra 0 0 rn rc [] rs w1 (Reads.none _ _) hr1 isB.nil br (HE.out 0 0 (by omega) (.inl rfl)) (by omega)).mono ?_
  rintro e w2 ⟨g2, c2', rfl, ho2, hb2⟩
  rw [show ((0 : Nat) : Int) = 0 from rfl, K0.out, Hl.out] at ho2
  rw [show ((0 : Nat) : Int) = 0 from rfl, K0.out, Hl.out]
  have ha2 := reads_of_owns ho2
  have hr2 := hr1.below hb2
  go_wp2_with fail
  refine (do_yes (2 : Nat) bpp ra ra rn rc rn rc rs rs w2 hr2 hr2 br br (HE.out 2 rn (by omega) (.inr rfl)) (by omega)).mono ?_
  rintro e w3 ⟨g3, c3', rfl, ho3, hb3⟩
  rw [show ((2 : Nat) : Int) = 2 from rfl, doL_len, Hl.out] at ho3
  rw [doL_len, Hl.out]
  have hb3r := reads_of_owns ho3
  have hr3 := hr2.below hb3
  go_wp2_with fail
  refine (do_yes (2 : Nat) bpp Option.none ra 0 0 rn rc [] rs w3 (Reads.none _ _) hr3 isB.nil br (HE.out 2 0 (by omega) (.inl rfl)) (by omega)).mono ?_
  rintro e w4 ⟨g4, c4', rfl, ho4, hb4⟩
  rw [show ((2 : Nat) : Int) = 2 from rfl, K2.out, Hl.out] at ho4
  rw [show ((2 : Nat) : Int) = 2 from rfl, K2.out, Hl.out]
  have hc4 := reads_of_owns ho4
  have hr4 := hr3.below hb4
  go_wp2_with fail
  refine (do_yes (1 : Nat) bpp Option.none ra 0 0 rn rc [] rs w4 (Reads.none _ _) hr4 isB.nil br (HE.out 1 0 (by omega) (.inl rfl)) (by omega)).mono ?_
  rintro e w5 ⟨g5, c5', rfl, ho5, hb5⟩
  rw [show ((1 : Nat) : Int) = 1 from rfl, doL_len, Hl.out] at ho5
  rw [doL_len, Hl.out]
  have hd5 := reads_of_owns ho5
  have hr5 := hr4.below hb5
  go_wp2_with fail
  refine (do_yes (4 : Nat) bpp Option.none ra 0 0 rn rc [] rs w5 (Reads.none _ _) hr5 isB.nil br (HE.out 4 0 (by omega) (.inl rfl)) (by omega)).mono ?_
  rintro e w6 ⟨g6, c6', rfl, ho6, hb6⟩
  rw [show ((4 : Nat) : Int) = 4 from rfl, K4.out, doL_len, Hl.out] at ho6
  rw [show ((4 : Nat) : Int) = 4 from rfl, K4.out, doL_len, Hl.out]
  have hx6 := reads_of_owns ho6
  have hr6 := hr5.below hb6
  have hd6 := hd5.below hb6
  have hc6 := (hc4.below hb5).below hb6
  have hb6r := ((hb3r.below hb4).below hb5).below hb6
  have ha6 := (((ha2.below hb3).below hb4).below hb5).below hb6
  have hb7 := below_size hb1 (below_size hb2 (below_size hb3 (below_size hb4 (below_size hb5 hb6))))
  have hne : ((rn : Int) != (rn : Int)) = false := by simp
  have dB := doL_isB 1 bpp [] rs
  clear ho2 ho3 ho4 ho5 ho6 ha2 hb3r hc4 hd5 hr1 hr2 hr3 hr4 hr5 hb1 hb2 hb3 hb4 hb5 hb6
  have HR := Lib.hid hr6; have HD := Lib.hid hd6; have HB := Lib.hid hb6r; have HC := Lib.hid hc6; have HA := Lib.hid ha6; have HX := Lib.hid hx6
  clear hr6 hd6 hb6r hc6 ha6 hx6
  go_wp2_with fail
  go_loopw [15] (fun i wr => ∃ k : Nat, k ≤ rn ∧ i = .int .i64 k ∧ ∃ nq, wr = w6.drewN nq) (fun i _ => rn - (intOf i).toNat)
  case atStart => exact ⟨0, Nat.zero_le _, rfl, 0, rfl⟩
  case round =>
    obtain ⟨k, hk, rfl, nq0, rfl⟩ := hrel
    by_cases hlt : k < rn
    · obtain ⟨b1, o1, e1, t1⟩ := HB.out.cellAt k hlt
      cases e1
      rw [KS.out k (by rw [Hl.out]; exact hlt), Nat.zero_add] at t1
      have q0 : ((0 : Int) != 0) = false := rfl
      by_cases hkb : k < bpp
      · obtain ⟨b2, o2, e2, t2⟩ := HD.out.cellAt k hlt
        cases e2
        obtain ⟨b3, o3, e3, t3⟩ := HR.out.cellAt k hlt
        cases e3
        rw [K1.out k (by rw [Hl.out]; exact hlt) hkb, Nat.zero_add] at t2
        generalize rs.getD k 0 = x at *
        have q : (x != x) = false := by simp
        have hkb' : (k : Int) < bpp := by omega
        go_wp2_with fail
        go_quiet (fail)
        rw [drewN_drewN]
        generalize nq0 + nq = qq
        go_wp2_with fail
        go_roundw
        case rel => exact ⟨k + 1, by omega, by go_num, qq, rfl⟩
        case measure => simp [intOf]; omega
      · have hkb' : decide ((k : Int) < bpp) = false := by simp; omega
        go_wp2_with fail
        go_quiet (fail)
        rw [drewN_drewN]
        generalize nq0 + nq = qq
        go_wp2_with fail
        go_roundw
        case rel => exact ⟨k + 1, by omega, by go_num, qq, rfl⟩
        case measure => simp [intOf]; omega
    · obtain rfl : k = rn := by omega
      have hA := HA.out.drewN nq0
      have hC := HC.out.drewN nq0
      have hD := HD.out.drewN nq0
      have hX := HX.out.drewN nq0
      have hR := HR.out.drewN nq0
      have hb8 := below_drewN hb7 nq0
      generalize w6.drewN nq0 = w8 at *
      go_wp2_with fail
      refine (first_any w8).mono ?_; rintro e w9 ⟨rfl, hb9⟩
      go_wp2_with fail
      refine (bytes_any _ _ _ _ _ _ _ _ w9 (hA.below hb9) (hR.below hb9) br br).mono ?_; rintro e w10 ⟨rfl, rfl⟩
      rw [decide_eq_true rfl]
      go_wp2_with fail
      refine (bytes_any _ _ _ _ _ _ _ _ w10 (hC.below hb9) (hR.below hb9) br br).mono ?_; rintro e w11 ⟨rfl, rfl⟩
      rw [decide_eq_true rfl]
      go_wp2_with fail
      refine (bytes_any _ _ _ _ _ _ _ _ w11 (hX.below hb9) (hD.below hb9) dB dB).mono ?_; rintro e w12 ⟨rfl, rfl⟩
      rw [decide_eq_true rfl]
      go_wp2_with fail
      go_ret
      exact ⟨rfl, below_size hb8 hb9⟩

theorem walk_FiltKinds (bpp : Int) (ra : Option Addr) (rn rc : Nat) (rs : List Int) (w : World) (_h1 : -9223372036854775808 ≤ bpp ∧ bpp ≤ 9223372036854775807) (hr : Reads .u8 w ra rn rc rs) (br : isB rs) :
    Calls Try.prog 6 #[.int .i64 bpp, .slice ra rn rc] w fun e w' => e = .returned (.bool true) ∧ Below w.heap.size w w' := by
  by_cases h : 5000 < rn ∨ bpp < 1 ∨ 8 < bpp
  · exact kinds_out bpp ra rn rc w hr.n63.1 h
  · obtain ⟨bpp, rfl⟩ := Int.eq_ofNat_of_zero_le (show 0 ≤ bpp by omega)
    exact kinds_in bpp ra rn rc rs w hr br h
end Go.Proofs.Ytkbbnmcbekhioaa
