/-
  The walk of TileJoins.
-/
import Derived.Test.YtdmaoaclhaofbaaTileJoin
import Derived.Test.YtdmaoaclhaofbaaTileRJoin
namespace Go.Proofs.Ytdmaoaclhaofbaa
open Go.RowKit

theorem jAll_isB {W H C D : Int} {ts : List Til} {n : Nat} (h : ∀ j, j < n → isB (ts.getD j ((0, 0, 0, 0), [])).2) : ∀ k, k ≤ n → isB (jAll W H C D ts k)
  | 0, _ => fun x hx => by rw [jAll] at hx; simp at hx; omega
  | k + 1, hk => jRows_isB (h k (by omega)) (jAll_isB h k (by omega)) _
theorem jRes_isB {w : World} {b off n cap : Nat} {ts : List Til} (h : RL w b off n cap ts) (W H C D : Int) : isB (jRes W H C D ts).1.2 := by
  unfold jRes
  split
  · split
    · split
      · exact jAll_isB (n := n) (fun j hj => by obtain ⟨_, _, _, _, _, _, _, _, hb, _⟩ := h.at_ j hj; exact hb) _ (by rw [h.len]; exact Nat.le_refl _)
      · exact isB.nil
    · exact isB.nil
  · exact isB.nil
theorem join_any (W H C D : Int) (a : Option Addr) (b off n cap : Nat) (ts : List Til) (w : World) (ha : 0 < n → a = some ⟨b, off, Option.none⟩) (hr : RL w b off n cap ts) (hH : -9223372036854775808 ≤ H ∧ H ≤ 9223372036854775807) (hn : n ≤ 9223372036854775807) :
    Calls Try.prog 20 #[shp W H C D, .slice a n cap] w (RetRas w (jRes W H C D ts).1.1.1 (jRes W H C D ts).1.1.2.1 (jRes W H C D ts).1.1.2.2.1 (jRes W H C D ts).1.1.2.2.2 (jRes W H C D ts).1.2 (jRes W H C D ts).2) := by
  cases hm : mayN W H C D with
  | false =>
    have e : jRes W H C D ts = (((0, 0, 0, 0), []), 4) := by unfold jRes; rw [hm]; simp
    rw [e]
    exact join_not W H C D a b off n cap ts w ha hr hH hm
  | true =>
    by_cases hN : n = tN W H
    · exact join_yes W H C D a b off n cap ts w ha hr hm hN
    · have e : jRes W H C D ts = (((0, 0, 0, 0), []), 1) := by unfold jRes; rw [if_pos hm, if_neg (by rw [hr.len]; exact hN)]
      rw [e]
      exact join_len W H C D a b off n cap ts w ha hr hH hm hN hn
theorem rjoin_any (W H C D : Int) (a : Option Addr) (b off n cap : Nat) (ts : List Til) (w : World) (ha : 0 < n → a = some ⟨b, off, Option.none⟩) (hr : RL w b off n cap ts) (hH : -9223372036854775808 ≤ H ∧ H ≤ 9223372036854775807) (hn : n ≤ 9223372036854775807) :
    Calls Try.prog 21 #[shp W H C D, .slice a n cap] w (RetRas w (jRes W H C D ts).1.1.1 (jRes W H C D ts).1.1.2.1 (jRes W H C D ts).1.1.2.2.1 (jRes W H C D ts).1.1.2.2.2 (jRes W H C D ts).1.2 (jRes W H C D ts).2) := by
  cases hm : mayN W H C D with
  | false =>
    have e : jRes W H C D ts = (((0, 0, 0, 0), []), 4) := by unfold jRes; rw [hm]; simp
    rw [e]
    exact rjoin_not W H C D a b off n cap ts w ha hr hH hm
  | true =>
    by_cases hN : n = tN W H
    · exact rjoin_yes W H C D a b off n cap ts w ha hr hm hN
    · have e : jRes W H C D ts = (((0, 0, 0, 0), []), 1) := by unfold jRes; rw [if_pos hm, if_neg (by rw [hr.len]; exact hN)]
      rw [e]
      exact rjoin_len W H C D a b off n cap ts w ha hr hH hm hN hn
set_option maxRecDepth 100000 in
set_option maxHeartbeats 4000000 in
theorem walk_joins (W H C D : Int) (a : Option Addr) (b off n cap : Nat) (ts : List Til) (w : World) (ha : 0 < n → a = some ⟨b, off, Option.none⟩) (hr : RL w b off n cap ts) (hH : -9223372036854775808 ≤ H ∧ H ≤ 9223372036854775807) (hc : cap ≤ maxLen) :
    Calls Try.prog 4 #[shp W H C D, .slice a n cap] w fun e w' => e = .returned (.bool true) ∧ Below w.heap.size w w' := by
  have hn63 : n ≤ 9223372036854775807 := by have h1 := hr.le; unfold maxLen at hc; omega
  have J1 := Lib.hid (fun (w' : World) (h : RL w' b off n cap ts) => join_any W H C D a b off n cap ts w' ha h hH hn63)
  have J2 := Lib.hid (fun (w' : World) (h : RL w' b off n cap ts) => rjoin_any W H C D a b off n cap ts w' ha h hH hn63)
  have JB := Lib.hid (jRes_isB hr W H C D)
  generalize (jRes W H C D ts).1.1.1 = W' at *
  generalize (jRes W H C D ts).1.1.2.1 = H' at *
  generalize (jRes W H C D ts).1.1.2.2.1 = C' at *
  generalize (jRes W H C D ts).1.1.2.2.2 = D' at *
  generalize (jRes W H C D ts).1.2 = ys at *
  generalize (jRes W H C D ts).2 = E at *
  have HA := Lib.hid ha
  have bl : Below w.heap.size w (w.alloc (.cells #[.int .i64 W, .int .i64 H, .int .i64 C, .int .i64 D] 23)) := (Below.refl _ _).alloc (Nat.le_refl _) _
  have bx := Lib.hid (box_alloc w W H C D 23)
  have B := Lib.hid bl
  have R := Lib.hid (hr.below bl)
  clear hr ha hc
  go_enter Try.func4, Try.ntmps4
  go_wp2_with fail
  generalize (w.alloc (.cells #[.int .i64 W, .int .i64 H, .int .i64 C, .int .i64 D] 23)) = v0 at *
  clear bl
  refine (first_any _).mono ?_; rintro e w1 ⟨rfl, bb⟩
  replace B := Lib.hid (below_size B.out bb)
  replace bx := Lib.hid (bx.out.below bb)
  replace R := Lib.hid (R.out.below bb)
  clear bb
  go_wp2_with fail
  go_loopw [5, 6] (fun vn vi wr => ∃ (i m : Nat), i ≤ n ∧ i ≤ 1100 ∧ m ≤ 80000 ∧ vn = .int .i64 m ∧ vi = .int .i64 i ∧ wr = w1) (fun _ vi _ => n - (intOf vi).toNat)
  case atStart => exact ⟨0, 0, Nat.zero_le _, Nat.zero_le _, Nat.zero_le _, rfl, rfl, rfl⟩
  case round =>
    obtain ⟨i, m, hi, hi2, hm, rfl, rfl, hw⟩ := hrel
    subst hw
    by_cases hlt : i < n ∧ i < 1100
    · obtain ⟨h1, h2⟩ := hlt
      obtain ⟨t, ht⟩ : ∃ t, ts.getD i ((0, 0, 0, 0), []) = t := ⟨_, rfl⟩
      obtain ⟨⟨Wt, Ht, Ct, Dt⟩, xs⟩ := t
      obtain ⟨p, c, ev, hp, _, _, _⟩ := R.out.el i h1 ht
      have hae := HA.out (by omega)
      subst hae
      have v4 := ev.c4
      have hx63 := hp.n63
      obtain ⟨L, hL⟩ : ∃ L, xs.length = L := ⟨_, rfl⟩
      rw [hL] at v4 hx63
      obtain ⟨q, hq⟩ : ∃ q : Nat, min L 20001 = q := ⟨_, rfl⟩
      obtain ⟨s, hs⟩ : ∃ s : Nat, min (m + q) 80000 = s := ⟨_, rfl⟩
      have e1 : min (L : Int) 20001 = (q : Int) := by omega
      have e2 : min ((m : Int) + q) 80000 = (s : Int) := by omega
      have hq1 : q ≤ 20001 := by omega
      have hs1 : s ≤ 80000 := by omega
      have HQ := Lib.hid hq; have HS := Lib.hid hs
      clear ev hp ht hL hq hs e1 e2
      go_wp2_with fail
      go_roundw
      case rel => exact ⟨i + 1, s, by omega, by omega, hs1, (by have e1 := HQ.out; have e2 := HS.out; congr 1; (repeat' split) <;> omega), by go_num, by first | rfl | trivial⟩
      case measure => simp [intOf]; omega
    · by_cases hbig : 1100 < n ∨ 20000 < m
      · have hcond : decide ((1100 : Int) < n) = true ∨ (decide ((1100 : Int) < n) = false ∧ decide ((20000 : Int) < m) = true) := by
          by_cases h : 1100 < n
          · exact .inl (by rw [decide_eq_true_iff]; omega)
          · exact .inr ⟨by simp; omega, by rw [decide_eq_true_iff]; omega⟩
        rcases hcond with h1 | ⟨h1, h2⟩
        all_goals
          go_wp2_with fail
        all_goals
          refine (first_any _).mono ?_; rintro e w2 ⟨rfl, bb⟩
          go_wp2_with fail
          go_ret
          exact ⟨rfl, below_size B.out bb⟩
      · have hn1 : decide ((1100 : Int) < n) = false := by simp; omega
        have hm1 : decide ((20000 : Int) < m) = false := by simp; omega
        have hin : i = n := by omega
        clear hbig hlt hn63 hi hi2 hm
        subst hin
    
        have c0 := bx.out.c0; have c1 := bx.out.c1; have c2 := bx.out.c2; have c3 := bx.out.c3
        go_wp2_with fail
        clear c0 c1 c2 c3
        refine (J1.out _ R.out).mono ?_; rintro e x1 ⟨ax, kx, rfl, ox, bb⟩
        replace B := Lib.hid (below_size B.out bb)
        replace bx := Lib.hid (bx.out.below bb)
        replace R := Lib.hid (R.out.below bb)
        have Xx := Lib.hid (reads_of_owns ox)
        have bl : Below x1.heap.size x1 (x1.alloc (.cells #[.int .i64 W', .int .i64 H', .int .i64 C', .int .i64 D', .slice ax ys.length kx] 26)) := (Below.refl _ _).alloc (Nat.le_refl _) _
        have bx2 := Lib.hid (rbox_alloc x1 W' H' C' D' ax ys.length kx 26)
        replace B := Lib.hid (below_size B.out bl)
        replace bx := Lib.hid (bx.out.below bl)
        replace R := Lib.hid (R.out.below bl)
        replace Xx := Lib.hid (Xx.out.below bl)
        clear bb bl ox
        have c0 := bx.out.c0; have c1 := bx.out.c1; have c2 := bx.out.c2; have c3 := bx.out.c3
        go_wp2_with fail
        clear c0 c1 c2 c3
        generalize x1.alloc (.cells #[.int .i64 W', .int .i64 H', .int .i64 C', .int .i64 D', .slice ax ys.length kx] 26) = vx at *
        refine (J2.out _ R.out).mono ?_; rintro e x2 ⟨ay, ky, rfl, oy, bb⟩
        replace B := Lib.hid (below_size B.out bb)
        replace bx := Lib.hid (bx.out.below bb)
        replace R := Lib.hid (R.out.below bb)
        replace Xx := Lib.hid (Xx.out.below bb)
        replace bx2 := Lib.hid (bx2.out.below bb)
        have Xy := Lib.hid (reads_of_owns oy)
        have bl : Below x2.heap.size x2 (x2.alloc (.cells #[.int .i64 W', .int .i64 H', .int .i64 C', .int .i64 D', .slice ay ys.length ky] 26)) := (Below.refl _ _).alloc (Nat.le_refl _) _
        have by2 := Lib.hid (rbox_alloc x2 W' H' C' D' ay ys.length ky 26)
        replace B := Lib.hid (below_size B.out bl)
        replace bx := Lib.hid (bx.out.below bl)
        replace R := Lib.hid (R.out.below bl)
        replace Xx := Lib.hid (Xx.out.below bl)
        replace bx2 := Lib.hid (bx2.out.below bl)
        replace Xy := Lib.hid (Xy.out.below bl)
        clear bb bl oy
        go_wp2_with fail
        generalize x2.alloc (.cells #[.int .i64 W', .int .i64 H', .int .i64 C', .int .i64 D', .slice ay ys.length ky] 26) = vy at *
        refine (first_any _).mono ?_; rintro e x3 ⟨rfl, bb⟩
        replace B := Lib.hid (below_size B.out bb)
        replace bx := Lib.hid (bx.out.below bb)
        replace R := Lib.hid (R.out.below bb)
        replace Xx := Lib.hid (Xx.out.below bb)
        replace bx2 := Lib.hid (bx2.out.below bb)
        replace Xy := Lib.hid (Xy.out.below bb)
        replace by2 := Lib.hid (by2.out.below bb)
        clear bb
        have c0 := bx2.out.box.c0; have c1 := bx2.out.box.c1; have c2 := bx2.out.box.c2; have c3 := bx2.out.box.c3; have c4 := bx2.out.c4
        have d0 := by2.out.box.c0; have d1 := by2.out.box.c1; have d2 := by2.out.box.c2; have d3 := by2.out.box.c3; have d4 := by2.out.c4
        go_wp2_with fail
        clear c0 c1 c2 c3 c4
        clear d0 d1 d2 d3 d4
        have q1 := eqRaster_any W' H' C' D' W' H' C' D' _ _ _ _ _ _ _ _ _ Xx.out Xy.out JB.out JB.out
        rw [eqR_self] at q1
        have Q1 := Lib.hid q1
        clear q1
        refine (Q1.out).mono ?_; rintro e x4 ⟨rfl, bb⟩
        replace B := Lib.hid (below_size B.out bb)
        replace bx := Lib.hid (bx.out.below bb)
        replace R := Lib.hid (R.out.below bb)
        replace Xx := Lib.hid (Xx.out.below bb)
        replace bx2 := Lib.hid (bx2.out.below bb)
        replace Xy := Lib.hid (Xy.out.below bb)
        replace by2 := Lib.hid (by2.out.below bb)
        clear bb
        go_wp2_with fail
        go_ret
        exact ⟨rfl, B.out⟩

theorem walk_TileJoins (W H C D : Int) (a : Option Addr) (b off n cap : Nat) (ts : List Til) (w : World) (_ : -9223372036854775808 ≤ W ∧ W ≤ 9223372036854775807) (hH : -9223372036854775808 ≤ H ∧ H ≤ 9223372036854775807) (_ : -9223372036854775808 ≤ C ∧ C ≤ 9223372036854775807) (_ : -9223372036854775808 ≤ D ∧ D ≤ 9223372036854775807) (ha : 0 < n → a = some ⟨b, off, Option.none⟩) (hc : cap ≤ maxLen) (hr : RL w b off n cap ts) :
    Calls Try.prog 4 #[shp W H C D, .slice a n cap] w fun e w' => e = .returned (.bool true) ∧ Below w.heap.size w w' := walk_joins W H C D a b off n cap ts w ha hr hH hc

end Go.Proofs.Ytdmaoaclhaofbaa
