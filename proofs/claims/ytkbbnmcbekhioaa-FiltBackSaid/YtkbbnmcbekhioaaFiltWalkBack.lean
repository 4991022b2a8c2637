/-
  The walk of the statement FiltBack.
-/
import Derived.Test.YtkbbnmcbekhioaaFiltUndo
import Derived.Test.YtkbbnmcbekhioaaBytes
namespace Go.Proofs.Ytkbbnmcbekhioaa
open Go.RowKit

def outside (bpp : Int) (pn rn : Nat) : Prop := 5000 < pn ∨ 5000 < rn ∨ bpp < 1 ∨ 8 < bpp ∨ (0 < pn ∧ pn ≠ rn)

set_option maxRecDepth 100000 in
set_option maxHeartbeats 1000000 in
theorem fback_out (bpp : Int) (pa ra : Option Addr) (pn pc rn rc : Nat) (w : World) (hp : pn ≤ 9223372036854775807) (hr : rn ≤ 9223372036854775807) (h : outside bpp pn rn) :
    Calls Try.prog 5 #[.int .i64 bpp, .slice pa pn pc, .slice ra rn rc] w fun e w' => e = .returned (.bool true) ∧ Below w.heap.size w w' := by
  by_cases c1 : (5000 : Int) < pn
  · clear h
    go_enter Try.func5, Try.ntmps5
    go_wp2_with fail
    refine (first_any w).mono ?_; rintro e w1 ⟨rfl, hb1⟩
    go_wp2_with fail
    refine (first_any w1).mono ?_; rintro e w2 ⟨rfl, hb2⟩
    go_wp2_with fail
    go_ret
    exact ⟨rfl, below_size hb1 hb2⟩
  · by_cases c2 : (5000 : Int) < rn
    · clear h
      go_enter Try.func5, Try.ntmps5
      go_wp2_with fail
      refine (first_any w).mono ?_; rintro e w1 ⟨rfl, hb1⟩
      go_wp2_with fail
      refine (first_any w1).mono ?_; rintro e w2 ⟨rfl, hb2⟩
      go_wp2_with fail
      go_ret
      exact ⟨rfl, below_size hb1 hb2⟩
    · by_cases c3 : bpp < 1
      · clear h
        go_enter Try.func5, Try.ntmps5
        go_wp2_with fail
        refine (first_any w).mono ?_; rintro e w1 ⟨rfl, hb1⟩
        go_wp2_with fail
        refine (first_any w1).mono ?_; rintro e w2 ⟨rfl, hb2⟩
        go_wp2_with fail
        go_ret
        exact ⟨rfl, below_size hb1 hb2⟩
      · by_cases c4 : 8 < bpp
        · clear h
          go_enter Try.func5, Try.ntmps5
          go_wp2_with fail
          refine (first_any w).mono ?_; rintro e w1 ⟨rfl, hb1⟩
          go_wp2_with fail
          refine (first_any w1).mono ?_; rintro e w2 ⟨rfl, hb2⟩
          go_wp2_with fail
          go_ret
          exact ⟨rfl, below_size hb1 hb2⟩
        · have c5 : (0 : Int) < pn := by unfold outside at h; omega
          have c6 : ((pn : Int) != (rn : Int)) = true := by rw [bne_iff_ne]; unfold outside at h; omega
          clear h
          go_enter Try.func5, Try.ntmps5
          go_wp2_with fail
          refine (first_any w).mono ?_; rintro e w1 ⟨rfl, hb1⟩
          go_wp2_with fail
          refine (first_any w1).mono ?_; rintro e w2 ⟨rfl, hb2⟩
          go_wp2_with fail
          go_ret
          exact ⟨rfl, below_size hb1 hb2⟩

set_option maxRecDepth 100000 in
set_option maxHeartbeats 4000000 in
theorem fback_in (bpp : Nat) (pa ra : Option Addr) (pn pc rn rc : Nat) (ps rs : List Int) (w : World) (hp : Reads .u8 w pa pn pc ps) (hr : Reads .u8 w ra rn rc rs) (bp : isB ps) (br : isB rs) (h : ¬ outside bpp pn rn) (hguard : ¬ (0 : Int) < pn ∨ (0 : Int) < pn ∧ ((pn : Int) != (rn : Int)) = false) :
    Calls Try.prog 5 #[.int .i64 bpp, .slice pa pn pc, .slice ra rn rc] w fun e w' => e = .returned (.bool true) ∧ Below w.heap.size w w' := by
  have c1 : ¬ (5000 : Int) < pn := by unfold outside at h; omega
  have c2 : ¬ (5000 : Int) < rn := by unfold outside at h; omega
  have c3 : ¬ (bpp : Int) < 1 := by unfold outside at h; omega
  have c4 : ¬ 8 < (bpp : Int) := by unfold outside at h; omega
  have hall : ∀ j : Nat, j < 5 → mayE j bpp pn rn = 0 := by
    intro j hj
    unfold mayE outside at *
    rw [if_neg (by omega), if_neg (by omega)]
  have Hall := Lib.hid hall
  have Hl := Lib.hid hr.len
  have hbl := bst_le bpp ps rs 4
  have hmin := bst_min bpp ps rs 5
  have Hmin := Lib.hid hmin
  clear hall h hmin
  rcases hguard with c5 | ⟨c5, c6⟩
  all_goals
    go_enter Try.func5, Try.ntmps5
    go_wp2_with fail
    refine (first_any w).mono ?_; rintro e w1 ⟨rfl, hb1⟩
    go_wp2_with fail
    refine (best_yes bpp pa ra pn pc rn rc ps rs w1 (hp.below hb1) (hr.below hb1) bp br (Hall.out 0 (by omega)) (by omega)).mono ?_
    rintro e w2 ⟨a2, c2', rfl, hx2, hb2⟩
    rw [doL_len, Hl.out] at hx2
    rw [doL_len, Hl.out]
    have hb3 := below_size hb1 hb2
    have hxB := doL_isB (bst bpp ps rs 5) bpp ps rs
    clear hb1 hb2
    generalize hbst : bst bpp ps rs 5 = best at *
    have Hbst := Lib.hid hbst; clear hbst
    go_wp2_with fail
    go_loopw [10] (fun i wr => ∃ j : Nat, j ≤ 5 ∧ i = .int .i64 j ∧ Below w2.heap.size w2 wr) (fun i _ => (5 - intOf i).toNat)
    case atStart => exact ⟨0, by omega, rfl, Below.refl _ _⟩
    case round =>
      obtain ⟨j, hj, rfl, hbel⟩ := hrel
      by_cases hlt : j < 5
      · have hb4 := below_size hb3 hbel
        have hp4 := hp.below hb4
        have hr4 := hr.below hb4
        have hx4 := hx2.below hbel
        have hE := Hall.out j hlt
        have hbpp1 : 1 ≤ bpp := by omega
        have u1 := unL_doL j bpp ps rs br hbpp1
        have u2 := doL_unL j bpp ps rs br hbpp1
        have m1 := Hmin.out j hlt
        have U1 := Lib.hid u1; have U2 := Lib.hid u2
        clear u1 u2
        go_wp2_with fail
        refine (do_yes j bpp pa ra pn pc rn rc ps rs wr hp4 hr4 bp br hE (by omega)).mono ?_
        rintro e w5 ⟨g5, c5, rfl, ho5, hb5⟩
        rw [doL_len, Hl.out] at ho5
        rw [doL_len, Hl.out]
        have hd5 := reads_of_owns ho5
        clear ho5
        go_wp2_with fail
        refine (undo_yes j bpp pa (some ⟨g5, 0, Option.none⟩) pn pc rn c5 ps (doL j bpp ps rs) w5 (hp4.below hb5) hd5 bp (doL_isB _ _ _ _) hE (by omega)).mono ?_
        rintro e w6 ⟨g6, c6, rfl, ho6, hb6⟩
        rw [U1.out, Hl.out] at ho6
        rw [U1.out, Hl.out]
        have hu6 := reads_of_owns ho6
        clear ho6
        have hb56 := below_size hb5 hb6
        go_wp2_with fail
        refine (undo_yes j bpp pa ra pn pc rn rc ps rs w6 (hp4.below hb56) (hr4.below hb56) bp br hE (by omega)).mono ?_
        rintro e w7 ⟨g7, c7, rfl, ho7, hb7⟩
        rw [unL_len, Hl.out] at ho7
        rw [unL_len, Hl.out]
        have hv7 := reads_of_owns ho7
        clear ho7
        have hb57 := below_size hb56 hb7
        go_wp2_with fail
        refine (do_yes j bpp pa (some ⟨g7, 0, Option.none⟩) pn pc rn c7 ps (unL j bpp ps rs) w7 (hp4.below hb57) hv7 bp (unL_isB _ _ _ _) hE (by omega)).mono ?_
        rintro e w8 ⟨g8, c8, rfl, ho8, hb8⟩
        rw [U2.out, Hl.out] at ho8
        rw [U2.out, Hl.out]
        have hw8 := reads_of_owns ho8
        clear ho8
        have hb58 := below_size hb57 hb8
        have hu8 := (hu6.below hb7).below hb8
        have hd8 := ((hd5.below hb6).below hb7).below hb8
        have hx8 := hx4.below hb58
        have hr8 := hr4.below hb58
        have hb9 := below_size hbel hb58
        clear hu6 hd5 hv7 hx4 hr4 hp4 hb5 hb6 hb7 hb8 hb56 hb57 hb58 hbel hb4
        go_wp2_with fail
        refine (bytes_any _ _ _ _ _ _ _ _ w8 hu8 hr8 br br).mono ?_; rintro e w9 ⟨rfl, rfl⟩
        rw [decide_eq_true rfl]
        go_wp2_with fail
        refine (bytes_any _ _ _ _ _ _ _ _ w9 hw8 hr8 br br).mono ?_; rintro e w10 ⟨rfl, rfl⟩
        rw [decide_eq_true rfl]
        go_wp2_with fail
        refine (weight_any _ _ _ _ w10 hd8 (doL_isB _ _ _ _) (by omega)).mono ?_; rintro e w11 ⟨rfl, rfl⟩
        go_wp2_with fail
        refine (weight_any _ _ _ _ w11 hx8 hxB (by omega)).mono ?_; rintro e w12 ⟨rfl, rfl⟩
        by_cases hlt1 : wt (doL j bpp ps rs) < wt (doL best bpp ps rs)
        · exfalso; have := m1.1; omega
        · by_cases heq : wt (doL j bpp ps rs) = wt (doL best bpp ps rs)
          · have hji : ¬ (j : Int) < best := by have := m1.2 heq; omega
            have q : (wt (doL j bpp ps rs) == wt (doL best bpp ps rs)) = true := by rw [beq_iff_eq]; exact heq
            clear m1 heq
            go_wp2_with (first | (go_at_call 17; first | (with_reducible refine (weight_any _ _ _ _ _ hd8 (doL_isB _ _ _ _) (by omega)).mono ?_) | (with_reducible refine (weight_any _ _ _ _ _ hx8 hxB (by omega)).mono ?_)); rintro e w13 ⟨rfl, rfl⟩)
            all_goals exact ⟨⟨j + 1, by omega, by go_num, hb9⟩, by simp [intOf]; omega⟩
          · have q : (wt (doL j bpp ps rs) == wt (doL best bpp ps rs)) = false := by rw [beq_eq_false_iff_ne]; exact heq
            clear m1 heq
            go_wp2_with (first | (go_at_call 17; first | (with_reducible refine (weight_any _ _ _ _ _ hd8 (doL_isB _ _ _ _) (by omega)).mono ?_) | (with_reducible refine (weight_any _ _ _ _ _ hx8 hxB (by omega)).mono ?_)); rintro e w13 ⟨rfl, rfl⟩)
            all_goals exact ⟨⟨j + 1, by omega, by go_num, hb9⟩, by simp [intOf]; omega⟩
      · obtain rfl : j = 5 := by omega
        have hbz := below_size hb3 hbel
        go_wp2_with fail
        refine (first_any wr).mono ?_; rintro e w13 ⟨rfl, hb13⟩
        go_wp2_with fail
        go_ret
        exact ⟨rfl, below_size hbz hb13⟩

theorem walk_FiltBack (bpp : Int) (pa : Option Addr) (pn pc : Nat) (ps : List Int) (ra : Option Addr) (rn rc : Nat) (rs : List Int) (w : World) (_h1 : -9223372036854775808 ≤ bpp ∧ bpp ≤ 9223372036854775807) (hp : Reads .u8 w pa pn pc ps) (bp : isB ps) (hr : Reads .u8 w ra rn rc rs) (br : isB rs) :
    Calls Try.prog 5 #[.int .i64 bpp, .slice pa pn pc, .slice ra rn rc] w fun e w' => e = .returned (.bool true) ∧ Below w.heap.size w w' := by
  by_cases h : outside bpp pn rn
  · exact fback_out bpp pa ra pn pc rn rc w hp.n63.1 hr.n63.1 h
  · have h' := h
    unfold outside at h'
    obtain ⟨bpp, rfl⟩ := Int.eq_ofNat_of_zero_le (show 0 ≤ bpp by omega)
    refine fback_in bpp pa ra pn pc rn rc ps rs w hp hr bp br h ?_
    by_cases c : (0 : Int) < pn
    · exact .inr ⟨c, by rw [bne_eq_false_iff_eq]; omega⟩
    · exact .inl c
end Go.Proofs.Ytkbbnmcbekhioaa
