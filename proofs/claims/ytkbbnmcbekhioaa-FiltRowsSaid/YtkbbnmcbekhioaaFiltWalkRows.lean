/-
  The walk of the statement FiltRows.
-/
import Derived.Test.YtkbbnmcbekhioaaFiltRef2
import Derived.Test.YtkbbnmcbekhioaaBytes
import Derived.Test.YtkbbnmcbekhioaaCopy
namespace Go.Proofs.Ytkbbnmcbekhioaa
open Go.RowKit

/-- A list of bytes, new or none, and an error's number. -/
def RetN (w : World) (xs : List Int) (c : Int) (e : Ending) (w' : World) : Prop := ∃ a n cap, e = .returned (.tuple #[.slice a n cap, .int .i64 c]) ∧ Reads .u8 w' a n cap xs ∧ Below w.heap.size w w'
def RetM (w : World) (k : Int) (xs : List Int) (c : Int) (e : Ending) (w' : World) : Prop := ∃ a n cap, e = .returned (.tuple #[.int .i64 k, .slice a n cap, .int .i64 c]) ∧ Reads .u8 w' a n cap xs ∧ Below w.heap.size w w'
theorem retN_of_retB {w : World} {xs : List Int} {c : Int} {e : Ending} {w' : World} (h : RetB w xs c e w') : RetN w xs c e w' := by
  obtain ⟨g, cap, he, ho, hb⟩ := h
  exact ⟨_, _, _, he, reads_of_owns ho, hb⟩
theorem retN_none {w : World} {c : Int} {e : Ending} {w' : World} (h : e = .returned (.tuple #[.slice Option.none 0 0, .int .i64 c]) ∧ w' = w) : RetN w [] c e w' :=
  ⟨_, _, _, h.1, Reads.none _ _, by rw [h.2]; exact Below.refl _ _⟩

section
variable (kind bpp : Int) (pn rn : Nat) (ps rs : List Int) (hk : -9223372036854775808 ≤ kind ∧ kind ≤ 9223372036854775807) (hbp : -9223372036854775808 ≤ bpp ∧ bpp ≤ 9223372036854775807) (bp : isB ps) (br : isB rs) (hp : pn ≤ 5000) (hr : rn ≤ 5000)
include hk hbp bp br hp hr
theorem do_both : ∃ xs c, isB xs ∧ ∀ (w : World) (pa : Option Addr) (pc : Nat) (ra : Option Addr) (rc : Nat), Reads .u8 w pa pn pc ps → Reads .u8 w ra rn rc rs →
    Calls Try.prog 10 #[.int .i64 kind, .int .i64 bpp, .slice pa pn pc, .slice ra rn rc] w (RetN w xs c) ∧ Calls Try.prog 11 #[.int .i64 kind, .int .i64 bpp, .slice pa pn pc, .slice ra rn rc] w (RetN w xs c) := by
  by_cases h : mayE kind bpp pn rn = 0
  · have h' := mayE_zero h
    obtain ⟨bpp, rfl⟩ := Int.eq_ofNat_of_zero_le (show 0 ≤ bpp by omega)
    exact ⟨_, 0, doL_isB kind bpp ps rs, fun w pa pc ra rc h1 h2 => ⟨(do_yes kind bpp pa ra pn pc rn rc ps rs w h1 h2 bp br h (by omega)).mono fun _ _ h => retN_of_retB h, (rdo_yes kind bpp pa ra pn pc rn rc ps rs w h1 h2 bp br h (by omega)).mono fun _ _ h => retN_of_retB h⟩⟩
  · exact ⟨[], _, isB.nil, fun w pa pc ra rc _ _ => ⟨(do_no kind bpp pa ra pn pc rn rc w (by omega) (by omega) hk hbp h).mono fun _ _ h => retN_none h, (rdo_no kind bpp pa ra pn pc rn rc w (by omega) (by omega) hk hbp h).mono fun _ _ h => retN_none h⟩⟩
theorem undo_both : ∃ xs c, isB xs ∧ ∀ (w : World) (pa : Option Addr) (pc : Nat) (ra : Option Addr) (rc : Nat), Reads .u8 w pa pn pc ps → Reads .u8 w ra rn rc rs →
    Calls Try.prog 12 #[.int .i64 kind, .int .i64 bpp, .slice pa pn pc, .slice ra rn rc] w (RetN w xs c) ∧ Calls Try.prog 13 #[.int .i64 kind, .int .i64 bpp, .slice pa pn pc, .slice ra rn rc] w (RetN w xs c) := by
  by_cases h : mayE kind bpp pn rn = 0
  · have h' := mayE_zero h
    obtain ⟨bpp, rfl⟩ := Int.eq_ofNat_of_zero_le (show 0 ≤ bpp by omega)
    exact ⟨_, 0, unL_isB kind bpp ps rs, fun w pa pc ra rc h1 h2 => ⟨(undo_yes kind bpp pa ra pn pc rn rc ps rs w h1 h2 bp br h (by omega)).mono fun _ _ h => retN_of_retB h, (rundo_yes kind bpp pa ra pn pc rn rc ps rs w h1 h2 bp br h (by omega)).mono fun _ _ h => retN_of_retB h⟩⟩
  · exact ⟨[], _, isB.nil, fun w pa pc ra rc _ _ => ⟨(undo_no kind bpp pa ra pn pc rn rc w (by omega) (by omega) hk hbp h).mono fun _ _ h => retN_none h, (rundo_no kind bpp pa ra pn pc rn rc w (by omega) (by omega) hk hbp h).mono fun _ _ h => retN_none h⟩⟩
omit hk in
theorem best_both : ∃ k xs c, isB xs ∧ ∀ (w : World) (pa : Option Addr) (pc : Nat) (ra : Option Addr) (rc : Nat), Reads .u8 w pa pn pc ps → Reads .u8 w ra rn rc rs →
    Calls Try.prog 14 #[.int .i64 bpp, .slice pa pn pc, .slice ra rn rc] w (RetM w k xs c) ∧ Calls Try.prog 15 #[.int .i64 bpp, .slice pa pn pc, .slice ra rn rc] w (RetM w k xs c) := by
  by_cases h : mayE 0 bpp pn rn = 0
  · have h' := mayE_zero h
    obtain ⟨bpp, rfl⟩ := Int.eq_ofNat_of_zero_le (show 0 ≤ bpp by omega)
    exact ⟨_, _, 0, doL_isB (bst bpp ps rs 5) bpp ps rs, fun w pa pc ra rc h1 h2 => ⟨(best_yes bpp pa ra pn pc rn rc ps rs w h1 h2 bp br h (by omega)).mono fun _ _ ⟨a, cap, he, hx, hb⟩ => ⟨_, _, _, he, hx, hb⟩, (rbest_yes bpp pa ra pn pc rn rc ps rs w h1 h2 bp br h (by omega)).mono fun _ _ ⟨a, cap, he, hx, hb⟩ => ⟨_, _, _, he, hx, hb⟩⟩⟩
  · exact ⟨0, [], _, isB.nil, fun w pa pc ra rc _ _ => ⟨(best_no bpp pa ra pn pc rn rc w (by omega) (by omega) hbp h).mono fun _ _ h => ⟨_, _, _, h.1, Reads.none _ _, by rw [h.2]; exact Below.refl _ _⟩, (rbest_no bpp pa ra pn pc rn rc w (by omega) (by omega) hbp h).mono fun _ _ h => ⟨_, _, _, h.1, Reads.none _ _, by rw [h.2]; exact Below.refl _ _⟩⟩⟩
end

set_option maxRecDepth 100000 in
set_option maxHeartbeats 1000000 in
theorem rows_out (kind bpp : Int) (pa ra : Option Addr) (pn pc rn rc : Nat) (w : World) (hp : pn ≤ 9223372036854775807) (hr : rn ≤ 9223372036854775807) (h : 5000 < pn ∨ 5000 < rn) :
    Calls Try.prog 3 #[.int .i64 kind, .int .i64 bpp, .slice pa pn pc, .slice ra rn rc] w fun e w' => e = .returned (.bool true) ∧ Below w.heap.size w w' := by
  by_cases c1 : (5000 : Int) < pn
  · clear h
    go_enter Try.func3, Try.ntmps3
    go_wp2_with fail
    refine (first_any w).mono ?_; rintro e w1 ⟨rfl, hb1⟩
    go_wp2_with fail
    refine (first_any w1).mono ?_; rintro e w2 ⟨rfl, hb2⟩
    go_wp2_with fail
    go_ret
    exact ⟨rfl, below_size hb1 hb2⟩
  · have c2 : (5000 : Int) < rn := by omega
    clear h
    go_enter Try.func3, Try.ntmps3
    go_wp2_with fail
    refine (first_any w).mono ?_; rintro e w1 ⟨rfl, hb1⟩
    go_wp2_with fail
    refine (first_any w1).mono ?_; rintro e w2 ⟨rfl, hb2⟩
    go_wp2_with fail
    go_ret
    exact ⟨rfl, below_size hb1 hb2⟩

set_option maxRecDepth 100000 in
set_option maxHeartbeats 4000000 in
theorem walk_FiltRows (kind bpp : Int) (pa : Option Addr) (pn pc : Nat) (ps : List Int) (ra : Option Addr) (rn rc : Nat) (rs : List Int) (w : World) (hk : -9223372036854775808 ≤ kind ∧ kind ≤ 9223372036854775807) (hbp : -9223372036854775808 ≤ bpp ∧ bpp ≤ 9223372036854775807) (hp : Reads .u8 w pa pn pc ps) (bp : isB ps) (hr : Reads .u8 w ra rn rc rs) (br : isB rs) :
    Calls Try.prog 3 #[.int .i64 kind, .int .i64 bpp, .slice pa pn pc, .slice ra rn rc] w fun e w' => e = .returned (.bool true) ∧ Below w.heap.size w w' := by
  by_cases h : 5000 < pn ∨ 5000 < rn
  · exact rows_out kind bpp pa ra pn pc rn rc w hp.n63.1 hr.n63.1 h
  · have c1 : ¬ (5000 : Int) < pn := by omega
    have c2 : ¬ (5000 : Int) < rn := by omega
    obtain ⟨x1, e1, B1, H1⟩ := do_both kind bpp pn rn ps rs hk hbp bp br (by omega) (by omega)
    obtain ⟨x2, e2, B2, H2⟩ := undo_both kind bpp pn rn ps rs hk hbp bp br (by omega) (by omega)
    obtain ⟨k3, x3, e3, B3, H3⟩ := best_both bpp pn rn ps rs hbp bp br (by omega) (by omega)
    have G1 := Lib.hid H1; have G2 := Lib.hid H2; have G3 := Lib.hid H3
    have Hl := Lib.hid hr.len
    clear H1 H2 H3 h
    go_enter Try.func3, Try.ntmps3
    go_wp2_with fail
    refine (first_any w).mono ?_; rintro e w1 ⟨rfl, hb1⟩
    go_wp2_with fail
    refine (copyBytes_any ra rn rc rs w1 (hr.below hb1) (by omega)).mono ?_; rintro e w2 ⟨a2, c2', rfl, ho2, hb2⟩
    rw [Hl.out] at ho2
    rw [Hl.out]
    have hi2 := reads_of_owns ho2
    have hb3 := below_size hb1 hb2
    clear ho2 hb1 hb2
    go_wp2_with fail
    refine (G1.out w2 pa pc a2 c2' (hp.below hb3) hi2).1.mono ?_; rintro e w3 ⟨a3, n3, c3, rfl, hx3, hw3⟩
    have hb4 := below_size hb3 hw3
    go_wp2_with fail
    refine (G1.out w3 pa pc ra rc (hp.below hb4) (hr.below hb4)).2.mono ?_; rintro e w4 ⟨a4, n4, c4, rfl, hx4, hw4⟩
    have hb5 := below_size hb4 hw4
    have hi4 := (hi2.below hw3).below hw4
    go_wp2_with fail
    refine (G2.out w4 pa pc a2 c2' (hp.below hb5) hi4).1.mono ?_; rintro e w5 ⟨a5, n5, c5, rfl, hx5, hw5⟩
    have hb6 := below_size hb5 hw5
    go_wp2_with fail
    refine (G2.out w5 pa pc ra rc (hp.below hb6) (hr.below hb6)).2.mono ?_; rintro e w6 ⟨a6, n6, c6, rfl, hx6, hw6⟩
    have hb7 := below_size hb6 hw6
    have hi6 := (hi4.below hw5).below hw6
    go_wp2_with fail
    refine (G3.out w6 pa pc a2 c2' (hp.below hb7) hi6).1.mono ?_; rintro e w7 ⟨a7, n7, c7, rfl, hx7, hw7⟩
    have hb8 := below_size hb7 hw7
    go_wp2_with fail
    refine (G3.out w7 pa pc ra rc (hp.below hb8) (hr.below hb8)).2.mono ?_; rintro e w8 ⟨a8, n8, c8, rfl, hx8, hw8⟩
    have hb9 := below_size hb8 hw8
    have hi8 := (hi6.below hw7).below hw8
    have y3 := ((((hx3.below hw4).below hw5).below hw6).below hw7).below hw8
    have y4 := (((hx4.below hw5).below hw6).below hw7).below hw8
    have y5 := ((hx5.below hw6).below hw7).below hw8
    have y6 := (hx6.below hw7).below hw8
    have y7 := hx7.below hw8
    clear hx3 hx4 hx5 hx6 hx7 hw3 hw4 hw5 hw6 hw7 hw8 hi2 hi4 hi6 hb3 hb4 hb5 hb6 hb7 hb8
    go_wp2_with fail
    refine (first_any w8).mono ?_; rintro e w9 ⟨rfl, hb10⟩
    go_wp2_with fail
    refine (bytes_any _ _ _ _ _ _ _ _ w9 (y3.below hb10) (y4.below hb10) B1 B1).mono ?_; rintro e w10 ⟨rfl, rfl⟩
    rw [decide_eq_true rfl]
    go_wp2_with fail
    refine (bytes_any _ _ _ _ _ _ _ _ w10 (y5.below hb10) (y6.below hb10) B2 B2).mono ?_; rintro e w11 ⟨rfl, rfl⟩
    rw [decide_eq_true rfl]
    go_wp2_with fail
    refine (bytes_any _ _ _ _ _ _ _ _ w11 (y7.below hb10) (hx8.below hb10) B3 B3).mono ?_; rintro e w12 ⟨rfl, rfl⟩
    rw [decide_eq_true rfl]
    have hi12 := hi8.below hb10
    have hr12 := (hr.below hb9).below hb10
    have hb13 := below_size hb9 hb10
    go_wp2_with fail
    refine (weight_any _ _ _ _ w12 hi12 br (by omega)).mono ?_; rintro e w13 ⟨rfl, rfl⟩
    go_wp2_with fail
    refine (rweight_any _ _ _ _ w13 hr12 br (by omega)).mono ?_; rintro e w14 ⟨rfl, nq, rfl⟩
    have hi14 := hi12.drewN nq
    have hr14 := hr12.drewN nq
    have hb14 := below_drewN hb13 nq
    generalize w13.drewN nq = w15 at *
    go_wp2_with fail
    refine (bytes_any _ _ _ _ _ _ _ _ w15 hi14 hr14 br br).mono ?_; rintro e w16 ⟨rfl, rfl⟩
    rw [decide_eq_true rfl]
    go_wp2_with fail
    go_ret
    exact ⟨rfl, hb14⟩
end Go.Proofs.Ytkbbnmcbekhioaa
