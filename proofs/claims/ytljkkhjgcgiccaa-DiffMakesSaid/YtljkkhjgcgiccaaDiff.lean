/-
  diff.alike, diff.Make.
-/
import Derived.Test.YtljkkhjgcgiccaaRaster
import Derived.Test.YtljkkhjgcgiccaaCopy
import Derived.Test.YtljkkhjgcgiccaaBytes
namespace Go.Proofs.Ytljkkhjgcgiccaa
open Go.RowKit

def shEq (W H C D W' H' C' D' : Int) : Prop := W = W' ∧ H = H' ∧ C = C' ∧ D = D'
instance (W H C D W' H' C' D' : Int) : Decidable (shEq W H C D W' H' C' D') := by unfold shEq; infer_instance
def alikeE (W H C D : Int) (n : Nat) (W' H' C' D' : Int) (m : Nat) : Int := if mayR W H C D n = true ∧ mayR W' H' C' D' m = true then (if shEq W H C D W' H' C' D' then 0 else 13) else 4

theorem two_boxes (w : World) (W H C D : Int) (a : Option Addr) (n cap : Nat) (W' H' C' D' : Int) (b : Option Addr) (m k : Nat) :
    ∃ v, v = (w.alloc (.cells #[.int .i64 W, .int .i64 H, .int .i64 C, .int .i64 D, .slice a n cap] 26)).alloc (.cells #[.int .i64 W', .int .i64 H', .int .i64 C', .int .i64 D', .slice b m k] 26) ∧ Below w.heap.size w v ∧ RBox v w.heap.size W H C D a n cap ∧ RBox v (w.heap.size + 1) W' H' C' D' b m k := by
  refine ⟨_, rfl, ((Below.refl _ _).alloc (Nat.le_refl _) _).alloc (by simp) _, (rbox_alloc w W H C D a n cap _).below ((Below.refl _ _).alloc (Nat.le_refl _) _), ?_⟩
  have := rbox_alloc (w.alloc (.cells #[.int .i64 W, .int .i64 H, .int .i64 C, .int .i64 D, .slice a n cap] 26)) W' H' C' D' b m k 26
  rwa [World.size_alloc] at this

set_option maxHeartbeats 2000000 in
theorem alike_any (W H C D : Int) (a : Option Addr) (n cap : Nat) (W' H' C' D' : Int) (b : Option Addr) (m k : Nat) (w : World) (hH : -9223372036854775808 ≤ H ∧ H ≤ 9223372036854775807) (hH' : -9223372036854775808 ≤ H' ∧ H' ≤ 9223372036854775807) :
    Calls Try.prog 19 #[ras W H C D a n cap, ras W' H' C' D' b m k] w fun e w' => e = .returned (.int .i64 (alikeE W H C D n W' H' C' D' m)) ∧ Below w.heap.size w w' := by
  obtain ⟨v, hv, hb, bx, by_⟩ := two_boxes w W H C D a n cap W' H' C' D' b m k
  have c1 := fun w' => may_any W H C D a n cap w' hH
  have c2 := fun w' => may_any W' H' C' D' b m k w' hH'
  have HB := Lib.hid hb; have BX := Lib.hid bx; have BY := Lib.hid by_
  unfold alikeE
  clear hb bx by_
  cases h1 : mayR W H C D n
  · rw [h1] at c1
    simp only [Bool.false_eq_true, false_and, if_false]
    go_enter Try.func19, Try.ntmps19
    go_wp2_with fail
    rw [← hv]
    clear hv
    refine (c1 _).mono ?_; rintro e w1 ⟨rfl, b1⟩
    have B1 := below_size HB.out b1
    clear b1
    go_wp2_with fail
    go_ret
    exact ⟨rfl, B1⟩
  · rw [h1] at c1
    cases h2 : mayR W' H' C' D' m
    · rw [h2] at c2
      simp only [Bool.false_eq_true, and_false, if_false]
      clear h1 h2
      go_enter Try.func19, Try.ntmps19
      go_wp2_with fail
      rw [← hv]
      clear hv
      refine (c1 _).mono ?_; rintro e w1 ⟨rfl, b1⟩
      have B1 := below_size HB.out b1
      have y1 := BY.out.below b1
      have d0 := y1.box.c0; have d1 := y1.box.c1; have d2 := y1.box.c2; have d3 := y1.box.c3; have d4 := y1.c4
      clear b1
      go_wp2_with fail
      refine (c2 _).mono ?_; rintro e w2 ⟨rfl, b2⟩
      have B2 := below_size B1 b2
      clear d0 d1 d2 d3 d4
      clear b2
      go_wp2_with fail
      go_ret
      exact ⟨rfl, B2⟩
    · rw [h2] at c2
      simp only [and_self, if_true]
      clear h1 h2
      by_cases hs : shEq W H C D W' H' C' D'
      · rw [if_pos hs]
        obtain ⟨rfl, rfl, rfl, rfl⟩ := hs
        go_enter Try.func19, Try.ntmps19
        go_wp2_with fail
        rw [← hv]
        clear hv
        refine (c1 _).mono ?_; rintro e w1 ⟨rfl, b1⟩
        have B1 := below_size HB.out b1
        have y1 := BY.out.below b1
        have x1 := BX.out.below b1
        have d0 := y1.box.c0; have d1 := y1.box.c1; have d2 := y1.box.c2; have d3 := y1.box.c3; have d4 := y1.c4
        clear b1
        go_wp2_with fail
        refine (c2 _).mono ?_; rintro e w2 ⟨rfl, b2⟩
        have B2 := below_size B1 b2
        have y2 := y1.below b2
        have x2 := x1.below b2
        clear d0 d1 d2 d3 d4
        have d0 := y2.box.c0; have d1 := y2.box.c1; have d2 := y2.box.c2; have d3 := y2.box.c3; have d4 := y2.c4
        have c0 := x2.box.c0; have c1 := x2.box.c1; have c2 := x2.box.c2; have c3 := x2.box.c3; have c4 := x2.c4
        clear b2
        go_wp2_with fail
        go_ret
        exact ⟨rfl, B2⟩
      · rw [if_neg hs]
        have HS := Lib.hid hs
        clear hs
        go_enter Try.func19, Try.ntmps19
        go_wp2_with fail
        rw [← hv]
        clear hv
        refine (c1 _).mono ?_; rintro e w1 ⟨rfl, b1⟩
        have B1 := below_size HB.out b1
        have y1 := BY.out.below b1
        have x1 := BX.out.below b1
        have d0 := y1.box.c0; have d1 := y1.box.c1; have d2 := y1.box.c2; have d3 := y1.box.c3; have d4 := y1.c4
        clear b1
        go_wp2_with fail
        refine (c2 _).mono ?_; rintro e w2 ⟨rfl, b2⟩
        have B2 := below_size B1 b2
        have y2 := y1.below b2
        have x2 := x1.below b2
        clear d0 d1 d2 d3 d4
        have d0 := y2.box.c0; have d1 := y2.box.c1; have d2 := y2.box.c2; have d3 := y2.box.c3; have d4 := y2.c4
        have c0 := x2.box.c0; have c1 := x2.box.c1; have c2 := x2.box.c2; have c3 := x2.box.c3; have c4 := x2.c4
        clear b2
        go_wp2_with fail
        all_goals first
          | (go_ret; exact ⟨rfl, B2⟩)
          | (exfalso; exact HS.out ⟨by assumption, by assumption, by assumption, by assumption⟩)
end Go.Proofs.Ytljkkhjgcgiccaa
