/-
  aquref.Shape, aquref.Raster: two shapes, two pictures held against one another.
-/
import Derived.Test.YtdmaoaclhaofbaaRaster
import Derived.Test.YtdmaoaclhaofbaaBytes
namespace Go.Proofs.Ytdmaoaclhaofbaa
open Go.RowKit

def eqS (W H C D W' H' C' D' : Int) : Prop := W = W' ∧ H = H' ∧ C = C' ∧ D = D'
instance (W H C D W' H' C' D' : Int) : Decidable (eqS W H C D W' H' C' D') := by unfold eqS; infer_instance
def eqR (W H C D : Int) (xs : List Int) (W' H' C' D' : Int) (ys : List Int) : Bool := decide (eqS W H C D W' H' C' D' ∧ xs = ys)
theorem eqR_self (W H C D : Int) (xs : List Int) : eqR W H C D xs W H C D xs = true := by simp [eqR, eqS]

set_option maxHeartbeats 1000000 in
theorem eqShape_any (W H C D W' H' C' D' : Int) (w : World) :
    Calls Try.prog 18 #[shp W H C D, shp W' H' C' D'] w fun e w' => e = .returned (.bool (decide (eqS W H C D W' H' C' D'))) ∧ Below w.heap.size w w' := by
  have HB := fun (b : Bool) (h : b = true ↔ eqS W H C D W' H' C' D') => Lib.hid (show b = decide (eqS W H C D W' H' C' D') from by rw [Bool.eq_iff_iff, decide_eq_true_iff]; exact h)
  generalize decide (eqS W H C D W' H' C' D') = r at *
  go_enter Try.func18, Try.ntmps18
  go_wp2
  all_goals go_ret
  all_goals refine ⟨ret_bool ?_, ((Below.refl _ _).alloc (Nat.le_refl _) _).alloc (by simp) _⟩
  all_goals refine (HB _ ?_).out
  all_goals unfold eqS
  all_goals simp
  all_goals try omega

set_option maxHeartbeats 1000000 in
theorem eqRaster_any (W H C D W' H' C' D' : Int) (a b : Option Addr) (n cap m cap' : Nat) (xs ys : List Int) (w : World) (hx : Reads .u8 w a n cap xs) (hy : Reads .u8 w b m cap' ys) (bx : isB xs) (by_ : isB ys) :
    Calls Try.prog 19 #[ras W H C D a n cap, ras W' H' C' D' b m cap'] w fun e w' => e = .returned (.bool (eqR W H C D xs W' H' C' D' ys)) ∧ Below w.heap.size w w' := by
  have hbb : Below w.heap.size w ((w.alloc (.cells #[.int .i64 W, .int .i64 H, .int .i64 C, .int .i64 D, .slice a n cap] 26)).alloc (.cells #[.int .i64 W', .int .i64 H', .int .i64 C', .int .i64 D', .slice b m cap'] 26)) := ((Below.refl _ _).alloc (Nat.le_refl _) _).alloc (by simp) _
  have b1 := (rbox_alloc w W H C D a n cap 26).below ((Below.refl _ _).alloc (Nat.le_refl _) (.cells #[.int .i64 W', .int .i64 H', .int .i64 C', .int .i64 D', .slice b m cap'] 26))
  have b2 := rbox_alloc (w.alloc (.cells #[.int .i64 W, .int .i64 H, .int .i64 C, .int .i64 D, .slice a n cap] 26)) W' H' C' D' b m cap' 26
  rw [World.size_alloc] at b2
  have HX := Lib.hid (hx.below hbb); have HY := Lib.hid (hy.below hbb)
  have HBB := Lib.hid hbb; have B1 := Lib.hid b1; have B2 := Lib.hid b2
  have hS := fun w' => eqShape_any W H C D W' H' C' D' w'
  have hE : Hid (eqR W H C D xs W' H' C' D' ys = (decide (eqS W H C D W' H' C' D') && decide (xs = ys))) := by
    show _ = _
    simp [eqR]
  clear hbb b1 b2 hx hy
  generalize eqR W H C D xs W' H' C' D' ys = r at *
  cases h : decide (eqS W H C D W' H' C' D')
  all_goals
    rw [h] at hS hE
    clear h
    go_enter Try.func19, Try.ntmps19
    go_wp2_with fail
    refine (hS _).mono ?_; rintro e w1 ⟨rfl, bb⟩
    have B := Lib.hid (below_size HBB.out bb)
    replace HX := Lib.hid (HX.out.below bb); replace HY := Lib.hid (HY.out.below bb)
    replace B1 := Lib.hid (B1.out.below bb); replace B2 := Lib.hid (B2.out.below bb)
    have c0 := B1.out.box.c0; have c1 := B1.out.box.c1; have c2 := B1.out.box.c2; have c3 := B1.out.box.c3; have c4 := B1.out.c4
    have d0 := B2.out.box.c0; have d1 := B2.out.box.c1; have d2 := B2.out.box.c2; have d3 := B2.out.box.c3; have d4 := B2.out.c4
    clear bb
    go_wp2_with fail
  · go_ret
    exact ⟨ret_bool (by rw [hE.out]; simp), B.out⟩
  · refine (bytes_any _ _ _ _ _ _ _ _ _ HX.out HY.out bx by_).mono ?_; rintro e w2 ⟨rfl, rfl⟩
    go_wp2_with fail
    go_ret
    exact ⟨ret_bool (by rw [hE.out]; simp), B.out⟩
end Go.Proofs.Ytdmaoaclhaofbaa
