/-
  aquref.Shape: two shapes held against one another.
-/
import Derived.Test.YtbmbelnjgnahhaaRasBox
namespace Go.Proofs.Ytbmbelnjgnahhaa
open Go.RowKit

def eqS (W H C D W' H' C' D' : Int) : Prop := W = W' ∧ H = H' ∧ C = C' ∧ D = D'
instance (W H C D W' H' C' D' : Int) : Decidable (eqS W H C D W' H' C' D') := by unfold eqS; infer_instance
set_option maxHeartbeats 1000000 in
theorem eqShape_any (W H C D W' H' C' D' : Int) (w : World) :
    Calls Try.prog 25 #[shp W H C D, shp W' H' C' D'] w fun e w' => e = .returned (.bool (decide (eqS W H C D W' H' C' D'))) ∧ Below w.heap.size w w' := by
  have HB := fun (b : Bool) (h : b = true ↔ eqS W H C D W' H' C' D') => Lib.hid (show b = decide (eqS W H C D W' H' C' D') from by rw [Bool.eq_iff_iff, decide_eq_true_iff]; exact h)
  generalize decide (eqS W H C D W' H' C' D') = r at *
  go_enter Try.func25, Try.ntmps25
  go_wp2
  all_goals go_ret
  all_goals refine ⟨ret_bool ?_, ((Below.refl _ _).alloc (Nat.le_refl _) _).alloc (by simp) _⟩
  all_goals refine (HB _ ?_).out
  all_goals unfold eqS
  all_goals simp
  all_goals try omega
end Go.Proofs.Ytbmbelnjgnahhaa
