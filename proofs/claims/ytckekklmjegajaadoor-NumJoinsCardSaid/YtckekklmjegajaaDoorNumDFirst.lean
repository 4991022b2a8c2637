/-
  The statements' own first function of chapter 1: it answers true and changes nothing that was there.
-/
import Derived.Test.YtckekklmjegajaaDoorNumD
import Derived.Lib.SlBytesConst
namespace Go.Proofs.YtckekklmjegajaaDoor
open Go.RowKit

set_option maxHeartbeats 400000 in
theorem first_any (w : World) :
    Calls Tryd.prog 5 #[] w fun e w' => e = .returned (.bool true) ∧ Below w.heap.size w w' := by
  have kc := fun (w : World) (C : Array Value) (n c : Nat) => Lib.run_convert_bytes_const (P := Tryd.prog) w 22 5 C n c Tryd.underlying22 Tryd.underlying5
  go_enter Tryd.func5, Tryd.ntmps5
  go_wp2_with fail
  refine (big_yes 258 3 w (by omega) (by decide)).mono ?_; rintro e w1 ⟨g1, c1, rfl, ho1, hb1⟩
  have e1 : big 258 3 = [0, 1, 2] := by decide
  rw [e1] at ho1 ⊢
  simp only [List.length_cons, List.length_nil, Nat.reduceAdd] at ho1 ⊢
  go_wp2_with fail
  refine (little_yes 258 2 w1 (by omega) (by decide)).mono ?_; rintro e w2 ⟨g2, c2, rfl, ho2, hb2⟩
  have e2 : lit 258 2 = [2, 1] := by decide
  rw [e2] at ho2 ⊢
  simp only [List.length_cons, List.length_nil, Nat.reduceAdd] at ho2 ⊢
  have hr1 := (reads_of_owns ho1).below hb2
  have hr2 := reads_of_owns ho2
  have s1 := run_bytes_string hr1 22 5 Tryd.underlying22 Tryd.underlying5 9 Tryd.underlying9
  have s2 := run_bytes_string hr2 22 5 Tryd.underlying22 Tryd.underlying5 9 Tryd.underlying9
  have q1 : ((strOfNums [0, 1, 2]).toList == [0, 1, 2]) = true := by rw [ByteArray.toList_eq]; decide
  have q2 : ((strOfNums [2, 1]).toList == [2, 1]) = true := by rw [ByteArray.toList_eq]; decide
  go_wp2_with fail
  refine (adler_any _ 9 9 [87, 105, 107, 105, 112, 101, 100, 105, 97] _ (reads_alloc _ _ _ _ _ rfl (by decide) _ rfl) (isB_of_all _ (by decide))).mono ?_
  rintro e w3 ⟨rfl, rfl⟩
  have q3 : adler [87, 105, 107, 105, 112, 101, 100, 105, 97] = 300286872 := by decide
  rw [q3]
  go_wp2
  go_ret
  exact ⟨rfl, (hb1.trans (hb2.mono hb1.size)).alloc (Nat.le_trans hb1.size hb2.size) _⟩
end Go.Proofs.YtckekklmjegajaaDoor
