/-
  The statements' own first function of chapter 3.
-/
import Derived.Test.YtkfcjlegeccgjaaShaKey
import Derived.Lib.SlBytesConst
namespace Go.Proofs.Ytkfcjlegeccgjaa
open Go.RowKit

theorem keyAbc : ((keyS [97, 98, 99]).toList == [98, 97, 55, 56, 49, 54, 98, 102, 56, 102, 48, 49, 99, 102, 101, 97, 52, 49, 52, 49, 52, 48, 100, 101, 53, 100, 97, 101, 50, 50, 50, 51, 98, 48, 48, 51, 54, 49, 97, 51, 57, 54, 49, 55, 55, 97, 57, 99, 98, 52, 49, 48, 102, 102, 54, 49, 102, 50, 48, 48, 49, 53, 97, 100]) = true := by
  rw [ByteArray.toList_eq]; decide +kernel

set_option maxHeartbeats 400000 in
theorem first_any (w : World) :
    Calls Try.prog 5 #[] w fun e w' => e = .returned (.bool true) ∧ Below w.heap.size w w' := by
  have kc := fun (w : World) (C : Array Value) (n c : Nat) => Lib.run_convert_bytes_const (P := Try.prog) w 22 5 C n c Try.underlying22 Try.underlying5
  have HK := Lib.hid keyAbc
  go_enter Try.func5, Try.ntmps5
  go_wp2_with fail
  refine (key_any _ 3 3 [97, 98, 99] _ (reads_alloc _ _ _ _ _ rfl (by decide) _ rfl) (isB_of_all _ (by decide)) (by decide)).mono ?_; rintro e w1 ⟨rfl, b1⟩
  generalize keyS [97, 98, 99] = s at *
  have hs := HK.out
  go_wp2_with fail
  refine (sum_any Option.none 0 0 [] _ (Reads.none _ _) isB.nil (by decide)).mono ?_; rintro e w2 ⟨a2, c2, rfl, _, b2⟩
  rw [shaB_len]
  go_wp2_with fail
  go_ret
  exact ⟨rfl, below_size (below_size ((Below.refl _ _).alloc (Nat.le_refl _) _) b1) b2⟩
end Go.Proofs.Ytkfcjlegeccgjaa
