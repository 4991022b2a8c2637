/-
  The contract of aquref.Bytes.
-/
import Derived.Test.YtkfcjlegeccgjaaChecked
import Derived.Test.YtkfcjlegeccgjaaLib
namespace Go.Proofs.Ytkfcjlegeccgjaa
open Go.RowKit

theorem bytes_any (a b : Option Addr) (n cap m cap' : Nat) (xs ys : List Int) (w : World) (hx : Reads .u8 w a n cap xs) (hy : Reads .u8 w b m cap' ys) (bx : isB xs) (by_ : isB ys) :
    Calls Try.prog 8 #[.slice a n cap, .slice b m cap'] w fun e w' => e = .returned (.bool (decide (xs = ys))) ∧ w' = w := by
  have h1 := run_bytes_string hx 22 5 Try.underlying22 Try.underlying5 9 Try.underlying9
  have h2 := run_bytes_string hy 22 5 Try.underlying22 Try.underlying5 9 Try.underlying9
  have HE := Lib.hid (strOfNums_beq bx by_)
  clear hx hy bx by_
  go_enter Try.func8, Try.ntmps8
  go_wp2
  go_ret
  exact ⟨by rw [← HE.out]; rfl, rfl⟩

end Go.Proofs.Ytkfcjlegeccgjaa
