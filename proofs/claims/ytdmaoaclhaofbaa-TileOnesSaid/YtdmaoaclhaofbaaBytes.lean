/-
  The contract of aquref.Bytes.
-/
import Derived.Test.YtdmaoaclhaofbaaChecked
import Derived.Test.YtdmaoaclhaofbaaLib
namespace Go.Proofs.Ytdmaoaclhaofbaa
open Go.RowKit

theorem bytes_any (a b : Option Addr) (n cap m cap' : Nat) (xs ys : List Int) (w : World) (hx : Reads .u8 w a n cap xs) (hy : Reads .u8 w b m cap' ys) (bx : isB xs) (by_ : isB ys) :
    Calls Try.prog 32 #[.slice a n cap, .slice b m cap'] w fun e w' => e = .returned (.bool (decide (xs = ys))) ∧ w' = w := by
  have h1 := run_bytes_string hx 24 5 Try.underlying24 Try.underlying5 9 Try.underlying9
  have h2 := run_bytes_string hy 24 5 Try.underlying24 Try.underlying5 9 Try.underlying9
  have HE := Lib.hid (strOfNums_beq bx by_)
  clear hx hy bx by_
  go_enter Try.func32, Try.ntmps32
  go_wp2
  go_ret
  exact ⟨by rw [← HE.out]; rfl, rfl⟩

end Go.Proofs.Ytdmaoaclhaofbaa
