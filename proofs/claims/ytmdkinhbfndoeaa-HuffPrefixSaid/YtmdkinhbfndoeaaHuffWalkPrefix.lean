/-
  The walk of HuffPrefix, whole.
-/
import Derived.Test.YtmdkinhbfndoeaaHuffPrefixY
import Derived.Test.YtmdkinhbfndoeaaHuffWalkCodes
namespace Go.Proofs.Ytmdkinhbfndoeaa
open Go.RowKit

theorem walk_HuffPrefix (a : Option Addr) (n cap : Nat) (xs : List Int) (w : World) (hr : Reads .i64 w a n cap xs) (hw : ∀ n ∈ xs, (Lit.int .i64 n).wf = true) :
    Calls Try.prog 8 #[.slice a n cap] w fun e w' => e = .returned (.bool true) ∧ Below w.heap.size w w' := by
  have h64 := is64_of_wf hw
  by_cases hn : n ≤ 300
  · by_cases hk : lensOk xs
    · by_cases hf : krS xs ≤ 32768
      · exact hp_yes a n cap xs w hr h64 hn hk hf
      · exact hp_no4 a n cap xs w hr h64 hn hk (by omega)
    · exact hp_no1 a n cap xs w hr h64 hn hk
  · exact hp_not a n cap w hr.n63.1 hn
end Go.Proofs.Ytmdkinhbfndoeaa
