/-
  The walk of the statement NumSums.
-/
import Derived.Test.YtckekklmjegajaaDoorCrc
namespace Go.Proofs.YtckekklmjegajaaDoor
open Go.RowKit

set_option maxHeartbeats 1000000 in
theorem walk_NumSums (a : Option Addr) (n cap : Nat) (xs : List Int) (w : World) (hT : Table w) (hr : Reads .u8 w a n cap xs) (hb : isB xs) :
    Calls Tryd.prog 3 #[.slice a n cap] w fun e w' => e = .returned (.bool true) ∧ Below w.heap.size w w' := by
  have hn := hr.n63.1
  by_cases h1 : (8000 : Int) < n
  · go_enter Tryd.func3, Tryd.ntmps3
    go_wp2_with fail
    refine (first_any w).mono ?_; rintro e w1 ⟨rfl, hb1⟩
    go_wp2_with fail
    refine (first_any w1).mono ?_; rintro e w2 ⟨rfl, hb2⟩
    go_wp2_with fail
    go_ret
    exact ⟨rfl, below_size hb1 hb2⟩
  · have HT := Lib.hid hT
    clear hT
    go_enter Tryd.func3, Tryd.ntmps3
    go_wp2_with fail
    refine (first_any w).mono ?_; rintro e w1 ⟨rfl, hb1⟩
    go_wp2_with fail
    refine (first_any w1).mono ?_; rintro e w2 ⟨rfl, hb2⟩
    have hb3 := below_size hb1 hb2
    have hr3 := hr.below hb3
    go_wp2_with fail
    refine (crc_any a n cap xs w2 hr3 hb (HT.out.below hb3)).mono ?_; rintro e w3 ⟨rfl, rfl⟩
    go_wp2_with fail
    refine (rcrc_any a n cap xs w3 hr3 hb).mono ?_; rintro e w4 ⟨rfl, rfl⟩
    go_wp2_with fail
    refine (adler_any a n cap xs w4 hr3 hb).mono ?_; rintro e w5 ⟨rfl, rfl⟩
    go_wp2_with fail
    refine (radler_any a n cap xs w5 hr3 hb).mono ?_; rintro e w6 ⟨rfl, rfl⟩
    go_wp2_with fail
    go_ret
    exact ⟨rfl, hb3⟩
end Go.Proofs.YtckekklmjegajaaDoor
