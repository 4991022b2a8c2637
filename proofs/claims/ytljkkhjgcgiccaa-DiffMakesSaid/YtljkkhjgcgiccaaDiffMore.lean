/-
  Changed in one form; Few.
-/
import Derived.Test.YtljkkhjgcgiccaaDiffChanged
namespace Go.Proofs.Ytljkkhjgcgiccaa
open Go.RowKit

theorem changed_any (W H C D : Int) (a : Option Addr) (n cap : Nat) (W' H' C' D' : Int) (b : Option Addr) (m k : Nat) (bs rs : List Int) (w : World) (hb : Reads .u8 w a n cap bs) (hbB : isB bs) (hr : Reads .u8 w b m k rs) (hrB : isB rs) (hH : -9223372036854775808 ≤ H ∧ H ≤ 9223372036854775807) (hH' : -9223372036854775808 ≤ H' ∧ H' ≤ 9223372036854775807) :
    Calls Try.prog 12 #[ras W H C D a n cap, ras W' H' C' D' b m k] w fun e w' => e = .returned (.tuple #[.int .i64 (chN W H C D n W' H' C' D' m bs rs), .int .i64 (alikeE W H C D n W' H' C' D' m)]) ∧ Below w.heap.size w w' := by
  by_cases h0 : alikeE W H C D n W' H' C' D' m = 0
  · rw [chN, if_pos h0, h0]
    obtain ⟨h1, rfl, rfl, rfl, rfl, rfl⟩ := alikeE_zero h0
    exact changed_ok W H C D a n cap b k bs rs w hb hbB hr hrB h1
  · rw [chN, if_neg h0]
    exact changed_not W H C D a n cap W' H' C' D' b m k w hH hH' h0

theorem rchanged_any (W H C D : Int) (a : Option Addr) (n cap : Nat) (W' H' C' D' : Int) (b : Option Addr) (m k : Nat) (bs rs : List Int) (w : World) (hb : Reads .u8 w a n cap bs) (hbB : isB bs) (hr : Reads .u8 w b m k rs) (hrB : isB rs) (hH : -9223372036854775808 ≤ H ∧ H ≤ 9223372036854775807) (hH' : -9223372036854775808 ≤ H' ∧ H' ≤ 9223372036854775807) :
    Calls Try.prog 13 #[ras W H C D a n cap, ras W' H' C' D' b m k] w fun e w' => e = .returned (.tuple #[.int .i64 (chN W H C D n W' H' C' D' m bs rs), .int .i64 (alikeE W H C D n W' H' C' D' m)]) ∧ Below w.heap.size w w' := by
  by_cases h0 : alikeE W H C D n W' H' C' D' m = 0
  · rw [chN, if_pos h0, h0]
    obtain ⟨h1, rfl, rfl, rfl, rfl, rfl⟩ := alikeE_zero h0
    exact rchanged_ok W H C D a n cap b k bs rs w hb hbB hr hrB h1
  · rw [chN, if_neg h0]
    exact rchanged_not W H C D a n cap W' H' C' D' b m k w hH hH' h0

theorem few_any (W H C D : Int) (a : Option Addr) (n cap : Nat) (w : World) :
    Calls Try.prog 6 #[ras W H C D a n cap] w fun e w' => e = .returned (.bool (decide (n ≤ 20000))) ∧ Below w.heap.size w w' := by
  by_cases h : n ≤ 20000
  all_goals
    go_enter Try.func6, Try.ntmps6
    go_wp2
    go_ret
    refine ⟨ret_bool ?_, (Below.refl _ _).alloc (Nat.le_refl _) _⟩
    simp <;> omega

end Go.Proofs.Ytljkkhjgcgiccaa
