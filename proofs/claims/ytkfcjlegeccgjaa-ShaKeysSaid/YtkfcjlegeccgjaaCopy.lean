/-
  The contract of aquref.CopyBytes.
-/
import Derived.Test.YtkfcjlegeccgjaaChecked
import Derived.Test.YtkfcjlegeccgjaaLib
namespace Go.Proofs.Ytkfcjlegeccgjaa
open Go.RowKit

theorem infoC : (Try.prog.info? 5).map (fun i => (i.zero, i.size, i.bytes)) = some (some (.int .u8 0), 1, 1) := by kernel_rfl

/-- A new list of bytes. -/
def RetS (w : World) (xs : List Int) (e : Ending) (w' : World) : Prop := ∃ a cap, e = .returned (.slice a xs.length cap) ∧ w'.ownsRow w.heap.size 5 1 (.slice a xs.length cap) xs.length (xs.map (Value.int .u8)) ∧ Below w.heap.size w w'

set_option maxHeartbeats 400000 in
theorem copyBytes_any (a : Option Addr) (n cap : Nat) (xs : List Int) (w : World) (hr : Reads .u8 w a n cap xs) (hn : n ≤ 140737488355328) :
    Calls Try.prog 6 #[.slice a n cap] w (RetS w xs) := by
  obtain ⟨i0, hi, hz0, hz1, hz2⟩ := info_parts infoC
  have Hi := Lib.hid hi; have Hz0 := Lib.hid hz0; have Hz1 := Lib.hid hz1; have Hz2 := Lib.hid hz2
  have Hl := Lib.hid hr.len
  clear hi hz0 hz1 hz2
  go_enter Try.func6, Try.ntmps6
  go_wp2_with (at_builtin; refine wpList_append_reads _ rfl _ _ 22 rfl w.heap.size 5 i0 (.int .u8 0) 1 Try.underlying22 Hi.out Hz0.out Hz1.out Hz2.out rfl .u8 (some ⟨w.heap.size, 0, none⟩) 0 0 [] rfl (World.ownsRow_made w _ 0 (Nat.le_refl _) (Nat.zero_le _) rfl) a n cap xs rfl (hr.below ((Below.refl _ _).alloc (Nat.le_refl _) _)) (by unfold maxLen; omega) (by omega) (by simp) ?_)
  intro a' cap' w' hown hgrow hnil
  have hb : Below w.heap.size w w' := below_grown ((Below.refl _ _).alloc (Nat.le_refl _) _) (World.ownsRow_made w _ 0 (Nat.le_refl _) (Nat.zero_le _) rfl) hgrow (Nat.le_refl _) (by simp)
  clear hgrow
  go_wp2
  go_ret
  unfold RetS
  rw [Hl.out]
  exact ⟨a', cap', rfl, hown, hb⟩
end Go.Proofs.Ytkfcjlegeccgjaa
