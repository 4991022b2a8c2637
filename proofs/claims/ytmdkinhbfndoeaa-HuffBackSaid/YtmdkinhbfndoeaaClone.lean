/-
  bytes.Clone, bytes.Equal.
-/
import Derived.Test.YtmdkinhbfndoeaaInfoC
import Derived.Handy
namespace Go.Proofs.Ytmdkinhbfndoeaa
open Go.RowKit

theorem clone_any (a : Option Addr) (n cap : Nat) (xs : List Int) (w : World) (hr : Reads .u8 w a n cap xs) (hn : n ≤ 140737488355328) :
    Calls Try.prog 36 #[.slice a n cap] w (RetS w xs) := by
  have hnil := fun (w : World) (a : Option Addr) (n c : Nat) => Lib.run_eql_slice_nil (P := Try.prog) w 43 5 a n c 0 0 Try.underlying43
  cases a with
  | none =>
    have hl := hr.len
    have hz : n = 0 ∧ cap = 0 := hr.nil rfl
    obtain ⟨rfl, rfl⟩ := hz
    obtain rfl : xs = [] := List.eq_nil_of_length_eq_zero hl
    go_enter Try.func36, Try.ntmps36
    go_wp2
    go_ret
    exact ⟨Option.none, 0, rfl, ⟨rfl, .inl ⟨rfl, rfl⟩⟩, Below.refl _ _⟩
  | some q =>
    obtain ⟨i0, hi, hz0, hz1, hz2⟩ := info_parts infoC
    have Hi := Lib.hid hi; have Hz0 := Lib.hid hz0; have Hz1 := Lib.hid hz1; have Hz2 := Lib.hid hz2
    have Hl := Lib.hid hr.len
    clear hi hz0 hz1 hz2
    go_enter Try.func36, Try.ntmps36
    go_wp2_with (at_builtin; refine wpList_append_reads _ rfl _ _ 43 rfl w.heap.size 5 i0 (.int .u8 0) 1 Try.underlying43 Hi.out Hz0.out Hz1.out Hz2.out rfl .u8 (some ⟨w.heap.size, 0, none⟩) 0 0 [] rfl (World.ownsRow_made w _ 0 (Nat.le_refl _) (Nat.zero_le _) rfl) _ n cap xs rfl (hr.below ((Below.refl _ _).alloc (Nat.le_refl _) _)) (by unfold maxLen; omega) (by omega) (by simp) ?_)
    intro a' cap' w' hown hgrow hnil
    have hb : Below w.heap.size w w' := below_grown ((Below.refl _ _).alloc (Nat.le_refl _) _) (World.ownsRow_made w _ 0 (Nat.le_refl _) (Nat.zero_le _) rfl) hgrow (Nat.le_refl _) (by simp)
    clear hgrow
    go_wp2
    go_ret
    unfold RetS
    rw [Hl.out]
    exact ⟨a', cap', rfl, hown, hb⟩
end Go.Proofs.Ytmdkinhbfndoeaa
