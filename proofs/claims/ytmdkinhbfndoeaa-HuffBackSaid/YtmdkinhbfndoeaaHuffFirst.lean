/-
  The statements' own first function of chapter 5.
-/
import Derived.Test.YtmdkinhbfndoeaaHuffInts
import Derived.Lib.SlBytesConst
namespace Go.Proofs.Ytmdkinhbfndoeaa
open Go.RowKit

def w4 : List Int := [1, 1, 2, 4]
theorem w4_items : itemsN w4 4 = [(1, 0), (1, 1), (2, 2), (4, 3)] := by decide
theorem w4_rise : risesI [(1, 0), (1, 1), (2, 2), (4, 3)] := by
  intro j hj
  have h : j + 1 < 4 := hj
  rcases (by omega : j = 0 ∨ j = 1 ∨ j = 2) with rfl | rfl | rfl <;> decide
theorem w4_ok : countOk [(1, 0), (1, 1), (2, 2), (4, 3)] 15 6 = true := by decide +kernel
theorem w4_lens : countP [(1, 0), (1, 1), (2, 2), (4, 3)] 15 6 [0, 0, 0, 0] = [3, 3, 2, 1] := by decide +kernel
theorem reads_of_kbox {w : World} {g T : Nat} {xs : List Int} (h : KBox .i64 w g T xs) (n : Nat) (hn : xs.length = n) (hm : n ≤ 1000) : Reads .i64 w (some ⟨g, 0, Option.none⟩) n n xs := by
  refine ⟨hn, Nat.le_refl _, by unfold maxLen; omega, fun e => (nomatch e), fun h0 => ⟨g, 0, rfl, h.lt, fun i hi => ?_⟩⟩
  rw [Nat.zero_add]
  exact h.cell i (by omega)
theorem lengths_w4 (w : World) (a : Option Addr) (cap : Nat) (hr : Reads .i64 w a 4 cap [1, 1, 2, 4]) :
    Calls Try.prog 13 #[.slice a 4 cap, .int .i64 15] w fun e w' =>
      ∃ gl, e = .returned (.tuple #[.slice (some ⟨gl, 0, Option.none⟩) 4 4, .int .i64 0]) ∧ Reads .i64 w' (some ⟨gl, 0, Option.none⟩) 4 4 [3, 3, 2, 1] ∧ Below w.heap.size w w' := by
  have h := lengths_rise a 4 cap w4 w hr (by decide) (by decide) (by decide) (by rw [w4_items]; decide) (by rw [w4_items]; decide) (by rw [w4_items]; exact w4_rise) (by rw [w4_items]; exact w4_ok)
  refine h.mono ?_
  rintro e w' ⟨gl, rfl, hk, _, hb⟩
  rw [w4_items] at hk
  have hk' : KBox .i64 w' gl 3 [3, 3, 2, 1] := by
    have e : countP [(1, 0), (1, 1), (2, 2), (4, 3)] 15 (2 * [((1 : Int), (0 : Int)), (1, 1), (2, 2), (4, 3)].length - 2) (List.replicate 4 0) = [3, 3, 2, 1] := w4_lens
    rwa [e] at hk
  exact ⟨gl, rfl, reads_of_kbox hk' 4 rfl (by decide), hb⟩

theorem c4_ok : lensOk [2, 1, 0, 2] := by unfold lensOk; decide
theorem c4_kr : ¬ 32768 < krS [2, 1, 0, 2] := by decide

set_option maxHeartbeats 1000000 in
theorem first_any (w : World) :
    Calls Try.prog 11 #[] w fun e w' => e = .returned (.bool true) ∧ Below w.heap.size w w' := by
  go_enter Try.func11, Try.ntmps11
  go_wp2_with fail
  refine (lengths_w4 _ _ 4 (reads_alloc (k := .i64) w [1, 1, 2, 4] _ _ _ rfl (by decide) _ rfl)).mono ?_; rintro e w1 ⟨gl, rfl, rl, b1⟩
  have R := Lib.hid rl
  have B := Lib.hid (below_size ((Below.refl _ _).alloc (Nat.le_refl _) _) b1)
  clear rl b1
  go_wp2_with fail
  have hsz := B.out.size
  refine (codes_yes (some ⟨w1.heap.size, 0, Option.none⟩) 4 4 [2, 1, 0, 2] _ (reads_alloc (k := .i64) w1 [2, 1, 0, 2] _ _ _ rfl (by decide) _ rfl) (by unfold is64; decide) c4_ok (by have := c4_kr; omega)).mono ?_; rintro e w2 ⟨g2, cap2, rfl, C, b2⟩
  have hl4 : [(2 : Int), 1, 0, 2].length = 4 := rfl
  rw [hl4] at C ⊢
  have b12 : Below w1.heap.size w1 w2 := below_size ((Below.refl _ _).alloc (Nat.le_refl _) _) b2
  replace R := Lib.hid (R.out.below b12); replace B := Lib.hid (below_size B.out b12)
  have HC := Lib.hid C
  clear C b2 b12 hl4 hsz
  go_wp2_with fail
  have R2 := reads_alloc (k := .i64) w2 [3, 3, 2, 1] _ 3 (0, 0) rfl (by decide) 4 rfl
  have R1 := R.out.below ((Below.refl w2.heap.size w2).alloc (Nat.le_refl _) (.cells ([(3 : Int), 3, 2, 1].map (Value.int .i64)).toArray 3))
  refine (ints_any _ _ 4 4 4 4 [3, 3, 2, 1] [3, 3, 2, 1] _ R1 R2).mono ?_; rintro e w3 ⟨rfl, b3⟩
  rw [decide_eq_true rfl]
  have b23 : Below w2.heap.size w2 w3 := below_size ((Below.refl _ _).alloc (Nat.le_refl _) _) b3
  replace B := Lib.hid (below_size B.out b23)
  have C3 := HC.out
  have hlt : g2 < w2.heap.size := by obtain ⟨vs, ho, _⟩ := C3; exact (ho.lt g2 rfl).2
  have k0 := (b23.cell (p := ⟨g2, 0, Option.none⟩) hlt).trans (C3.c0 0 (by decide))
  have k1 := (b23.cell (p := ⟨g2, 2, Option.none⟩) hlt).trans (C3.c0 1 (by decide))
  have k2 := (b23.cell (p := ⟨g2, 5, Option.none⟩) hlt).trans (C3.c1 2 (by decide))
  have k3 := (b23.cell (p := ⟨g2, 6, Option.none⟩) hlt).trans (C3.c0 3 (by decide))
  have v0 : codeAt [2, 1, 0, 2] 0 = (2, 2) := by decide
  have v1 : codeAt [2, 1, 0, 2] 1 = (0, 1) := by decide
  have v2 : codeAt [2, 1, 0, 2] 2 = (0, 0) := by decide
  have v3 : codeAt [2, 1, 0, 2] 3 = (3, 2) := by decide
  rw [v0] at k0; rw [v1] at k1; rw [v2] at k2; rw [v3] at k3
  clear C3 b3 b23 R1 R2 R v0 v1 v2 v3 HC
  go_wp2_with fail
  go_ret
  exact ⟨rfl, B.out⟩
end Go.Proofs.Ytmdkinhbfndoeaa
