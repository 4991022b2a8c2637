/-
  The walk of the statement NumTexts.
-/
import Derived.Test.YtckekklmjegajaaNumFirst
import Derived.Test.YtckekklmjegajaaNumHexRef
namespace Go.Proofs.Ytckekklmjegajaa
open Go.RowKit

theorem hexD_bd (n : Int) (h : 0 ≤ n) (h' : n < 16) : 0 ≤ hexD n ∧ hexD n < 256 := by unfold hexD; split <;> omega
theorem hexL_isB (xs : List Int) (h : isB xs) : isB (hexL xs) := by
  intro y hy
  simp only [hexL, List.mem_flatMap] at hy
  obtain ⟨x, hx, hy⟩ := hy
  have hb := h x hx
  simp at hy
  rcases hy with rfl | rfl
  · exact hexD_bd _ (by omega) (by omega)
  · exact hexD_bd _ (by omega) (by omega)
theorem pairs_isB (s : ByteArray) (k : Nat) (h : ∀ j, j < k → okAt s j) : isB (pairs s k) := by
  intro x hx
  simp only [pairs, List.mem_map, List.mem_range] at hx
  obtain ⟨j, hj, rfl⟩ := hx
  have := h j hj
  unfold okAt at this
  have a := dig_bd (byteAt s (2 * j)); have b := dig_bd (byteAt s (2 * j + 1))
  unfold pairAt; omega

set_option maxRecDepth 100000 in
set_option maxHeartbeats 1000000 in
theorem texts_large (a : Option Addr) (n cap : Nat) (s : ByteArray) (w : World) (hn : n ≤ 9223372036854775807) (hs : s.size ≤ 9223372036854775807) (h : 8000 < n ∨ 8000 < s.size) :
    Calls Try.prog 4 #[.slice a n cap, .string s] w fun e w' => e = .returned (.bool true) ∧ Below w.heap.size w w' := by
  by_cases h1 : (8000 : Int) < n
  · clear h
    go_enter Try.func4, Try.ntmps4
    go_wp2_with fail
    refine (first_any w).mono ?_; rintro e w1 ⟨rfl, hb1⟩
    go_wp2_with fail
    refine (first_any w1).mono ?_; rintro e w2 ⟨rfl, hb2⟩
    go_wp2_with fail
    go_ret
    exact ⟨rfl, below_size hb1 hb2⟩
  · have h2 : (8000 : Int) < s.size := by omega
    clear h
    go_enter Try.func4, Try.ntmps4
    go_wp2_with fail
    refine (first_any w).mono ?_; rintro e w1 ⟨rfl, hb1⟩
    go_wp2_with fail
    refine (first_any w1).mono ?_; rintro e w2 ⟨rfl, hb2⟩
    go_wp2_with fail
    go_ret
    exact ⟨rfl, below_size hb1 hb2⟩

set_option maxRecDepth 100000 in
set_option maxHeartbeats 1000000 in
theorem walk_NumTexts (a : Option Addr) (n cap : Nat) (xs : List Int) (s : ByteArray) (w : World) (hr : Reads .u8 w a n cap xs) (hb : isB xs) (hs : s.size ≤ maxLen) :
    Calls Try.prog 4 #[.slice a n cap, .string s] w fun e w' => e = .returned (.bool true) ∧ Below w.heap.size w w' := by
  have hn := hr.n63.1
  have hs63 : s.size ≤ 9223372036854775807 := by unfold maxLen at hs; omega
  by_cases h : 8000 < n ∨ 8000 < s.size
  · exact texts_large a n cap s w hn hs63 h
  · have h1 : ¬ (8000 : Int) < n := by omega
    have h2 : ¬ (8000 : Int) < s.size := by omega
    clear hs
    by_cases hok : hexOk s
    · have Hok := Lib.hid hok
      go_enter Try.func4, Try.ntmps4
      go_wp2_with fail
      refine (first_any w).mono ?_; rintro e w1 ⟨rfl, hb1⟩
      go_wp2_with fail
      refine (unhex_any s w1 (by omega)).mono ?_; rintro e w2 ⟨hb2, ⟨_, a2, c2, rfl, ho2⟩ | ⟨hno, _⟩⟩
      case inr => exact absurd hok hno
      go_wp2_with fail
      refine (runhex_any s w2 (by omega)).mono ?_; rintro e w3 ⟨hb3, ⟨_, a3, c3, rfl, ho3⟩ | ⟨hno, _⟩⟩
      case inr => exact absurd hok hno
      have hB := pairs_isB s _ hok.2
      have hx2 := (reads_of_owns ho2).below hb3
      have hx3 := reads_of_owns ho3
      have hb4 := below_size hb1 (below_size hb2 hb3)
      generalize s.size / 2 = m at *
      clear hok
      go_wp2_with fail
      refine (first_any w3).mono ?_; rintro e w4 ⟨rfl, hb5⟩
      go_wp2_with fail
      refine (hex_any a n cap xs w4 ((hr.below hb4).below hb5) hb (by omega)).mono ?_; rintro e w5 ⟨rfl, hb6⟩
      go_wp2_with fail
      refine (rhex_any a n cap xs w5 (((hr.below hb4).below hb5).below hb6) hb (by omega)).mono ?_; rintro e w6 ⟨rfl, hb7⟩
      have hq := strOfNums_beq (hexL_isB xs hb) (hexL_isB xs hb)
      rw [decide_eq_true rfl] at hq
      have hb8 := below_size hb5 (below_size hb6 hb7)
      go_wp2_with fail
      refine (bytes_any _ _ _ _ _ _ _ _ w6 (hx2.below hb8) (hx3.below hb8) hB hB).mono ?_; rintro e w7 ⟨rfl, rfl⟩
      rw [decide_eq_true rfl]
      go_wp2_with fail
      go_ret
      exact ⟨rfl, below_size hb4 hb8⟩
    · go_enter Try.func4, Try.ntmps4
      go_wp2_with fail
      refine (first_any w).mono ?_; rintro e w1 ⟨rfl, hb1⟩
      go_wp2_with fail
      refine (unhex_any s w1 (by omega)).mono ?_; rintro e w2 ⟨hb2, ⟨hyes, _⟩ | ⟨_, rfl⟩⟩
      case inl => exact absurd hyes hok
      go_wp2_with fail
      refine (runhex_any s w2 (by omega)).mono ?_; rintro e w3 ⟨hb3, ⟨hyes, _⟩ | ⟨_, rfl⟩⟩
      case inl => exact absurd hyes hok
      have hb4 := below_size hb1 (below_size hb2 hb3)
      clear hok
      go_wp2_with fail
      refine (first_any w3).mono ?_; rintro e w4 ⟨rfl, hb5⟩
      go_wp2_with fail
      refine (hex_any a n cap xs w4 ((hr.below hb4).below hb5) hb (by omega)).mono ?_; rintro e w5 ⟨rfl, hb6⟩
      go_wp2_with fail
      refine (rhex_any a n cap xs w5 (((hr.below hb4).below hb5).below hb6) hb (by omega)).mono ?_; rintro e w6 ⟨rfl, hb7⟩
      have hq := strOfNums_beq (hexL_isB xs hb) (hexL_isB xs hb)
      rw [decide_eq_true rfl] at hq
      have hb8 := below_size hb5 (below_size hb6 hb7)
      go_wp2_with fail
      refine (bytes_any _ _ _ _ _ _ [] [] w6 (Reads.none _ _) (Reads.none _ _) isB.nil isB.nil).mono ?_; rintro e w7 ⟨rfl, rfl⟩
      rw [decide_eq_true rfl]
      go_wp2_with fail
      go_ret
      exact ⟨rfl, below_size hb4 hb8⟩
end Go.Proofs.Ytckekklmjegajaa
