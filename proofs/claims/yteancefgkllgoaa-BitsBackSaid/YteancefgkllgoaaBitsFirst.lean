/-
  Writers side by side; the statements' first function of chapter 4.
-/
import Derived.Test.YteancefgkllgoaaBitsWr
namespace Go.Proofs.Yteancefgkllgoaa
open Go.RowKit

theorem Wrt.keep {w w' : World} {g : Nat} {o : Option Nat} {N c : Nat} (h : Wrt w g o N c) (hs : w.heap.size ≤ w'.heap.size) (hg : w'.heap[g]? = w.heap[g]?) (ho : ∀ b, o = some b → w'.heap[b]? = w.heap[b]?) : Wrt w' g o N c := by
  obtain ⟨a, n, cap, xs, h1, h2, h3, h4, h5, h6, h7, h8⟩ := h
  refine ⟨a, n, cap, xs, h1, by omega, (World.cell?_of_block (a := ⟨g, 0, Option.none⟩) hg).trans h3, (World.cell?_of_block (a := ⟨g, 1, Option.none⟩) hg).trans h4, (World.frozen?_of_block (a := ⟨g, 0, Option.none⟩) hg).trans h5, (World.frozen?_of_block (a := ⟨g, 1, Option.none⟩) hg).trans h6, ⟨h7.1, ?_⟩, h8⟩
  rcases h7.2 with h | ⟨q, c', cur, e, hq, hh, r⟩
  · exact .inl h
  · refine .inr ⟨q, c', cur, e, hq, ?_, r⟩
    rw [ho q (by rw [← h1, e]; rfl), hh]
theorem Wrt.lt {w : World} {g : Nat} {o : Option Nat} {N c : Nat} (h : Wrt w g o N c) : g < w.heap.size ∧ ∀ b, o = some b → g < b ∧ b < w.heap.size := by
  obtain ⟨a, n, cap, xs, h1, h2, h3, h4, h5, h6, h7, h8⟩ := h
  refine ⟨h2, fun b hb => ?_⟩
  have := h7.lt b (by rw [h1, hb])
  omega
theorem Wrt.below {w w' : World} {g : Nat} {o : Option Nat} {N c : Nat} (h : Wrt w g o N c) (hb : Below w.heap.size w w') : Wrt w' g o N c :=
  h.keep hb.size (hb.block _ h.lt.1) fun b hb' => hb.block _ (h.lt.2 b hb').2
theorem Wrt.moved {w w' : World} {g : Nat} {o : Option Nat} {N c : Nat} {g1 : Nat} {o1 o1' : Option Nat} (h : Wrt w g o N c) (m : Moved g1 o1 o1' w w') (hne : g ≠ g1) (h1 : o1 ≠ some g) (h2 : o ≠ some g1) (h3 : ∀ b, o = some b → o1 ≠ some b) : Wrt w' g o N c := by
  refine h.keep m.1.size (m.1.block g h.lt.1 ?_) fun b hb => m.1.block b (h.lt.2 b hb).2 ?_
  · rintro (e | e)
    · exact hne e
    · exact h1 e.symm
  · rintro (e | e)
    · exact h2 (by rw [hb, e])
    · exact h3 b hb e.symm
theorem Moved.below {g : Nat} {o o' : Option Nat} {w w' : World} (m : Moved g o o' w w') {B : Nat} (hB : B ≤ g) (hS : B ≤ w.heap.size) (ho : ∀ b, o = some b → B ≤ b) : Below B w w' :=
  ⟨m.1.os, m.1.tape, m.1.output, m.1.size, fun k hk => m.1.block k (by omega) (by
    rintro (e | e)
    · omega
    · have := ho k e.symm; omega)⟩

theorem bytes_are {xs : List Int} {N c : Nat} (h1 : xs.length = (c + 7) / 8) (h2 : isB xs) (h3 : rlit xs = (N : Int)) (ys : List Int) (k1 : ys.length = (c + 7) / 8) (k2 : isB ys) (k3 : rlit ys = (N : Int)) : xs = ys := rlit_inj xs ys h2 k2 (by omega) (by omega)

theorem eqPtr (w : World) (a : Addr) : (binOp .eql 24 (.pointer (some a)) (.pointer Option.none)).run Try.prog w = .ok (.bool false) w := by kernel_rfl

set_option maxHeartbeats 1000000 in
theorem first_any (w : World) :
    Calls Try.prog 8 #[] w fun e w' => e = .returned (.bool true) ∧ Below w.heap.size w w' := by
  go_enter Try.func8, Try.ntmps8
  go_wp2_with fail
  refine (newWriter_any w).mono ?_; rintro e w1 ⟨rfl, W1, s1, b1⟩
  go_wp2_with fail
  refine (newWriter_any w1).mono ?_; rintro e w2 ⟨rfl, V2, s2, b2⟩
  have W2 := W1.below b2
  rw [s1] at V2 s2 b2 ⊢
  have B2 : Below w.heap.size w w2 := b1.trans (b2.mono (by omega))
  have S2 : w2.heap.size = w.heap.size + 2 := by omega
  clear W1 s1 b1 s2 b2
  generalize hg1 : w.heap.size = g at *
  have G := Lib.hid hg1; clear hg1
  have HS := Lib.hid S2; clear S2
  have HW := Lib.hid W2; have HV := Lib.hid V2; have HB := Lib.hid B2; clear W2 V2 B2
  go_wp2_with fail
  refine (put_yes g Option.none 0 0 1 1 w2 HW.out (by omega) (by omega) (by omega)).mono ?_; rintro e w3 ⟨rfl, o3, W3, M3⟩
  have V3 := Lib.hid (HV.out.moved M3 (by omega) (by simp) (by simp) (by simp))
  have B3 := Lib.hid (HB.out.trans (M3.below (B := g) (Nat.le_refl _) (by have := HS.out; omega) (by simp)))
  have HW3 := Lib.hid W3; clear W3
  have N3 := Lib.hid M3.2
  have S3 := Lib.hid M3.1.size
  clear M3 HW HB HV
  go_wp2_with fail
  refine (put_yes g o3 (0 + 1 * 2 ^ 0) (0 + 1) 2 2 w3 HW3.out (by omega) (by omega) (by omega)).mono ?_; rintro e w4 ⟨rfl, o4, W4, M4⟩
  have hs := HS.out; have hs3 := S3.out; have n3 := N3.out
  have f3 : ∀ b, o3 = some b → g + 2 ≤ b := fun b hb => (n3 b hb).elim (fun h => by simp at h) (fun h => by omega)
  have V4 := Lib.hid (V3.out.moved M4 (by omega) (fun h => by have := f3 _ h; omega) (by simp) (by simp))
  have B4 := Lib.hid (B3.out.trans (M4.below (B := g) (Nat.le_refl _) (by omega) (fun b hb => by have := f3 b hb; omega)))
  have F4 := Lib.hid (show ∀ b, o4 = some b → g + 2 ≤ b from fun b hb => (M4.2 b hb).elim (fun h => f3 b h) (fun h => by omega))
  have S4 := Lib.hid (show g + 2 ≤ w4.heap.size by have := M4.1.size; omega)
  have HW4 := Lib.hid W4
  clear W4 M4 V3 B3 HW3 N3 S3 f3 n3 hs3 hs HS
  go_wp2_with fail
  refine (code_yes (g + 1) Option.none 0 0 6 3 w4 V4.out (by omega) (by omega) (by omega)).mono ?_; rintro e w5 ⟨rfl, o5, V5, M5⟩
  have W5 := Lib.hid (HW4.out.moved M5 (by omega) (by simp) (fun h => by have := F4.out _ h; omega) (by simp))
  have B5 := Lib.hid (B4.out.trans (M5.below (B := g) (by omega) (by have := S4.out; omega) (by simp)))
  have HV5 := Lib.hid V5
  clear V5 M5 HW4 B4
  go_wp2_with fail
  refine (wbytes_any W5.out (by omega)).mono ?_; rintro e w6 ⟨a6, k6, xs, rfl, l6, q6, r6, ow6, b6⟩
  obtain rfl := bytes_are l6 q6 r6 [5] (by decide) (isB_of_all _ (by decide)) (by decide)
  clear l6 q6 r6
  have V6 := Lib.hid (HV5.out.below b6)
  have B6 := Lib.hid (B5.out.trans (b6.mono (by have := HV5.out.lt.1; omega)))
  have ow6' := reads_of_owns ow6
  have s1 := run_bytes_string ow6' 27 5 Try.underlying27 Try.underlying5 9 Try.underlying9
  have q1 : ((strOfNums [5]).toList == [5]) = true := by rw [ByteArray.toList_eq]; decide
  clear ow6 b6 HV5 B5 W5 F4 S4 V4
  go_wp2_with fail
  refine (wbytes_any V6.out (by omega)).mono ?_; rintro e w7 ⟨a7, k7, xs, rfl, l7, q7, r7, ow7, b7⟩
  obtain rfl := bytes_are l7 q7 r7 [3] (by decide) (isB_of_all _ (by decide)) (by decide)
  clear l7 q7 r7
  have B7 := Lib.hid (B6.out.trans (b7.mono (by have := V6.out.lt.1; omega)))
  have ow7' := reads_of_owns ow7
  have s2 := run_bytes_string ow7' 27 5 Try.underlying27 Try.underlying5 9 Try.underlying9
  have q2 : ((strOfNums [3]).toList == [3]) = true := by rw [ByteArray.toList_eq]; decide
  clear ow7 b7 s1 q1
  go_wp2_with fail
  go_ret
  exact ⟨rfl, by rw [G.out]; exact B7.out⟩
end Go.Proofs.Yteancefgkllgoaa
