/-
  The program's writer and the reference's side by side.
-/
import Derived.Test.YteancefgkllgoaaBitsWRefB
namespace Go.Proofs.Yteancefgkllgoaa
open Go.RowKit

structure TwoW (w : World) (g : Nat) (oa ob : Option Nat) (Na ca Nb cb : Nat) : Prop where
  a : Wrt w g oa Na ca
  b : RWr w (g + 1) ob Nb cb
  la : ∀ r, oa = some r → g + 2 ≤ r
  lb : ∀ r, ob = some r → g + 2 ≤ r
  ab : Dis oa ob
  sz : g + 2 ≤ w.heap.size

section
variable {w w' : World} {g : Nat} {oa ob o' : Option Nat} {Na ca Nb cb N' c' : Nat}
theorem TwoW.putA (h : TwoW w g oa ob Na ca Nb cb) (hw : Wrt w' g o' N' c') (m : Moved g oa o' w w') : TwoW w' g o' ob N' c' Nb cb :=
  ⟨hw, h.b.moved m (by omega) (fun e => by have := h.la _ e; omega) (fun e => by have := h.lb _ e; omega) h.ab.symm, lo_moved h.la m h.sz, h.lb, dis_moved h.ab m (fun r e => (h.b.lt.2 r e).2), Nat.le_trans h.sz m.1.size⟩
theorem TwoW.putB (h : TwoW w g oa ob Na ca Nb cb) (hw : RWr w' (g + 1) o' N' c') (m : Moved (g + 1) ob o' w w') : TwoW w' g oa o' Na ca N' c' :=
  ⟨h.a.moved m (by omega) (fun e => by have := h.lb _ e; omega) (fun e => by have := h.la _ e; omega) h.ab, hw, h.la, lo_moved h.lb m h.sz, (dis_moved h.ab.symm m (fun r e => (h.a.lt.2 r e).2)).symm, Nat.le_trans h.sz m.1.size⟩
theorem TwoW.below (h : TwoW w g oa ob Na ca Nb cb) (hb : Below w.heap.size w w') : TwoW w' g oa ob Na ca Nb cb :=
  ⟨h.a.below hb, h.b.below hb, h.la, h.lb, h.ab, Nat.le_trans h.sz hb.size⟩
end

/-! ### both writers' answers -/
def pE (n : Nat) (k : Int) : Int := if fitB n k = true then 0 else 1
def pN (N c n : Nat) (k : Int) : Nat := if fitB n k = true then N + n * 2 ^ c else N
def cN (N c n : Nat) (k : Int) : Nat := if fitB n k = true then N + revb n k.toNat * 2 ^ c else N
def pC (c n : Nat) (k : Int) : Nat := if fitB n k = true then c + k.toNat else c
theorem pC_le (c n : Nat) (k : Int) : pC c n k ≤ c + 24 := by
  unfold pC
  split
  · next h =>
    obtain ⟨m, rfl, hm, _⟩ := of_fitB h
    simp; omega
  · omega

theorem put_any {g : Nat} {o : Option Nat} {N c : Nat} (n : Nat) (k : Int) {w : World} (hw : Wrt w g o N c) (hc : c ≤ 1000000) (hn : n < 4294967296) (hk : -9223372036854775808 ≤ k ∧ k ≤ 9223372036854775807) :
    Calls Try.prog 10 #[.pointer (some ⟨g, 0, Option.none⟩), .int .u32 n, .int .i64 k] w fun e w' => e = .returned (.int .i64 (pE n k)) ∧ ∃ o', Wrt w' g o' (pN N c n k) (pC c n k) ∧ Moved g o o' w w' := by
  by_cases h : fitB n k = true
  · obtain ⟨m, rfl, hm, h2⟩ := of_fitB h
    simp only [pE, pN, pC, if_pos h, Int.toNat_natCast]
    exact put_yes g o N c n m w hw h2 hm hc
  · simp only [pE, pN, pC, if_neg h]
    refine (put_no _ n k w hn hk (by simpa using h)).mono ?_
    rintro e w' ⟨rfl, rfl⟩
    exact ⟨rfl, o, hw, Moved.refl _ _ _⟩
theorem code_any {g : Nat} {o : Option Nat} {N c : Nat} (n : Nat) (k : Int) {w : World} (hw : Wrt w g o N c) (hc : c ≤ 1000000) (hn : n < 4294967296) (hk : -9223372036854775808 ≤ k ∧ k ≤ 9223372036854775807) :
    Calls Try.prog 12 #[.pointer (some ⟨g, 0, Option.none⟩), .int .u32 n, .int .i64 k] w fun e w' => e = .returned (.int .i64 (pE n k)) ∧ ∃ o', Wrt w' g o' (cN N c n k) (pC c n k) ∧ Moved g o o' w w' := by
  by_cases h : fitB n k = true
  · obtain ⟨m, rfl, hm, h2⟩ := of_fitB h
    simp only [pE, cN, pC, if_pos h, Int.toNat_natCast]
    exact code_yes g o N c n m w hw h2 hm hc
  · simp only [pE, cN, pC, if_neg h]
    refine (code_no _ n k w hn hk (by simpa using h)).mono ?_
    rintro e w' ⟨rfl, rfl⟩
    exact ⟨rfl, o, hw, Moved.refl _ _ _⟩
theorem rput_any {g : Nat} {o : Option Nat} {N c : Nat} (n : Nat) (k : Int) {w : World} (hw : RWr w g o N c) (hc : c ≤ 1000000) (hn : n < 4294967296) (hk : -9223372036854775808 ≤ k ∧ k ≤ 9223372036854775807) :
    Calls Try.prog 11 #[.pointer (some ⟨g, 0, Option.none⟩), .int .u32 n, .int .i64 k] w fun e w' => e = .returned (.int .i64 (pE n k)) ∧ ∃ o', RWr w' g o' (pN N c n k) (pC c n k) ∧ Moved g o o' w w' := by
  by_cases h : fitB n k = true
  · obtain ⟨m, rfl, hm, h2⟩ := of_fitB h
    simp only [pE, pN, pC, if_pos h, Int.toNat_natCast]
    exact rput_yes g o N c n m w hw h2 hm hc
  · simp only [pE, pN, pC, if_neg h]
    refine (rput_no _ n k w hn hk (by simpa using h)).mono ?_
    rintro e w' ⟨rfl, rfl⟩
    exact ⟨rfl, o, hw, Moved.refl _ _ _⟩
theorem rcode_any {g : Nat} {o : Option Nat} {N c : Nat} (n : Nat) (k : Int) {w : World} (hw : RWr w g o N c) (hc : c ≤ 1000000) (hn : n < 4294967296) (hk : -9223372036854775808 ≤ k ∧ k ≤ 9223372036854775807) :
    Calls Try.prog 13 #[.pointer (some ⟨g, 0, Option.none⟩), .int .u32 n, .int .i64 k] w fun e w' => e = .returned (.int .i64 (pE n k)) ∧ ∃ o', RWr w' g o' (cN N c n k) (pC c n k) ∧ Moved g o o' w w' := by
  by_cases h : fitB n k = true
  · obtain ⟨m, rfl, hm, h2⟩ := of_fitB h
    simp only [pE, cN, pC, if_pos h, Int.toNat_natCast]
    exact rcode_yes g o N c n m w hw h2 hm hc
  · simp only [pE, cN, pC, if_neg h]
    refine (rcode_no _ n k w hn hk (by simpa using h)).mono ?_
    rintro e w' ⟨rfl, rfl⟩
    exact ⟨rfl, o, hw, Moved.refl _ _ _⟩
end Go.Proofs.Yteancefgkllgoaa
