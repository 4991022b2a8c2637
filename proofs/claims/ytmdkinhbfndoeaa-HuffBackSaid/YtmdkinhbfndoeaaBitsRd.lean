/-
  bits.Reader's methods.
-/
import Derived.Test.YtmdkinhbfndoeaaBitsRdPure
import Derived.Test.YtmdkinhbfndoeaaBitsWr
namespace Go.Proofs.Ytmdkinhbfndoeaa
open Go.RowKit

/-- A reader at block g: the bytes xs, p bits passed over. -/
def Rdr (w : World) (g : Nat) (xs : List Int) (p : Nat) : Prop :=
  ∃ (a : Option Addr) (n cap : Nat), g < w.heap.size ∧ w.cell? ⟨g, 0, Option.none⟩ = some (.slice a n cap) ∧ w.cell? ⟨g, 1, Option.none⟩ = some (.int .i64 p) ∧
    w.frozen? ⟨g, 0, Option.none⟩ = false ∧ w.frozen? ⟨g, 1, Option.none⟩ = false ∧ Reads .u8 w a n cap xs ∧ isB xs ∧ n ≤ 1000000 ∧ p ≤ 8 * n ∧ ∀ b, a = some b → b.block ≠ g
/-- Block g's second cell apart, what was there stands. -/
def Only (g : Nat) (w w' : World) : Prop := Apart (fun b => b = g) w w' ∧ w'.heap.size = w.heap.size ∧ ∀ i, i ≠ 1 → w'.cell? ⟨g, i, Option.none⟩ = w.cell? ⟨g, i, Option.none⟩

theorem Only.refl (g : Nat) (w : World) : Only g w w := ⟨⟨rfl, rfl, rfl, Nat.le_refl _, fun _ _ _ => rfl⟩, rfl, fun _ _ => rfl⟩
theorem Only.trans {g : Nat} {w w1 w2 : World} (h : Only g w w1) (k : Only g w1 w2) : Only g w w2 :=
  ⟨⟨k.1.os.trans h.1.os, k.1.tape.trans h.1.tape, k.1.output.trans h.1.output, Nat.le_trans h.1.size k.1.size, fun q hq hn => (k.1.block q (by have := h.2.1; omega) hn).trans (h.1.block q hq hn)⟩, k.2.1.trans h.2.1, fun i hi => (k.2.2 i hi).trans (h.2.2 i hi)⟩
theorem Only.drewN {g : Nat} {w w1 : World} (h : Only g w w1) (m : Nat) : Only g w (w1.drewN m) := ⟨⟨h.1.os, h.1.tape, h.1.output, h.1.size, h.1.block⟩, h.2.1, h.2.2⟩
theorem Only.setCell {g : Nat} {w w1 : World} (h : Only g w w1) (i : Nat) (v : Value) (hi : i = 1 := by rfl) : Only g w (w1.setCell ⟨g, i, Option.none⟩ v) :=
  ⟨⟨h.1.os, h.1.tape, h.1.output, by simpa using h.1.size, fun k hk hn => (Below.heap_setCell _ _ _ _ hn).trans (h.1.block k hk hn)⟩, by simpa using h.2.1, fun j hj => (World.cell?_setCell_other _ _ _ _ (by intro e; have := congrArg Addr.off e; dsimp at this; omega)).trans (h.2.2 j hj)⟩
theorem Only.below {g : Nat} {w w' : World} (h : Only g w w') : Below g w w' := ⟨h.1.os, h.1.tape, h.1.output, h.1.size, fun k hk => by
  rcases Nat.lt_or_ge k w.heap.size with hl | hl
  · exact h.1.block k hl (by omega)
  · rw [Array.getElem?_eq_none hl, Array.getElem?_eq_none (by have := h.2.1; omega)]⟩
theorem Reads.only {k : IntKind} {g : Nat} {w w' : World} {a : Option Addr} {n cap : Nat} {xs : List Int} (h : Reads k w a n cap xs) (ho : Only g w w') (hne : ∀ b, a = some b → b.block ≠ g) : Reads k w' a n cap xs := by
  refine ⟨h.len, h.le, h.max, h.nil, fun hn => ?_⟩
  obtain ⟨b, off, e, hl, hc⟩ := h.cells hn
  have hne' : b ≠ g := hne _ e
  exact ⟨b, off, e, Nat.lt_of_lt_of_le hl ho.1.size, fun i hi => (World.cell?_of_block (a := ⟨b, off + i, Option.none⟩) (ho.1.block b hl hne')).trans (hc i hi)⟩
theorem Rdr.drewN {w : World} {g : Nat} {xs : List Int} {p : Nat} (h : Rdr w g xs p) (m : Nat) : Rdr (w.drewN m) g xs p := by
  obtain ⟨a, n, cap, h1, h2, h3, h4, h5, h6, h7⟩ := h
  exact ⟨a, n, cap, h1, h2, h3, h4, h5, h6.drewN m, h7⟩
theorem Rdr.set {w : World} {g : Nat} {xs : List Int} {p q : Nat} (h : Rdr w g xs p) (hq : q ≤ 8 * xs.length) {z : Int} (hz : z = q) : Rdr (w.setCell ⟨g, 1, Option.none⟩ (.int .i64 z)) g xs q := by
  obtain ⟨a, n, cap, h1, h2, h3, h4, h5, h6, h7, h8, h9, h10⟩ := h
  subst hz
  refine ⟨a, n, cap, by simpa using h1, (World.cell?_setCell_other _ _ _ _ (by simp)).trans h2, World.cell?_setCell_same _ _ _ h3, by simpa [World.frozen?_setCell] using h4, by simpa [World.frozen?_setCell] using h5, h6.only ((Only.refl g w).setCell 1 _) h10, h7, h8, by have := h6.len; omega, h10⟩

theorem newReader_any (a : Option Addr) (n cap : Nat) (xs : List Int) (w : World) (hr : Reads .u8 w a n cap xs) (hb : isB xs) (hn : n ≤ 1000000) :
    Calls Try.prog 22 #[.slice a n cap] w fun e w' => ∃ g, e = .returned (.pointer (some ⟨g, 0, Option.none⟩)) ∧ Rdr w' g xs 0 ∧ w.heap.size ≤ g ∧ Below w.heap.size w w' := by
  have Hl := Lib.hid hr.len
  go_enter Try.func22, Try.ntmps22
  go_wp2_with fail
  refine (clone_any a n cap xs w hr (by omega)).mono ?_; rintro e w1 ⟨a1, k1, rfl, o1, b1⟩
  go_wp2
  go_ret
  have hh : (w1.alloc (.cells #[.slice a1 xs.length k1, .int .i64 0] 89)).heap[w1.heap.size]? = some (.cells #[.slice a1 xs.length k1, .int .i64 0] 89) := by
    show (w1.heap.push _)[w1.heap.size]? = _
    simp
  have hl := Hl.out
  refine ⟨w1.heap.size, rfl, ⟨a1, xs.length, k1, by simp, ?_, ?_, ?_, ?_, (reads_of_owns o1).below ((Below.refl _ _).alloc (Nat.le_refl _) _), hb, by omega, by omega, ?_⟩, b1.size, b1.alloc b1.size _⟩
  · unfold World.cell?; rw [hh]; rfl
  · unfold World.cell?; rw [hh]; rfl
  · unfold World.frozen?; rw [hh]; rfl
  · unfold World.frozen?; rw [hh]; rfl
  · rintro b rfl
    have := (o1.lt b.block rfl).2
    omega

theorem at_any {g : Nat} {xs : List Int} {p : Nat} {w : World} (hw : Rdr w g xs p) :
    Calls Try.prog 25 #[.pointer (some ⟨g, 0, Option.none⟩)] w fun e w' => e = .returned (.int .i64 p) ∧ w' = w := by
  obtain ⟨a, n, cap, hg, c0, c1, _⟩ := hw
  go_enter Try.func25, Try.ntmps25
  go_wp2
  go_ret
  exact ⟨rfl, rfl⟩

theorem left_any {g : Nat} {xs : List Int} {p : Nat} {w : World} (hw : Rdr w g xs p) :
    Calls Try.prog 44 #[.pointer (some ⟨g, 0, Option.none⟩)] w fun e w' => e = .returned (.int .i64 ((8 * xs.length - p : Nat) : Int)) ∧ ∃ m, w' = w.drewN m := by
  obtain ⟨a, n, cap, hg, c0, c1, f0, f1, hr, hb, hn, hp, _⟩ := hw
  have Hl := Lib.hid hr.len
  have hw0 : IntKind.i64.wrap (8 * (n : Int)) = 8 * n := Go.IntWalk.i64_in _ (by omega)
  have hw1 : IntKind.i64.wrap (8 * (n : Int) - p) = 8 * n - p := Go.IntWalk.i64_in _ (by omega)
  have Hp := Lib.hid hp
  clear hr hb hp hg f0 f1
  go_enter Try.func44, Try.ntmps44
  go_wp2
  go_quiet (fail)
  go_wp2
  go_ret
  refine ⟨?_, nq, rfl⟩
  clear hw0 hw1
  have hl := Hl.out; have hp := Hp.out
  exact ret_int (by omega)
end Go.Proofs.Ytmdkinhbfndoeaa
