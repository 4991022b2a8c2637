/-
  The statements' first function of chapter 6; lists of tokens as they read.
-/
import Derived.Test.YtfolhckhedinhaaLzFind
import Derived.Lib.SlBytesConst
namespace Go.Proofs.Ytfolhckhedinhaa
open Go.RowKit

/-- The list (a, n, cap) reads as the tokens ts. -/
structure Toks (w : World) (a : Option Addr) (n cap : Nat) (ts : List Tok) : Prop where
  len : ts.length = n
  le : n ≤ cap
  max : cap ≤ maxLen
  cells : 0 < n → ∃ b off, a = some ⟨b, off, Option.none⟩ ∧ b < w.heap.size ∧ ∀ i, (h : i < ts.length) → w.cell? ⟨b, off + i * 3, Option.none⟩ = some (.int .i64 ts[i].1) ∧ w.cell? ⟨b, off + i * 3 + 1, Option.none⟩ = some (.int .i64 ts[i].2.1) ∧ w.cell? ⟨b, off + i * 3 + 2, Option.none⟩ = some (.int .i64 ts[i].2.2)

section
variable {w w' : World} {a : Option Addr} {n cap : Nat} {ts : List Tok}
theorem Toks.below (h : Toks w a n cap ts) (hb : Below w.heap.size w w') : Toks w' a n cap ts :=
  ⟨h.len, h.le, h.max, fun hn => by
    obtain ⟨b, off, e, hl, hc⟩ := h.cells hn
    exact ⟨b, off, e, Nat.lt_of_lt_of_le hl hb.size, fun i hi => ⟨(hb.cell (p := ⟨b, off + i * 3, Option.none⟩) hl).trans (hc i hi).1, (hb.cell (p := ⟨b, off + i * 3 + 1, Option.none⟩) hl).trans (hc i hi).2.1, (hb.cell (p := ⟨b, off + i * 3 + 2, Option.none⟩) hl).trans (hc i hi).2.2⟩⟩⟩
theorem Toks.n63 (h : Toks w a n cap ts) : n ≤ 9223372036854775807 := by
  have h1 := h.le; have h2 := h.max; unfold maxLen at h2; omega
theorem Toks.drewN (h : Toks w a n cap ts) (m : Nat) : Toks (w.drewN m) a n cap ts := ⟨h.len, h.le, h.max, h.cells⟩
theorem toks_of_owns {base T : Nat} (h : w.ownsRow base T 3 (.slice a n cap) n (flatT ts)) (hl : ts.length = n) : Toks w a n cap ts := by
  rcases h.2 with ⟨e, h0⟩ | ⟨g, c, cur, e, hb, hh, hc, hm, _⟩
  · obtain ⟨rfl, rfl, rfl⟩ := (by simpa using e : a = Option.none ∧ n = 0 ∧ cap = 0)
    exact ⟨hl, Nat.le_refl _, by decide, fun h => absurd h (by decide)⟩
  · obtain ⟨rfl, rfl⟩ := (by simpa using e : a = some ⟨g, 0, Option.none⟩ ∧ cap = c)
    refine ⟨hl, hc, hm, fun hn => ⟨g, 0, rfl, (h.lt g rfl).2, fun i hi => ?_⟩⟩
    obtain ⟨f0, f1, f2⟩ := flatT_get ts i hi
    have q0 := h.cells (g := g) rfl _ _ f0
    have q1 := h.cells (g := g) rfl _ _ f1
    have q2 := h.cells (g := g) rfl _ _ f2
    rw [Addr.add_lit] at q0 q1 q2
    exact ⟨q0, by rw [Nat.add_assoc]; exact q1, by rw [Nat.add_assoc]; exact q2⟩
theorem Toks.at (h : Toks w a n cap ts) (i : Nat) (hi : i < n) : ∃ b off t, a = some ⟨b, off, Option.none⟩ ∧ b < w.heap.size ∧ ts[i]? = some t ∧ w.cell? ⟨b, off + i * 3, Option.none⟩ = some (.int .i64 t.1) ∧ w.cell? ⟨b, off + i * 3 + 1, Option.none⟩ = some (.int .i64 t.2.1) ∧ w.cell? ⟨b, off + i * 3 + 2, Option.none⟩ = some (.int .i64 t.2.2) := by
  obtain ⟨b, off, e, hl, hc⟩ := h.cells (by omega)
  have hi' : i < ts.length := by rw [h.len]; exact hi
  exact ⟨b, off, ts[i], e, hl, List.getElem?_eq_getElem hi', (hc i hi').1, (hc i hi').2.1, (hc i hi').2.2⟩
end

theorem find_four : findL [97, 97, 97, 97] = [(0, 0, 97), (3, 1, 0)] := by decide +kernel

set_option maxRecDepth 100000 in
set_option maxHeartbeats 1000000 in
theorem first_any (w : World) :
    Calls Try.prog 9 #[] w fun e w' => e = .returned (.bool true) ∧ Below w.heap.size w w' := by
  have hrd := reads_alloc (k := .u8) w [97, 97, 97, 97] #[.int .u8 97, .int .u8 97, .int .u8 97, .int .u8 97] 5 (4, 5) rfl (by unfold maxLen; simp) 4 rfl
  have hbl : Below w.heap.size w (w.alloc (.cells #[.int .u8 97, .int .u8 97, .int .u8 97, .int .u8 97] 5 (4, 5))) := (Below.refl _ _).alloc (Nat.le_refl _) _
  have HF := Lib.hid (find_yes _ _ _ _ _ hrd (isB_of_all _ (by decide)) (by decide))
  have HB := Lib.hid hbl
  clear hrd hbl
  have kc := fun (w : World) (C : Array Value) (n c : Nat) => Lib.run_convert_bytes_const (P := Try.prog) w 22 5 C n c Try.underlying22 Try.underlying5
  go_enter Try.func9, Try.ntmps9
  go_wp2_with fail
  refine HF.out.mono ?_; rintro e w1 ⟨a, cap, rfl, o1, b1⟩
  rw [find_four] at o1 ⊢
  have ht := toks_of_owns o1 rfl
  obtain ⟨b, off, rfl, _, hc⟩ := ht.cells (by decide)
  have h0 := hc 0 (by decide)
  have h1 := hc 1 (by decide)
  simp at h0 h1
  obtain ⟨k0, k1, k2⟩ := h0
  obtain ⟨l0, l1, l2⟩ := h1
  have B1 := Lib.hid (below_size HB.out b1)
  clear HF HB o1 b1 ht hc
  go_wp2_with fail
  go_ret
  exact ⟨rfl, B1.out⟩
end Go.Proofs.Ytfolhckhedinhaa
