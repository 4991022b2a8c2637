/-
  The reference's reader of bits.
-/
import Derived.Test.YtmdkinhbfndoeaaBitsGet
namespace Go.Proofs.Ytmdkinhbfndoeaa
open Go.RowKit

/-- The reference's reader at block g: the list a, p bits passed over. -/
structure RRd (w : World) (g : Nat) (a : Option Addr) (n cap : Nat) (p : Nat) : Prop where
  lt : g < w.heap.size
  c0 : w.cell? ⟨g, 0, Option.none⟩ = some (.slice a n cap)
  c1 : w.cell? ⟨g, 1, Option.none⟩ = some (.int .i64 p)
  f1 : w.frozen? ⟨g, 1, Option.none⟩ = false
  hn : n ≤ 1000000
  hp : p ≤ 8 * n

theorem RRd.drewN {w : World} {g : Nat} {a : Option Addr} {n cap p : Nat} (h : RRd w g a n cap p) (m : Nat) : RRd (w.drewN m) g a n cap p := ⟨h.lt, h.c0, h.c1, h.f1, h.hn, h.hp⟩
theorem RRd.set {w : World} {g : Nat} {a : Option Addr} {n cap p q : Nat} (h : RRd w g a n cap p) (hq : q ≤ 8 * n) {z : Int} (hz : z = q) : RRd (w.setCell ⟨g, 1, Option.none⟩ (.int .i64 z)) g a n cap q := by
  subst hz
  exact ⟨by simpa using h.lt, (World.cell?_setCell_other _ _ _ _ (by simp)).trans h.c0, World.cell?_setCell_same _ _ _ h.c1, by simpa [World.frozen?_setCell] using h.f1, h.hn, hq⟩
theorem RRd.only {w w' : World} {g q : Nat} {a : Option Addr} {n cap p : Nat} (h : RRd w g a n cap p) (ho : Only q w w') (hne : g ≠ q) : RRd w' g a n cap p := by
  have hk := ho.1.block g h.lt hne
  exact ⟨by rw [ho.2.1]; exact h.lt, (World.cell?_of_block (a := ⟨g, 0, Option.none⟩) hk).trans h.c0, (World.cell?_of_block (a := ⟨g, 1, Option.none⟩) hk).trans h.c1, (World.frozen?_of_block (a := ⟨g, 1, Option.none⟩) hk).trans h.f1, h.hn, h.hp⟩
theorem rleft_any {g : Nat} {a : Option Addr} {n cap p : Nat} {w : World} (hw : RRd w g a n cap p) :
    Calls Try.prog 45 #[.pointer (some ⟨g, 0, Option.none⟩)] w fun e w' => e = .returned (.int .i64 ((8 * n - p : Nat) : Int)) ∧ ∃ m, w' = w.drewN m := by
  obtain ⟨hg, c0, c1, f1, hn, hp⟩ := hw
  have hw0 : IntKind.i64.wrap (8 * (n : Int)) = 8 * n := Go.IntWalk.i64_in _ (by omega)
  have hw1 : IntKind.i64.wrap (8 * (n : Int) - p) = 8 * n - p := Go.IntWalk.i64_in _ (by omega)
  have Hp := Lib.hid hp
  clear hp hg f1
  go_enter Try.func45, Try.ntmps45
  go_wp2
  go_quiet (fail)
  go_wp2
  go_ret
  refine ⟨?_, nq, rfl⟩
  clear hw0 hw1
  have hp := Hp.out
  exact ret_int (by omega)

theorem rget_range (p : Option Addr) (k : Int) (w : World) (hk : -9223372036854775808 ≤ k ∧ k ≤ 9223372036854775807) (h : k < 0 ∨ 24 < k) :
    Calls Try.prog 38 #[.pointer p, .int .i64 k] w fun e w' => e = .returned (.tuple #[.int .u32 0, .int .i64 1]) ∧ w' = w := by
  by_cases h1 : k < 0
  · go_enter Try.func38, Try.ntmps38
    go_wp2
    go_ret2
    exact ⟨rfl, rfl⟩
  · have h2 : 24 < k := by omega
    go_enter Try.func38, Try.ntmps38
    go_wp2
    go_ret2
    exact ⟨rfl, rfl⟩

theorem rget_short {g : Nat} {a : Option Addr} {n cap p : Nat} (k : Nat) {w : World} (hw : RRd w g a n cap p) (hk : k ≤ 24) (h : 8 * n - p < k) :
    Calls Try.prog 38 #[.pointer (some ⟨g, 0, Option.none⟩), .int .i64 k] w fun e w' => e = .returned (.tuple #[.int .u32 0, .int .i64 2]) ∧ ∃ m, w' = w.drewN m := by
  have h1 : ¬ (k : Int) < 0 := by omega
  have h2 : ¬ 24 < (k : Int) := by omega
  have hgt : ((8 * n - p : Nat) : Int) < (k : Int) := by omega
  generalize hr : 8 * n - p = r at *
  have HL := fun w' hw' => rleft_any (g := g) (a := a) (n := n) (cap := cap) (p := p) (w := w') hw'
  rw [hr] at HL
  have HR := Lib.hid hr; have HLL := Lib.hid HL; have HW := Lib.hid hw
  clear hr HL h hw
  go_enter Try.func38, Try.ntmps38
  go_wp2_with fail
  refine (HLL.out w HW.out).mono ?_; rintro e w1 ⟨rfl, m, rfl⟩
  go_wp2
  go_ret2
  exact ⟨rfl, m, rfl⟩

/-- What is or'ed to the number: one bit. -/
theorem wraps_u8' (n : Int) (h₀ : 0 ≤ n) (h₁ : n < 2 ^ 8) : IntKind.u8.wrap n = n := by rw [IntKind.wrap_u8]; omega
theorem or_get1 (n x u j : Nat) (hn : n < 2 ^ j) (hx : x < 256) (ht : u < 8) (hj : j < 24) :
    bits .or .u32 (n : Int) (bits .and .u8 ((x : Int) / 2 ^ u) 1 % 4294967296 * 2 ^ j % 4294967296) = ((n + x / 2 ^ u % 2 ^ 1 * 2 ^ j : Nat) : Int) := by
  have h0 : (x : Int) / 2 ^ u = ((x / 2 ^ u : Nat) : Int) := by simp
  have hq : x / 2 ^ u ≤ x := Nat.div_le_self _ _
  rw [h0]
  clear h0
  generalize x / 2 ^ u = z at *
  have hm := bits_mask .u8 8 (by decide) wraps_u8' 1 (by omega) (z : Int) (by omega) (by omega)
  rw [show (2 : Int) ^ 1 - 1 = 1 by rfl] at hm
  rw [hm]
  have h2 : (z : Int) % 2 ^ 1 = ((z % 2 ^ 1 : Nat) : Int) := by simp
  rw [h2]
  have h3 : z % 2 ^ 1 < 2 ^ 1 := Nat.mod_lt _ (Nat.pow_pos (by decide))
  clear h2 hm
  generalize z % 2 ^ 1 = y at *
  rw [show (y : Int) % 4294967296 = y by omega]
  have hj2 : (2 : Nat) ^ j ≤ 2 ^ 23 := Nat.pow_le_pow_right (by decide) (by omega)
  have h4 : y * 2 ^ j ≤ 1 * 2 ^ j := Nat.mul_le_mul_right _ (by omega)
  have e2 : ((y * 2 ^ j : Nat) : Int) = (y : Int) * 2 ^ j := by simp
  have e3 : ((y * 2 ^ j : Nat) : Int) % 4294967296 = ((y * 2 ^ j : Nat) : Int) := by omega
  rw [← e2, e3, bits_or_comm, or_join_u32 j ((y * 2 ^ j : Nat) : Int) n (by omega) (by rw [e2]; exact Int.mul_emod_left _ _) (by omega) (by omega) (by exact_mod_cast hn) (by omega)]
  omega

/-- A number got. -/
def RGot (g : Nat) (a : Option Addr) (n cap p k V : Nat) (w : World) (e : Ending) (w' : World) : Prop := e = .returned (.tuple #[.int .u32 ((V / 2 ^ p % 2 ^ k : Nat) : Int), .int .i64 0]) ∧ RRd w' g a n cap (p + k) ∧ Only g w w'

set_option maxRecDepth 100000 in
set_option maxHeartbeats 1000000 in
theorem rget_yes {g : Nat} {a : Option Addr} {n cap p : Nat} {xs : List Int} (k V : Nat) {w : World} (hw : RRd w g a n cap p) (hr : Reads .u8 w a n cap xs) (hb : isB xs) (hV : rlit xs = (V : Int)) (hk : k ≤ 24) (h : p + k ≤ 8 * n) :
    Calls Try.prog 38 #[.pointer (some ⟨g, 0, Option.none⟩), .int .i64 k] w (RGot g a n cap p k V w) := by
  have h1 : ¬ (k : Int) < 0 := by omega
  have h2 : ¬ 24 < (k : Int) := by omega
  have hgt : ¬ ((8 * n - p : Nat) : Int) < (k : Int) := by omega
  have HW := Lib.hid hw
  have hn := hw.hn
  generalize hrr : 8 * n - p = r at *
  have HL := fun w' hw' => rleft_any (g := g) (a := a) (n := n) (cap := cap) (p := p) (w := w') hw'
  rw [hrr] at HL
  have HLL := Lib.hid HL; have HV := Lib.hid hV; have HP := Lib.hid h
  have HR := Lib.hid hr; have HB := Lib.hid hb
  have hdec : decide (r < k) = false := by simp; omega
  clear hrr HL hw hV h hgt hr hb
  go_enter Try.func38, Try.ntmps38
  go_wp2_with fail
  refine (HLL.out w HW.out).mono ?_; rintro e w1 ⟨rfl, m0, rfl⟩
  go_wp2
  go_loopw [6, 7] (fun vn vg wr => ∃ j : Nat, j ≤ k ∧ vg = .int .i64 j ∧ vn = .int .u32 ((V / 2 ^ p % 2 ^ j : Nat) : Int) ∧ ∃ m1, wr = w.drewN m1) (fun _ vg _ => k - (intOf vg).toNat)
  case atStart => exact ⟨0, Nat.zero_le _, rfl, by simp [Nat.mod_one], m0, rfl⟩
  case round =>
    obtain ⟨j, hj, rfl, rfl, m1, rfl⟩ := hrel
    have hd := HW.out.drewN m1
    have HD := Lib.hid hd
    obtain ⟨hg, c0, c1, f1, _, _⟩ := hd
    by_cases hlt : j < k
    · have hrd := HR.out.drewN m1
      have hl := hrd.len
      have hle : p + k ≤ 8 * n := HP.out
      obtain ⟨u, hu⟩ : ∃ u : Nat, (p + j) % 8 = u := ⟨_, rfl⟩
      obtain ⟨m, hm⟩ : ∃ m : Nat, (p + j) / 8 = m := ⟨_, rfl⟩
      have hmn : m < n := by omega
      obtain ⟨b, off, rfl, xc⟩ := hrd.cellAt m hmn
      have hdg := rlit_digit xs V m HB.out HV.out (by omega)
      have hx := HB.out.get m (by omega)
      have hbd := bits_digit V (p + j) 1 (by omega)
      rw [hu, hm] at hbd
      have hst := get_step V p j 1
      obtain ⟨x, hxx⟩ : ∃ x : Nat, V / 256 ^ m % 256 = x := ⟨_, rfl⟩
      rw [hxx] at hdg hbd
      rw [hdg] at xc hx
      have hnl : V / 2 ^ p % 2 ^ j < 2 ^ j := Nat.mod_lt _ (Nat.pow_pos (by decide))
      have hor := or_get1 (V / 2 ^ p % 2 ^ j) x u j hnl (by omega) (by omega) (by omega)
      rw [hbd, hst] at hor
      have hrem : ((p : Int) + (j : Int)) % 8 = u := by omega
      have hdiv : ((p : Int) + (j : Int)) / 8 = m := by omega
      have hjk : j + 1 ≤ k := by omega
      generalize V / 2 ^ p % 2 ^ j = n0 at *
      generalize hn1 : V / 2 ^ p % 2 ^ (j + 1) = n1 at *
      have HN1 := Lib.hid hn1; clear hn1
      have q1 : ((p : Int) + (j : Int)).tdiv 8 = m := by rw [Int.tdiv_eq_ediv_of_nonneg (by omega)]; exact hdiv
      have q2 : IntKind.i64.wrap (m : Int) = m := Go.IntWalk.i64_in _ (by omega)
      have q3 : (m : Int) < n := by omega
      have q4 : (0 : Int) ≤ m := by omega
      have q5 : (p : Int) + (j : Int) < 8000000 := by omega
      clear hu hm hdg hbd hst hxx hl hrd hnl hle
      go_wp2_with fail
      go_roundw
      case rel => exact ⟨j + 1, hjk, by go_num, by rw [HN1.out], m1, rfl⟩
      case measure => simp [intOf]; omega
    · obtain rfl : j = k := by omega
      clear hdec
      go_wp2
      go_ret2
      exact ⟨rfl, HD.out.set HP.out (by omega), ((Only.refl _ _).drewN m1).setCell _ _⟩

/-! ### both readers' answers -/
def gotE (L p : Nat) (k : Int) : Int := if k < 0 ∨ 24 < k then 1 else if L - p < k.toNat then 2 else 0
def gotV (V L p : Nat) (k : Int) : Nat := if gotE L p k = 0 then V / 2 ^ p % 2 ^ k.toNat else 0
def gotP (L p : Nat) (k : Int) : Nat := if gotE L p k = 0 then p + k.toNat else p

theorem get_any {g : Nat} {xs : List Int} {p : Nat} (k : Int) (V : Nat) {w : World} (hw : Rdr w g xs p) (hV : rlit xs = (V : Int)) (hk : -9223372036854775808 ≤ k ∧ k ≤ 9223372036854775807) :
    Calls Try.prog 37 #[.pointer (some ⟨g, 0, Option.none⟩), .int .i64 k] w fun e w' => e = .returned (.tuple #[.int .u32 (gotV V (8 * xs.length) p k : Nat), .int .i64 (gotE (8 * xs.length) p k)]) ∧ Rdr w' g xs (gotP (8 * xs.length) p k) ∧ Only g w w' := by
  by_cases h1 : k < 0 ∨ 24 < k
  · simp only [gotV, gotP, gotE, if_pos h1]
    refine (get_range _ k w hk h1).mono ?_
    rintro e w' ⟨rfl, rfl⟩
    exact ⟨rfl, hw, Only.refl _ _⟩
  · obtain ⟨m, rfl⟩ := Int.eq_ofNat_of_zero_le (show 0 ≤ k by omega)
    simp only [gotV, gotP, gotE, if_neg h1, Int.toNat_natCast, Int.ofNat_eq_natCast]
    obtain ⟨a, n, cap, _, _, _, _, _, hr, _, _, hp, _⟩ := id hw
    have hl := hr.len
    by_cases h2 : 8 * xs.length - p < m
    · simp only [if_pos h2]
      refine (get_short m hw (by omega) h2).mono ?_
      rintro e w' ⟨rfl, q, rfl⟩
      exact ⟨rfl, hw.drewN q, (Only.refl _ _).drewN q⟩
    · simp only [if_neg h2]
      exact get_yes m V hw hV (by omega) (by omega)

theorem rget_any {g : Nat} {a : Option Addr} {n cap : Nat} {xs : List Int} {p : Nat} (k : Int) (V : Nat) {w : World} (hw : RRd w g a n cap p) (hr : Reads .u8 w a n cap xs) (hb : isB xs) (hV : rlit xs = (V : Int)) (hk : -9223372036854775808 ≤ k ∧ k ≤ 9223372036854775807) :
    Calls Try.prog 38 #[.pointer (some ⟨g, 0, Option.none⟩), .int .i64 k] w fun e w' => e = .returned (.tuple #[.int .u32 (gotV V (8 * xs.length) p k : Nat), .int .i64 (gotE (8 * xs.length) p k)]) ∧ RRd w' g a n cap (gotP (8 * xs.length) p k) ∧ Only g w w' := by
  have hl := hr.len
  by_cases h1 : k < 0 ∨ 24 < k
  · simp only [gotV, gotP, gotE, if_pos h1]
    refine (rget_range _ k w hk h1).mono ?_
    rintro e w' ⟨rfl, rfl⟩
    exact ⟨rfl, hw, Only.refl _ _⟩
  · obtain ⟨m, rfl⟩ := Int.eq_ofNat_of_zero_le (show 0 ≤ k by omega)
    simp only [gotV, gotP, gotE, if_neg h1, Int.toNat_natCast, Int.ofNat_eq_natCast]
    have hp := hw.hp
    by_cases h2 : 8 * xs.length - p < m
    · simp only [if_pos h2]
      refine (rget_short m hw (by omega) (by omega)).mono ?_
      rintro e w' ⟨rfl, q, rfl⟩
      exact ⟨rfl, hw.drewN q, (Only.refl _ _).drewN q⟩
    · simp only [if_neg h2]
      exact rget_yes m V hw hr hb hV (by omega) (by omega)

theorem gotP_le {L p : Nat} (k : Int) (h : p ≤ L) : gotP L p k ≤ L := by
  unfold gotP gotE
  by_cases h1 : k < 0 ∨ 24 < k
  · simp [h1, h]
  · simp only [if_neg h1]
    by_cases h2 : L - p < k.toNat
    · simp [h2, h]
    · simp only [if_neg h2, if_true]; omega

/-- The program's reader and the reference's, at p and at q bits. -/
structure Pair (wI w : World) (g gx : Nat) (a : Option Addr) (n cap : Nat) (xs : List Int) (p q : Nat) : Prop where
  rd : Rdr w g xs p
  rr : RRd w gx a n cap q
  ne : g ≠ gx
  bel : Below wI.heap.size wI w
  lo : wI.heap.size ≤ g ∧ wI.heap.size ≤ gx
  ap : ∀ (b : Option Addr) (m k : Nat), w.cell? ⟨g, 0, Option.none⟩ = some (.slice b m k) → 0 < m → ∀ c, b = some c → c.block ≠ gx

section
variable {wI w w' : World} {g gx : Nat} {a : Option Addr} {n cap : Nat} {xs : List Int} {p q p' q' : Nat}
theorem Pair.impl (h : Pair wI w g gx a n cap xs p q) (hr : Rdr w' g xs p') (ho : Only g w w') : Pair wI w' g gx a n cap xs p' q :=
  ⟨hr, h.rr.only ho h.ne.symm, h.ne, h.bel.trans (ho.below.mono h.lo.1), h.lo, fun b m k hc => h.ap b m k (by rw [← ho.2.2 0 (by decide)]; exact hc)⟩
theorem Reads.onlyPos {k : IntKind} {g : Nat} {w w' : World} {a : Option Addr} {n cap : Nat} {xs : List Int} (h : Reads k w a n cap xs) (ho : Only g w w') (hne : 0 < n → ∀ b, a = some b → b.block ≠ g) : Reads k w' a n cap xs := by
  refine ⟨h.len, h.le, h.max, h.nil, fun hn => ?_⟩
  obtain ⟨b, off, e, hl, hc⟩ := h.cells hn
  have hne' : b ≠ g := hne hn _ e
  exact ⟨b, off, e, Nat.lt_of_lt_of_le hl ho.1.size, fun i hi => (World.cell?_of_block (a := ⟨b, off + i, Option.none⟩) (ho.1.block b hl hne')).trans (hc i hi)⟩
theorem Pair.ref (h : Pair wI w g gx a n cap xs p q) (hr : RRd w' gx a n cap q') (ho : Only gx w w') : Pair wI w' g gx a n cap xs p q' := by
  have hk := fun hl => ho.1.block g hl h.ne
  obtain ⟨b, m, k, h1, h2, h3, h4, h5, h6, h7, h8, h9, h10⟩ := h.rd
  refine ⟨⟨b, m, k, by rw [ho.2.1]; exact h1, (World.cell?_of_block (a := ⟨g, 0, Option.none⟩) (hk h1)).trans h2, (World.cell?_of_block (a := ⟨g, 1, Option.none⟩) (hk h1)).trans h3, (World.frozen?_of_block (a := ⟨g, 0, Option.none⟩) (hk h1)).trans h4, (World.frozen?_of_block (a := ⟨g, 1, Option.none⟩) (hk h1)).trans h5, h6.onlyPos ho (h.ap b m k h2), h7, h8, h9, h10⟩, hr, h.ne, h.bel.trans (ho.below.mono h.lo.2), h.lo, fun b m k hc => h.ap b m k (by rw [← World.cell?_of_block (a := ⟨g, 0, Option.none⟩) (hk h1)]; exact hc)⟩
theorem Pair.drewN (h : Pair wI w g gx a n cap xs p q) (m : Nat) : Pair wI (w.drewN m) g gx a n cap xs p q :=
  ⟨h.rd.drewN m, h.rr.drewN m, h.ne, below_drewN h.bel m, h.lo, h.ap⟩
end
end Go.Proofs.Ytmdkinhbfndoeaa
