/-
  The walk of BitsReads.
-/
import Derived.Test.YteancefgkllgoaaBitsWalkEnds
import Derived.Test.YteancefgkllgoaaBitsRRef
import Derived.Test.YteancefgkllgoaaBitsOps
import Derived.BigQuiet
namespace Go.Proofs.Yteancefgkllgoaa
open Go.RowKit

set_option maxHeartbeats 1000000 in
theorem reads_not (b : Option Addr) (n cap : Nat) (a : Option Addr) (m ca : Nat) (w : World) (hn : n ≤ 9223372036854775807) (hm : m ≤ 9223372036854775807) (h : ¬ (n ≤ 8000 ∧ m ≤ 500)) :
    Calls Try.prog 4 #[.slice b n cap, .slice a m ca] w fun e w' => e = .returned (.bool true) ∧ Below w.heap.size w w' := by
  by_cases h1 : (8000 : Int) < n
  · go_enter Try.func4, Try.ntmps4
    go_wp2_with fail
    refine (first_any w).mono ?_; rintro e w1 ⟨rfl, b1⟩
    go_wp2_with fail
    refine (first_any w1).mono ?_; rintro e w2 ⟨rfl, b2⟩
    go_wp2_with fail
    go_ret
    exact ⟨rfl, below_size b1 b2⟩
  · have h2 : (500 : Int) < m := by omega
    go_enter Try.func4, Try.ntmps4
    go_wp2_with fail
    refine (first_any w).mono ?_; rintro e w1 ⟨rfl, b1⟩
    go_wp2_with fail
    refine (first_any w1).mono ?_; rintro e w2 ⟨rfl, b2⟩
    go_wp2_with fail
    go_ret
    exact ⟨rfl, below_size b1 b2⟩

set_option maxRecDepth 100000 in
set_option maxHeartbeats 2000000 in
theorem reads_in (b : Option Addr) (n cap : Nat) (xs : List Int) (a : Option Addr) (m ca : Nat) (kd ct nm : Nat → Int) (w : World) (hr : Reads .u8 w b n cap xs) (hb : isB xs) (ho : Ops w a m ca kd ct nm) (hn : n ≤ 8000) (hm : m ≤ 500) :
    Calls Try.prog 4 #[.slice b n cap, .slice a m ca] w fun e w' => e = .returned (.bool true) ∧ Below w.heap.size w w' := by
  obtain ⟨V, hV⟩ : ∃ V : Nat, rlit xs = (V : Int) := ⟨(rlit xs).toNat, by have := (rlit_bd xs hb).1; omega⟩
  have HV := Lib.hid hV; clear hV
  have Hl := Lib.hid hr.len
  have HB := Lib.hid hb; have HR := Lib.hid hr; have HO := Lib.hid ho
  have c1 : decide ((8000 : Int) < n) = false := by simp; omega
  have c2 : decide ((500 : Int) < m) = false := by simp; omega
  clear hb hr ho
  go_enter Try.func4, Try.ntmps4
  go_wp2_with fail
  refine (first_any w).mono ?_; rintro e w1 ⟨rfl, b1⟩
  replace HR := Lib.hid (HR.out.below b1); replace HO := Lib.hid (HO.out.below b1)
  go_wp2_with fail
  refine (copyBytes_any _ _ _ _ _ HR.out (by omega)).mono ?_; rintro e wI ⟨ai, ki, rfl, oi, b2⟩
  rw [Hl.out] at oi
  rw [Hl.out]
  replace HR := Lib.hid (HR.out.below b2); replace HO := Lib.hid (HO.out.below b2)
  have I := Lib.hid (reads_of_owns oi)
  have BI := Lib.hid (below_size b1 b2)
  clear b1 b2 oi
  go_wp2_with fail
  refine (newReader_any ai n ki xs wI I.out HB.out (by omega)).mono ?_; rintro e w3 ⟨g, rfl, R3, hg, b3⟩
  have HR3 := Lib.hid R3; have B3 := Lib.hid b3
  have hgl : g < w3.heap.size := by obtain ⟨_, _, _, h1, _⟩ := R3; exact h1
  have Hgl := Lib.hid hgl
  clear R3 b3 hgl
  go_wp2_with fail
  have P0 : Pair wI (w3.alloc (.cells #[.slice b n cap, .int .i64 0] 44)) g w3.heap.size b n cap xs 0 0 := by
    have bl : Below w3.heap.size w3 (w3.alloc (.cells #[.slice b n cap, .int .i64 0] 44)) := (Below.refl _ _).alloc (Nat.le_refl _) _
    have hh : (w3.alloc (.cells #[.slice b n cap, .int .i64 0] 44)).heap[w3.heap.size]? = some (.cells #[.slice b n cap, .int .i64 0] 44) := by
      show (w3.heap.push _)[w3.heap.size]? = _
      simp
    refine ⟨HR3.out.below bl, ⟨by simp, ?_, ?_, ?_, by omega, by omega⟩, Nat.ne_of_lt Hgl.out, below_size B3.out bl, ⟨hg, B3.out.size⟩, fun q k c hc hq z hz => ?_⟩
    · unfold World.cell?; rw [hh]; rfl
    · unfold World.cell?; rw [hh]; rfl
    · unfold World.frozen?; rw [hh]; rfl
    · obtain ⟨a1, n1, k1, h1, h2, h3, h4, h5, h6, _⟩ := HR3.out
      have e1 := (bl.cell (p := ⟨g, 0, Option.none⟩) h1).trans h2
      rw [hc] at e1
      obtain ⟨rfl, rfl, rfl⟩ : q = a1 ∧ k = n1 ∧ c = k1 := by simpa using e1
      obtain ⟨y, off, e, hy, _⟩ := h6.cells hq
      rw [hz] at e
      obtain rfl : z = ⟨y, off, Option.none⟩ := by simpa using e
      show y ≠ w3.heap.size
      omega
  have HP0 := Lib.hid P0
  clear P0 HR3 B3 Hgl hg
  generalize w3.alloc (.cells #[.slice b n cap, .int .i64 0] 44) = w4 at *
  generalize w3.heap.size = gx at *
  go_loopw [8] (fun vi wr => ∃ (i p : Nat), i ≤ m ∧ vi = .int .i64 i ∧ Pair wI wr g gx b n cap xs p p) (fun vi _ => m - (intOf vi).toNat)
  case atStart => exact ⟨0, 0, Nat.zero_le _, rfl, HP0.out⟩
  case round =>
    obtain ⟨i, p, hi, rfl, hP⟩ := hrel
    clear HP0
    by_cases hlt : i < m
    · obtain ⟨ga, off, rfl, hgl, k0, k1, k2⟩ := (HO.out.below hP.bel).at i hlt
      obtain ⟨d0, d1, d2⟩ := HO.out.bd i hlt
      clear k2 d2
      obtain ⟨κ, hκ⟩ : ∃ κ, kd i = κ := ⟨_, rfl⟩
      obtain ⟨ψ, hψ⟩ : ∃ ψ, ct i = ψ := ⟨_, rfl⟩
      rw [hκ] at k0 d0
      rw [hψ] at k1 d1
      have HPS := Lib.hid hψ
      clear hκ hψ
      have HP := Lib.hid hP
      clear hP
      by_cases hk : κ = 2
      · subst hk
        go_wp2_with fail
        refine (ralign_any g xs p _ HP.out.rd).mono ?_; rintro e wy ⟨rfl, R4, O4⟩
        replace HP := Lib.hid (HP.out.impl R4 O4)
        clear R4 O4 k0 k1
        go_wp2_with fail
        refine (rralign_any gx b n cap p _ HP.out.rr).mono ?_; rintro e wz ⟨rfl, R4, O4⟩
        replace HP := Lib.hid (HP.out.ref R4 O4)
        clear R4 O4
        generalize (p + 7) / 8 * 8 = p' at *
        generalize hL : 8 * n - p' = L at *
        have hL' := Lib.hid hL
        clear hL
        have hx : ∀ i, (wz.drewN i).cell? ⟨gx, 1, Option.none⟩ = some (.int .i64 (p' : Nat)) := fun i => HP.out.rr.c1
        have A1 := fun i => at_any (HP.out.rd.drewN i)
        have A2 := fun i => left_any (HP.out.rd.drewN i)
        have A3 := fun i => rleft_any (HP.out.rr.drewN i)
        rw [Hl.out, hL'.out] at A2
        rw [hL'.out] at A3
        have B1 := Lib.hid A1; have B2 := Lib.hid A2; have B3 := Lib.hid A3
        clear A1 A2 A3
        go_wp2_with fail
        go_quiet (first
          | (go_at_call 27; exact Calls.quiet_of_same (B1.out _))
          | (go_at_call 28; exact Calls.quiet_of (B2.out _))
          | (go_at_call 29; exact Calls.quiet_of (B3.out _)))
        go_wp2_with fail
        go_roundw
        case rel => exact ⟨i + 1, p', by omega, by go_num, HP.out.drewN _⟩
        case measure => simp [intOf]; omega
      · go_wp2_with fail
        refine (get_any ψ V HP.out.rd HV.out d1).mono ?_; rintro e wy ⟨he, R4, O4⟩
        rw [Hl.out] at he R4
        subst he
        have hP4 := HP.out.impl R4 O4
        have k1' : wy.cell? ⟨ga, off + i * 3 + 1, Option.none⟩ = some (.int .i64 ψ) := by
          obtain ⟨ga', off', e, _, _, h2, _⟩ := (HO.out.below hP4.bel).at i hlt
          obtain ⟨rfl, rfl⟩ : ga = ga' ∧ off = off' := by simpa using e
          rw [HPS.out] at h2
          exact h2
        clear k0 k1
        replace HP := Lib.hid hP4
        clear R4 O4 hP4
        go_wp2_with fail
        refine (rget_any ψ V HP.out.rr (HR.out.below HP.out.bel) HB.out HV.out d1).mono ?_; rintro e wz ⟨he, R4, O4⟩
        rw [Hl.out] at he R4
        subst he
        replace HP := Lib.hid (HP.out.ref R4 O4)
        clear R4 O4 k1'
        generalize gotP (8 * n) p ψ = p' at *
        generalize gotE (8 * n) p ψ = ee at *
        generalize gotV V (8 * n) p ψ = vv at *
        generalize hL : 8 * n - p' = L at *
        have hL' := Lib.hid hL
        clear hL
        have hx : ∀ i, (wz.drewN i).cell? ⟨gx, 1, Option.none⟩ = some (.int .i64 (p' : Nat)) := fun i => HP.out.rr.c1
        have A1 := fun i => at_any (HP.out.rd.drewN i)
        have A2 := fun i => left_any (HP.out.rd.drewN i)
        have A3 := fun i => rleft_any (HP.out.rr.drewN i)
        rw [Hl.out, hL'.out] at A2
        rw [hL'.out] at A3
        have B1 := Lib.hid A1; have B2 := Lib.hid A2; have B3 := Lib.hid A3
        clear A1 A2 A3
        go_wp2_with fail
        go_quiet (first
          | (go_at_call 27; exact Calls.quiet_of_same (B1.out _))
          | (go_at_call 28; exact Calls.quiet_of (B2.out _))
          | (go_at_call 29; exact Calls.quiet_of (B3.out _)))
        go_wp2_with fail
        go_roundw
        case rel => exact ⟨i + 1, p', by omega, by go_num, HP.out.drewN _⟩
        case measure => simp [intOf]; omega
    · obtain rfl : i = m := by omega
      have HP := Lib.hid hP
      clear hP
      go_wp2_with fail
      refine (first_any wr).mono ?_; rintro e w9 ⟨rfl, b9⟩
      have BA := Lib.hid (below_size HP.out.bel b9)
      clear b9 HP
      go_wp2_with fail
      have q1 := bytes_any _ _ _ _ _ _ _ _ _ (I.out.below BA.out) (HR.out.below BA.out) HB.out HB.out
      rw [decide_eq_true rfl] at q1
      have Q1 := Lib.hid q1; clear q1
      refine Q1.out.mono ?_; rintro e w12 ⟨rfl, rfl⟩
      clear Q1
      go_wp2_with fail
      go_ret
      exact ⟨rfl, below_size BI.out BA.out⟩

theorem walk_BitsReads (b : Option Addr) (n cap : Nat) (xs : List Int) (a : Option Addr) (m ca : Nat) (kd ct nm : Nat → Int) (w : World) (hr : Reads .u8 w b n cap xs) (hb : isB xs) (ho : Ops w a m ca kd ct nm) :
    Calls Try.prog 4 #[.slice b n cap, .slice a m ca] w fun e w' => e = .returned (.bool true) ∧ Below w.heap.size w w' := by
  by_cases h : n ≤ 8000 ∧ m ≤ 500
  · exact reads_in b n cap xs a m ca kd ct nm w hr hb ho h.1 h.2
  · exact reads_not b n cap a m ca w hr.n63.1 ho.n63 h
end Go.Proofs.Yteancefgkllgoaa
