/-
  The walk of HuffReads.
-/
import Derived.Test.YtmdkinhbfndoeaaHuffRNext
import Derived.Test.YtmdkinhbfndoeaaHuffFirst
import Derived.Test.YtmdkinhbfndoeaaHuffWalkCodes
import Derived.BigQuiet
namespace Go.Proofs.Ytmdkinhbfndoeaa
open Go.RowKit

set_option maxRecDepth 100000 in
set_option maxHeartbeats 1000000 in
theorem hr_not (a : Option Addr) (n cap : Nat) (b : Option Addr) (m cb : Nat) (w : World) (_hn : n ≤ 9223372036854775807) (_hm : m ≤ 9223372036854775807) (h : ¬ (n ≤ 400 ∧ m ≤ 300)) :
    Calls Try.prog 5 #[.slice a n cap, .slice b m cb] w fun e w' => e = .returned (.bool true) ∧ Below w.heap.size w w' := by
  by_cases h1 : (400 : Int) < n
  · clear h
    go_enter Try.func5, Try.ntmps5
    go_wp2_with fail
    refine (first_any w).mono ?_; rintro e w1 ⟨rfl, b1⟩
    go_wp2_with fail
    refine (first_any w1).mono ?_; rintro e w2 ⟨rfl, b2⟩
    go_wp2_with fail
    go_ret
    exact ⟨rfl, below_size b1 b2⟩
  · have h2 : (300 : Int) < m := by omega
    clear h
    go_enter Try.func5, Try.ntmps5
    go_wp2_with fail
    refine (first_any w).mono ?_; rintro e w1 ⟨rfl, b1⟩
    go_wp2_with fail
    refine (first_any w1).mono ?_; rintro e w2 ⟨rfl, b2⟩
    go_wp2_with fail
    go_ret
    exact ⟨rfl, below_size b1 b2⟩

set_option maxRecDepth 100000 in
set_option maxHeartbeats 1000000 in
theorem hr_no1 (a : Option Addr) (n cap : Nat) (xs : List Int) (b : Option Addr) (m cb : Nat) (w : World) (hr : Reads .i64 w a n cap xs) (h64 : is64 xs) (hn : n ≤ 400) (hm : m ≤ 300) (hk : ¬ lensOk xs) :
    Calls Try.prog 5 #[.slice a n cap, .slice b m cb] w fun e w' => e = .returned (.bool true) ∧ Below w.heap.size w w' := by
  have HR := Lib.hid hr; have H64 := Lib.hid h64; have HK := Lib.hid hk
  have h1 : ¬ (400 : Int) < n := by omega
  have h2 : ¬ (300 : Int) < m := by omega
  clear hr h64 hk
  go_enter Try.func5, Try.ntmps5
  go_wp2_with fail
  refine (first_any w).mono ?_; rintro e w1 ⟨rfl, b1⟩
  go_wp2_with fail
  refine (new_no1 a n cap xs w1 (HR.out.below b1) H64.out HK.out).mono ?_; rintro e w2 ⟨rfl, rfl⟩
  go_wp2_with fail
  refine (rnew_no1 a n cap xs _ (HR.out.below b1) H64.out HK.out).mono ?_; rintro e w2 ⟨rfl, rfl⟩
  go_wp2_with fail
  refine (first_any _).mono ?_; rintro e w3 ⟨rfl, b3⟩
  go_wp2_with fail
  go_ret
  exact ⟨rfl, below_size b1 b3⟩

set_option maxRecDepth 100000 in
set_option maxHeartbeats 1000000 in
theorem hr_no4 (a : Option Addr) (n cap : Nat) (xs : List Int) (b : Option Addr) (m cb : Nat) (w : World) (hr : Reads .i64 w a n cap xs) (h64 : is64 xs) (hn : n ≤ 400) (hm : m ≤ 300) (hk : lensOk xs) (hf : 32768 < krS xs) :
    Calls Try.prog 5 #[.slice a n cap, .slice b m cb] w fun e w' => e = .returned (.bool true) ∧ Below w.heap.size w w' := by
  have HR := Lib.hid hr; have H64 := Lib.hid h64; have HK := Lib.hid hk; have HF := Lib.hid hf
  have h1 : ¬ (400 : Int) < n := by omega
  have h2 : ¬ (300 : Int) < m := by omega
  clear hr h64 hk hf
  go_enter Try.func5, Try.ntmps5
  go_wp2_with fail
  refine (first_any w).mono ?_; rintro e w1 ⟨rfl, b1⟩
  go_wp2_with fail
  refine (new_no4 a n cap xs w1 (HR.out.below b1) H64.out HK.out HF.out).mono ?_; rintro e w2 ⟨rfl, rfl⟩
  go_wp2_with fail
  refine (rnew_no4 a n cap xs _ (HR.out.below b1) H64.out HK.out HF.out).mono ?_; rintro e w2 ⟨rfl, rfl⟩
  go_wp2_with fail
  refine (first_any _).mono ?_; rintro e w3 ⟨rfl, b3⟩
  go_wp2_with fail
  go_ret
  exact ⟨rfl, below_size b1 b3⟩

theorem Rdr.below {w w' : World} {g : Nat} {xs : List Int} {p : Nat} (h : Rdr w g xs p) (hb : Below w.heap.size w w') : Rdr w' g xs p := by
  obtain ⟨a, n, cap, h1, h2, h3, h4, h5, h6, h7⟩ := h
  exact ⟨a, n, cap, Nat.lt_of_lt_of_le h1 hb.size, (hb.cell h1).trans h2, (hb.cell h1).trans h3, (hb.frozen h1).trans h4, (hb.frozen h1).trans h5, h6.below hb, h7⟩
theorem Dec.drewN {w : World} {gd gs : Nat} {ls : List Int} (h : Dec w gd gs ls) (m : Nat) : Dec (w.drewN m) gd gs ls := h.keep rfl rfl
theorem RDec.drewN {w : World} {gx gc n cap : Nat} {ls : List Int} (h : RDec w gx gc n cap ls) (m : Nat) : RDec (w.drewN m) gx gc n cap ls :=
  ⟨h.lt, h.c0, by obtain ⟨B, r⟩ := h.row; exact ⟨B, r.keep rfl⟩⟩
theorem next_e {ls : List Int} {V L p : Nat} {v e : Int} {q : Nat} (h : NextIs ls V L p v e q) : (e = 0 ∨ e = 2 ∨ e = 4) ∧ (e = 0 → p + 1 ≤ q ∧ q ≤ L) := by
  obtain ⟨m, _, ⟨_, _, _, h2, _⟩ | ⟨_, _, h2, _, _⟩ | ⟨_, h1, h2, h3, _⟩⟩ := h
  · exact ⟨.inr (.inl h2), by omega⟩
  · exact ⟨.inr (.inr h2), by omega⟩
  · exact ⟨.inl h2, by omega⟩

set_option maxRecDepth 100000 in
set_option maxHeartbeats 4000000 in
theorem hr_yes (a : Option Addr) (n cap : Nat) (ls : List Int) (b : Option Addr) (m cb : Nat) (xs : List Int) (w : World) (hr : Reads .i64 w a n cap ls) (hx : Reads .u8 w b m cb xs) (hb : isB xs) (h64 : is64 ls) (hn : n ≤ 400) (hm : m ≤ 300) (hk : lensOk ls) (hf : krS ls ≤ 32768) :
    Calls Try.prog 5 #[.slice a n cap, .slice b m cb] w fun e w' => e = .returned (.bool true) ∧ Below w.heap.size w w' := by
  obtain ⟨V, hV⟩ : ∃ V : Nat, rlit xs = (V : Int) := ⟨(rlit xs).toNat, by have := (rlit_bd xs hb).1; omega⟩
  have HV := Lib.hid hV; clear hV
  have HR := Lib.hid hr; have H64 := Lib.hid h64; have HK := Lib.hid hk; have HF := Lib.hid hf; have HX := Lib.hid hx; have HB := Lib.hid hb; have HXL := Lib.hid hx.len; have HLL := Lib.hid hr.len
  have h1 : ¬ (400 : Int) < n := by omega
  have h2 : ¬ (300 : Int) < m := by omega
  clear hr h64 hk hf hx hb
  go_enter Try.func5, Try.ntmps5
  go_wp2_with fail
  refine (first_any w).mono ?_; rintro e w1 ⟨rfl, b1⟩
  replace HR := Lib.hid (HR.out.below b1); replace HX := Lib.hid (HX.out.below b1)
  have B := Lib.hid b1
  clear b1
  go_wp2_with fail
  refine (new_yes a n cap ls w1 HR.out H64.out HK.out HF.out).mono ?_; rintro e w2 ⟨b2, ⟨h0, rfl⟩ | ⟨h0, gd, gs, hgd, hgs, rfl, D⟩⟩
  · have H0 := Lib.hid h0
    have HR2 := Lib.hid (HR.out.below b2)
    replace B := Lib.hid (below_size B.out b2)
    clear b2 h0
    go_wp2_with fail
    refine (rnew_yes a n cap ls w2 HR2.out H64.out HK.out HF.out).mono ?_; rintro e w3 ⟨b3, ⟨h0, rfl⟩ | ⟨h0, gx, gc, kc, hgx, hgc, rfl, X⟩⟩
    · clear h0
      replace B := Lib.hid (below_size B.out b3)
      clear b3
      go_wp2_with fail
      refine (first_any _).mono ?_; rintro e w4 ⟨rfl, b4⟩
      go_wp2_with fail
      go_ret
      exact ⟨rfl, below_size B.out b4⟩
    · have := H0.out; omega
  · have HR2 := Lib.hid (HR.out.below b2)
    have HX2 := Lib.hid (HX.out.below b2)
    have HD := Lib.hid D
    have HL2 := Lib.hid (And.intro D.dbox.lt (by obtain ⟨S, k, _⟩ := D.syms; exact k.lt : gs < w2.heap.size))
    have h0' := Lib.hid h0
    have hw1 := B.out.size
    replace B := Lib.hid (below_size B.out b2)
    clear b2 h0 D
    go_wp2_with fail
    refine (rnew_yes a n cap ls w2 HR2.out H64.out HK.out HF.out).mono ?_; rintro e w3 ⟨b3, ⟨h0, rfl⟩ | ⟨h0, gx, gc, kc, hgx, hgc, rfl, X⟩⟩
    · have := h0'.out; omega
    have HX3 := Lib.hid (HX2.out.below b3)
    replace HD := Lib.hid (HD.out.below b3)
    have HXD := Lib.hid X
    have HL3 := Lib.hid (And.intro X.lt (by obtain ⟨B0, r⟩ := X.row; exact r.lt.2 : gc < w3.heap.size))
    have hlt23 := b3.size
    replace B := Lib.hid (below_size B.out b3)
    clear b3 h0 X
    rw [HLL.out] at HXD
    go_wp2_with fail
    refine (newReader_any b m cb xs w3 HX3.out HB.out (by omega)).mono ?_; rintro e w4 ⟨g, rfl, R4, hg, b4⟩
    have HR4 := Lib.hid R4
    replace HD := Lib.hid (HD.out.below b4); replace HXD := Lib.hid (HXD.out.below b4)
    have HX4 := Lib.hid (HX3.out.below b4)
    have HXl := Lib.hid (fun (hm0 : 0 < m) => HX3.out.cells hm0)
    have B3 := Lib.hid b4
    have hgl : g < w4.heap.size := by obtain ⟨_, _, _, h1, _⟩ := R4; exact h1
    have hs34 := b4.size
    clear R4 b4
    go_upto_region 13 with (fail)
    have P0 : Pair w3 (w4.alloc (.cells #[.slice b m cb, .int .i64 0] 54)) g w4.heap.size b m cb xs 0 0 := by
      have bl : Below w4.heap.size w4 (w4.alloc (.cells #[.slice b m cb, .int .i64 0] 54)) := (Below.refl _ _).alloc (Nat.le_refl _) _
      have hh : (w4.alloc (.cells #[.slice b m cb, .int .i64 0] 54)).heap[w4.heap.size]? = some (.cells #[.slice b m cb, .int .i64 0] 54) := by
        show (w4.heap.push _)[w4.heap.size]? = _
        simp
      refine ⟨HR4.out.below bl, ⟨by simp, ?_, ?_, ?_, by omega, by omega⟩, Nat.ne_of_lt hgl, below_size B3.out bl, ⟨hg, B3.out.size⟩, fun q k c hc hq z hz => ?_⟩
      · unfold World.cell?; rw [hh]; rfl
      · unfold World.cell?; rw [hh]; rfl
      · unfold World.frozen?; rw [hh]; rfl
      · obtain ⟨a1, n1, k1, h1, h2, h3, h4, h5, h6, _⟩ := HR4.out
        have e1 := (bl.cell (p := ⟨g, 0, Option.none⟩) h1).trans h2
        rw [hc] at e1
        obtain ⟨rfl, rfl, rfl⟩ : q = a1 ∧ k = n1 ∧ c = k1 := by simpa using e1
        obtain ⟨y, off, e, hy, _⟩ := h6.cells hq
        rw [hz] at e
        obtain rfl : z = ⟨y, off, Option.none⟩ := by simpa using e
        show y ≠ w4.heap.size
        omega
    have b5 : Below w4.heap.size w4 (w4.alloc (.cells #[.slice b m cb, .int .i64 0] 54)) := (Below.refl _ _).alloc (Nat.le_refl _) _
    have HP0 := Lib.hid P0
    replace HD := Lib.hid (HD.out.below b5); replace HXD := Lib.hid (HXD.out.below b5)
    clear P0 HR4 B3 HX4 b5
    generalize w4.alloc (.cells #[.slice b m cb, .int .i64 0] 54) = w5 at *
    generalize w4.heap.size = gy at *
    have l2 := HL2.out; have l3 := HL3.out
    have g1 : gd ≠ g := by omega
    have g2 : gs ≠ g := by omega
    have g3 : gx ≠ g := by omega
    have g4 : gc ≠ g := by omega
    have g5 : gd ≠ gy := by omega
    have g6 : gs ≠ gy := by omega
    have g7 : gx ≠ gy := by omega
    have g8 : gc ≠ gy := by omega
    have g9 : w3.heap.size ≤ gy := by omega
    have G := Lib.hid (And.intro g1 (And.intro g2 (And.intro g3 (And.intro g4 (And.intro g5 (And.intro g6 (And.intro g7 (And.intro g8 g9))))))))
    clear g1 g2 g3 g4 g5 g6 g7 g8 g9 l2 l3 HL2 HL3
    go_wp2_with fail
    go_loopw [11] (fun vi wr => ∃ (i p : Nat), i ≤ p ∧ vi = .int .i64 i ∧ Hid (Pair w3 wr g gy b m cb xs p p ∧ Dec wr gd gs ls ∧ RDec wr gx gc n kc ls)) (fun vi _ => 2500 - (intOf vi).toNat)
    case atStart => exact ⟨0, 0, Nat.le_refl _, rfl, Lib.hid ⟨HP0.out, HD.out, HXD.out⟩⟩
    case round =>
      clear HP0 HD HXD
      obtain ⟨i, p, hip, rfl, H⟩ := hrel
      have hp8 : p ≤ 8 * m := H.out.1.rr.hp
      have hlt : (i : Int) < 2500 := by omega
      have HP8 := Lib.hid (show p ≤ 8 * xs.length by rw [HXL.out]; exact hp8)
      go_wp2_with fail
      refine (next_any gd gs g ls xs V p wr H.out.2.1 H.out.1.rd HV.out HP8.out HK.out HF.out G.out.1 G.out.2.1).mono ?_; rintro e wy ⟨v, er, q, rfl, N1, R4, O4⟩
      rw [HXL.out] at N1
      have HN1 := Lib.hid N1
      replace H := Lib.hid (And.intro (H.out.1.impl R4 O4) (And.intro (H.out.2.1.only O4 G.out.1 G.out.2.1) (H.out.2.2.only O4 G.out.2.2.1 G.out.2.2.2.1)))
      clear R4 O4 N1
      go_wp2_with fail
      refine (rnext_any gx gc n kc gy b m cb ls xs V p wy H.out.2.2 HLL.out H.out.1.rr (HX3.out.below H.out.1.bel) HB.out (fun h0 c hc => by
        obtain ⟨y, off, e, hy, _⟩ := HXl.out h0
        rw [hc] at e
        obtain rfl : c = ⟨y, off, Option.none⟩ := by simpa using e
        have := G.out.2.2.2.2.2.2.2.2
        show y ≠ gy
        omega) HV.out hp8 HK.out HF.out G.out.2.2.2.2.2.2.1 G.out.2.2.2.2.2.2.2.1).mono ?_; rintro e wz ⟨v', er', q', rfl, N2, R5, O5⟩
      obtain ⟨rfl, rfl, rfl⟩ := next_one HN1.out N2
      replace H := Lib.hid (And.intro (H.out.1.ref R5 O5) (And.intro (H.out.2.1.only O5 G.out.2.2.2.2.1 G.out.2.2.2.2.2.1) (H.out.2.2.only O5 G.out.2.2.2.2.2.2.1 G.out.2.2.2.2.2.2.2.1)))
      clear N2 R5 O5
      have hE := next_e HN1.out
      have HIP := Lib.hid hip
      clear hip hp8
      rcases hE.1 with rfl | rfl | rfl
      · obtain ⟨hq1, hq2⟩ := hE.2 rfl
        clear hE
        have hx : ∀ i, (wz.drewN i).cell? ⟨gy, 1, Option.none⟩ = some (.int .i64 (q : Nat)) := fun i => H.out.1.rr.c1
        have A1 := Lib.hid (fun i => at_any (H.out.1.rd.drewN i))
        go_wp2_with fail
        go_quiet ((go_at_call 25; exact Calls.quiet_of_same (A1.out _)))
        go_wp2_with fail
        go_roundw
        case rel => exact ⟨i + 1, q, by have := HIP.out; omega, by go_num, Lib.hid ⟨H.out.1.drewN _, H.out.2.1.drewN _, H.out.2.2.drewN _⟩⟩
        case measure => simp [intOf]; omega
      all_goals
        clear hE
        go_wp2_with fail
        go_quiet (fail)
        go_wp2_with fail
        refine (first_any _).mono ?_; rintro e w6 ⟨rfl, b6⟩
        go_wp2_with fail
        go_ret
        exact ⟨rfl, below_size (below_size B.out (below_drewN H.out.1.bel _)) b6⟩

theorem walk_HuffReads (a : Option Addr) (n cap : Nat) (ls : List Int) (b : Option Addr) (m cb : Nat) (xs : List Int) (w : World) (hr : Reads .i64 w a n cap ls) (hw : ∀ n ∈ ls, (Lit.int .i64 n).wf = true) (hx : Reads .u8 w b m cb xs) (hb : isB xs) :
    Calls Try.prog 5 #[.slice a n cap, .slice b m cb] w fun e w' => e = .returned (.bool true) ∧ Below w.heap.size w w' := by
  have h64 := is64_of_wf hw
  by_cases hn : n ≤ 400 ∧ m ≤ 300
  · by_cases hk : lensOk ls
    · by_cases hf : krS ls ≤ 32768
      · exact hr_yes a n cap ls b m cb xs w hr hx hb h64 hn.1 hn.2 hk hf
      · exact hr_no4 a n cap ls b m cb w hr h64 hn.1 hn.2 hk (by omega)
    · exact hr_no1 a n cap ls b m cb w hr h64 hn.1 hn.2 hk
  · exact hr_not a n cap b m cb w hr.n63.1 hx.n63.1 hn
end Go.Proofs.Ytmdkinhbfndoeaa
