/-
  What the statements of chapter 23 ask besides: FewTree, Tree, Same, Clean.
-/
import Derived.Test.YtbmbelnjgnahhaaJoinMergeOk
import Derived.Test.YtbmbelnjgnahhaaSameA
import Derived.Test.YtbmbelnjgnahhaaInts
import Derived.Test.YtbmbelnjgnahhaaEqShape
namespace Go.Proofs.Ytbmbelnjgnahhaa
open Go.RowKit

/-! slices.Contains of bools -/
set_option maxRecDepth 100000 in
theorem boolIndex_any (a : Option Addr) (n cap : Nat) (ms : List Bool) (w : World) (hr : Bls w a n cap ms) :
    Calls Try.prog 31 #[.slice a n cap, .bool true] w fun e w' => (∃ i : Int, e = .returned (.int .i64 i) ∧ (0 ≤ i ↔ true ∈ ms)) ∧ w' = w := by
  have HR := Lib.hid hr; have HL := Lib.hid hr.len
  have h63 := hr.n63.1
  clear hr
  go_enter Try.func31, Try.ntmps31
  go_wp2_with fail
  go_loop [5, 8] (fun _ vi => ∃ i : Nat, i ≤ n ∧ vi = .int .i64 i ∧ Hid (∀ j, j < i → ms.getD j false = false)) (fun _ vi => n - (intOf vi).toNat)
  case atStart => exact ⟨0, Nat.zero_le _, rfl, Lib.hid fun j h => absurd h (by omega)⟩
  case round =>
    obtain ⟨i, hi, rfl, H⟩ := hrel
    by_cases hlt : i < n
    · have i1 : (i : Int) < n := by omega
      obtain ⟨b, off, rfl, hbl, hc⟩ := HR.out.cellAt i hlt
      cases hv : ms.getD i false
      · rw [hv] at hc
        have HV := Lib.hid hv
        clear hv
        go_wp2_with fail
        go_round
        case rel =>
          refine ⟨i + 1, by omega, by go_num, Lib.hid fun j hj => ?_⟩
          by_cases e : j = i
          · rw [e]; exact HV.out
          · exact H.out j (by omega)
        case measure => simp [intOf]; omega
      · rw [hv] at hc
        have HM : Hid (true ∈ ms) := Lib.hid (by rw [← hv]; simp [List.getD, HL.out, hlt])
        clear hv
        go_wp2_with fail
        go_ret
        exact ⟨⟨(i : Int), rfl, ⟨fun _ => HM.out, fun _ => by omega⟩⟩, rfl⟩
    · have i1 : ¬ (i : Int) < n := by omega
      go_wp2_with fail
      go_ret
      refine ⟨⟨-1, rfl, ⟨fun h => absurd h (by decide), fun h => ?_⟩⟩, rfl⟩
      obtain ⟨j, hj, e⟩ := List.getElem_of_mem h
      have := H.out j (by have := HL.out; omega)
      simp [List.getD, hj, e] at this
/-- Nowhere true. -/
def cleanB (ms : List Bool) : Bool := !(ms.contains true)
theorem cleanB_iff (ms : List Bool) : cleanB ms = true ↔ ¬ true ∈ ms := by simp [cleanB]
set_option maxRecDepth 100000 in
theorem boolHas_any (a : Option Addr) (n cap : Nat) (ms : List Bool) (w : World) (hr : Bls w a n cap ms) :
    Calls Try.prog 27 #[.slice a n cap, .bool true] w fun e w' => e = .returned (.bool (!cleanB ms)) ∧ w' = w := by
  have HR := Lib.hid hr
  have HC : Hid (∀ i : Int, (0 ≤ i ↔ true ∈ ms) → (!cleanB ms) = decide (0 ≤ i)) := Lib.hid fun i h => by
    rw [Bool.eq_iff_iff]; simp [cleanB, h]
  clear hr
  generalize (!cleanB ms) = c at *
  go_enter Try.func27, Try.ntmps27
  go_wp2_with fail
  refine (boolIndex_any a n cap ms w HR.out).mono ?_; rintro e w2 ⟨⟨i, rfl, hi⟩, rfl⟩
  have HI := Lib.hid hi
  clear hi
  go_wp2_with fail
  go_ret
  exact ⟨by rw [HC.out i HI.out]; rfl, rfl⟩
set_option maxRecDepth 100000 in
theorem clean_any (a : Option Addr) (n cap : Nat) (ms : List Bool) (w : World) (hr : Bls w a n cap ms) :
    Calls Try.prog 20 #[.slice a n cap] w fun e w' => e = .returned (.bool (cleanB ms)) ∧ w' = w := by
  have HR := Lib.hid hr
  have HC := Lib.hid (boolHas_any a n cap ms w hr)
  clear hr
  go_enter Try.func20, Try.ntmps20
  go_wp2_with fail
  refine HC.out.mono ?_; rintro e w2 ⟨rfl, rfl⟩
  go_wp2_with fail
  go_ret
  exact ⟨by simp, rfl⟩

/-! aqulaw17.FewTree, Tree; Same -/
instance (ks : List ByteArray) : Decidable (Short ks) := by unfold Short; infer_instance
set_option maxRecDepth 100000 in
set_option maxHeartbeats 1000000 in
theorem fewTree_any (W H C D : Int) (a : Option Addr) (n cap : Nat) (ks : List ByteArray) (w : World) (hr : Strs w a n cap ks) :
    Calls Try.prog 8 #[ras W H C D a n cap] w fun e w' => e = .returned (.bool (decide (Short ks))) ∧ Below w.heap.size w w' := by
  have HR := Lib.hid hr; have HL := Lib.hid hr.len
  have h63 := hr.n63.1
  have b0 : Below w.heap.size w (w.alloc (.cells #[.int .i64 W, .int .i64 H, .int .i64 C, .int .i64 D, .slice a n cap] 26)) := (Below.refl _ _).alloc (Nat.le_refl _) _
  have hb := rbox_alloc w W H C D a n cap 26
  have B0 := Lib.hid b0; have HB := Lib.hid hb
  clear hr b0 hb
  go_enter Try.func8, Try.ntmps8
  go_upto_region 1 with (fail)
  generalize w.alloc (.cells #[.int .i64 W, .int .i64 H, .int .i64 C, .int .i64 D, .slice a n cap] 26) = w1 at *
  have c0 := HB.out.box.c0; have c1 := HB.out.box.c1; have c2 := HB.out.box.c2; have c3 := HB.out.box.c3; have c4 := HB.out.c4
  clear c0 c1 c2 c3
  go_wp2_with fail
  go_loop [3] (fun vi => ∃ i : Nat, i ≤ n ∧ i ≤ 300 ∧ vi = .int .i64 i ∧ Hid (∀ j, j < i → (ks.getD j ByteArray.empty).size ≤ 100)) (fun vi => n - (intOf vi).toNat)
  case atStart => exact ⟨0, Nat.zero_le _, Nat.zero_le _, rfl, Lib.hid fun j h => absurd h (by omega)⟩
  case round =>
    obtain ⟨i, hi, hi3, rfl, HJ⟩ := hrel
    by_cases hlt : i < n
    · have i1 : (i : Int) < n := by omega
      by_cases h3 : i < 300
      · have i2 : (i : Int) < 300 := by omega
        obtain ⟨b, off, rfl, hbl, hc⟩ := (HR.out.below B0.out).cellAt i hlt
        have hmem : ks.getD i ByteArray.empty ∈ ks := by simp [List.getD, HL.out, hlt]
        have HM := Lib.hid hmem
        have HD : Hid (ks.getD i ByteArray.empty = ks.getD i ByteArray.empty) := Lib.hid rfl
        have HJS : Hid ((ks.getD i ByteArray.empty).size ≤ 100 → ∀ j, j < i + 1 → (ks.getD j ByteArray.empty).size ≤ 100) := Lib.hid fun h j hj => by
          by_cases e : j = i
          · rw [e]; exact h
          · exact HJ.out j (by omega)
        clear hmem
        generalize ks.getD i ByteArray.empty = s at *
        by_cases hs : s.size ≤ 100
        · have hs1 : ¬ (100 : Int) < s.size := by omega
          go_wp2_with fail
          go_round
          case rel => exact ⟨i + 1, by omega, by omega, by go_num, Lib.hid (HJS.out hs)⟩
          case measure => simp [intOf]; omega
        · have hs1 : (100 : Int) < s.size := by omega
          have hx : decide (Short ks) = false := decide_eq_false fun h => hs (h.2 s HM.out)
          have HX := Lib.hid hx
          clear hx
          go_wp2_with fail
          go_ret
          exact ⟨by rw [HX.out]; rfl, B0.out⟩
      · have i2 : ¬ (i : Int) < 300 := by omega
        have hx : decide (Short ks) = false := decide_eq_false fun h => by have := h.1; have := HL.out; omega
        have HX := Lib.hid hx
        have i3 : ¬ (n : Int) ≤ 300 := by omega
        clear hx
        go_wp2_with fail
        go_ret
        exact ⟨by rw [HX.out]; simp, B0.out⟩
    · have i1 : ¬ (i : Int) < n := by omega
      have i3 : (n : Int) ≤ 300 := by omega
      have hx : decide (Short ks) = true := decide_eq_true ⟨by have := HL.out; omega, fun k hk => by
        obtain ⟨j, hj, e⟩ := List.getElem_of_mem hk
        have := HJ.out j (by have := HL.out; omega)
        simpa [List.getD, hj, e] using this⟩
      have HX := Lib.hid hx
      clear hx
      go_wp2_with fail
      go_ret
      exact ⟨by rw [HX.out]; simp, B0.out⟩

theorem treeInfo30 : (Try.prog.info? 30).map (·.size) = some 5 := by kernel_rfl
theorem results_tree1 {fn : Func} {p : Tmp} (h : fn.results = #[.cell p 30]) (tmps : Array Value) (w : World) (g : Nat) {W H C D : Int} {a : Option Addr} {n cap : Nat} (hp : tmps.getD p undef = .pointer (some ⟨g, 0, Option.none⟩)) (hb : RBox w g W H C D a n cap) :
    (results fn tmps).run Try.prog w = .ok (ras W H C D a n cap) w := by
  have hl := run_loadVar_mid (P := Try.prog) w g 0 30 [.int .i64 W, .int .i64 H, .int .i64 C, .int .i64 D, .slice a n cap] _ (by
    intro j v hv
    match j, hv with
    | 0, hv => simp at hv; subst hv; exact hb.box.c0
    | 1, hv => simp at hv; subst hv; exact hb.box.c1
    | 2, hv => simp at hv; subst hv; exact hb.box.c2
    | 3, hv => simp at hv; subst hv; exact hb.box.c3
    | 4, hv => simp at hv; subst hv; exact hb.c4) Try.underlying30 rfl treeInfo30
  have hp2 : tmps[p]?.getD undef = .pointer (some ⟨g, 0, Option.none⟩) := by simpa using hp
  simp [results, h, hp2, asAddr, hl]
theorem below_laid5 {B : Nat} {w w' : World} (h : Below B w w') (g : Nat) (hg : B ≤ g) (v0 v1 v2 v3 v4 : Value) : Below B w (((((w'.setCell ⟨g, 0, Option.none⟩ v0).setCell ⟨g, 1, Option.none⟩ v1).setCell ⟨g, 2, Option.none⟩ v2).setCell ⟨g, 3, Option.none⟩ v3).setCell ⟨g, 4, Option.none⟩ v4) :=
  ((((h.setCell hg _).setCell hg _).setCell hg _).setCell hg _).setCell hg _
set_option maxRecDepth 100000 in
theorem toTree_any (W H C D : Int) (a : Option Addr) (n cap : Nat) (w : World) :
    Calls Try.prog 9 #[ras W H C D a n cap] w fun e w' => e = .returned (ras W H C D a n cap) ∧ Below w.heap.size w w' := by
  have al := fun (w : World) (x : Obj) => (Below.refl w.heap.size w).alloc (Nat.le_refl _) x
  obtain ⟨w2, hw2, x1, x2, b2⟩ : ∃ w2, (w.alloc (.cells #[.int .i64 W, .int .i64 H, .int .i64 C, .int .i64 D, .slice a n cap] 26)).alloc (.cells nulC 30) = w2 ∧ RBox w2 w.heap.size W H C D a n cap ∧ RBox w2 (w.heap.size + 1) 0 0 0 0 Option.none 0 0 ∧ Below w.heap.size w w2 := by
    have h2 := rbox_alloc (w.alloc (.cells #[.int .i64 W, .int .i64 H, .int .i64 C, .int .i64 D, .slice a n cap] 26)) 0 0 0 0 Option.none 0 0 30
    rw [World.size_alloc] at h2
    exact ⟨_, rfl, (rbox_alloc w W H C D a n cap 26).below (al _ _), h2, below_size (al _ _) (al _ _)⟩
  have HW := Lib.hid hw2; have X1 := Lib.hid x1; have X2 := Lib.hid x2; have B2 := Lib.hid b2
  clear hw2 x1 x2 b2 al
  go_enter Try.func9, Try.ntmps9
  go_upto_region 1 with (fail)
  rw [HW.out]
  have c0 := X1.out.box.c0; have c1 := X1.out.box.c1; have c2 := X1.out.box.c2; have c3 := X1.out.box.c3; have c4 := X1.out.c4
  have d0 := X2.out.box.c0; have d1 := X2.out.box.c1; have d2 := X2.out.box.c2; have d3 := X2.out.box.c3; have d4 := X2.out.c4; have f0 := X2.out.box.f0; have f1 := X2.out.box.f1; have f2 := X2.out.box.f2; have f3 := X2.out.box.f3; have f4 := X2.out.f4
  go_wp2_with fail
  exact bodyPost_ret (results_tree1 rfl _ _ _ rfl (X2.out.set W H C D a n cap)) rfl ⟨rfl, below_laid5 B2.out _ (by omega) _ _ _ _ _⟩

/-- Are two trees alike? -/
def sameB (s t : TV) : Bool := decide (eqS s.W s.H s.C s.D t.W t.H t.C t.D ∧ s.ks = t.ks)
set_option maxRecDepth 100000 in
theorem same_any (W H C D W' H' C' D' : Int) (a b : Option Addr) (n cap m cb : Nat) (ks ls : List ByteArray) (w : World) (hx : Strs w a n cap ks) (hy : Strs w b m cb ls) :
    Calls Try.prog 13 #[ras W H C D a n cap, ras W' H' C' D' b m cb] w fun e w' => e = .returned (.bool (decide (eqS W H C D W' H' C' D') && decide (ks = ls))) ∧ Below w.heap.size w w' := by
  have al := fun (w : World) (x : Obj) => (Below.refl w.heap.size w).alloc (Nat.le_refl _) x
  obtain ⟨w2, hw2, x1, x2, b2⟩ : ∃ w2, (w.alloc (.cells #[.int .i64 W, .int .i64 H, .int .i64 C, .int .i64 D, .slice a n cap] 30)).alloc (.cells #[.int .i64 W', .int .i64 H', .int .i64 C', .int .i64 D', .slice b m cb] 30) = w2 ∧ RBox w2 w.heap.size W H C D a n cap ∧ RBox w2 (w.heap.size + 1) W' H' C' D' b m cb ∧ Below w.heap.size w w2 := by
    have h2 := rbox_alloc (w.alloc (.cells #[.int .i64 W, .int .i64 H, .int .i64 C, .int .i64 D, .slice a n cap] 30)) W' H' C' D' b m cb 30
    rw [World.size_alloc] at h2
    exact ⟨_, rfl, (rbox_alloc w W H C D a n cap 30).below (al _ _), h2, below_size (al _ _) (al _ _)⟩
  have HW := Lib.hid hw2; have X1 := Lib.hid x1; have X2 := Lib.hid x2; have B2 := Lib.hid b2
  have HX := Lib.hid (hx.below b2); have HY := Lib.hid (hy.below b2)
  have HS := Lib.hid (fun w' => eqShape_any W H C D W' H' C' D' w')
  have HT := Lib.hid (fun w' (h1 : Strs w' a n cap ks) (h2 : Strs w' b m cb ls) => texts_any a b n cap m cb ks ls w' h1 h2)
  clear hw2 x1 x2 b2 al hx hy
  generalize decide (eqS W H C D W' H' C' D') = r1 at *
  generalize decide (ks = ls) = r2 at *
  go_enter Try.func13, Try.ntmps13
  go_upto_region 1 with (fail)
  rw [HW.out]
  have c0 := X1.out.box.c0; have c1 := X1.out.box.c1; have c2 := X1.out.box.c2; have c3 := X1.out.box.c3; have c4 := X1.out.c4
  have d0 := X2.out.box.c0; have d1 := X2.out.box.c1; have d2 := X2.out.box.c2; have d3 := X2.out.box.c3; have d4 := X2.out.c4
  cases r1
  · go_wp2_with fail
    refine (HS.out w2).mono ?_; rintro e w3 ⟨rfl, b3⟩
    go_wp2_with fail
    go_ret
    exact ⟨rfl, below_size B2.out b3⟩
  · go_wp2_with fail
    refine (HS.out w2).mono ?_; rintro e w3 ⟨rfl, b3⟩
    clear c0 c1 c2 c3 c4 d0 d1 d2 d3 d4
    have Y1 := Lib.hid (X1.out.below b3); have Y2 := Lib.hid (X2.out.below b3); have B3 := Lib.hid (below_size B2.out b3)
    have KX := Lib.hid (HX.out.below b3); have KY := Lib.hid (HY.out.below b3)
    clear b3
    have c0 := Y1.out.box.c0; have c1 := Y1.out.box.c1; have c2 := Y1.out.box.c2; have c3 := Y1.out.box.c3; have c4 := Y1.out.c4
    have d0 := Y2.out.box.c0; have d1 := Y2.out.box.c1; have d2 := Y2.out.box.c2; have d3 := Y2.out.box.c3; have d4 := Y2.out.c4
    go_wp2_with fail
    refine (HT.out w3 KX.out KY.out).mono ?_; rintro e w4 ⟨rfl, b4⟩
    go_wp2_with fail
    go_ret
    exact ⟨rfl, below_size B3.out b4⟩
end Go.Proofs.Ytbmbelnjgnahhaa
