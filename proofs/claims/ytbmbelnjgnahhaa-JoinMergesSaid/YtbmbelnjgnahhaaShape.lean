/-
  Chapter 9's shapes: what pix says of four numbers.
-/
import Derived.Test.YtbmbelnjgnahhaaChecked
import Derived.Test.YtbmbelnjgnahhaaLib
import Derived.BigRegion
import Derived.Deep.QuietTactic
import Derived.BigQuiet
import Derived.Deep.DeepCutAuto
import Derived.Deep.RegionWith
import Derived.StillTailTactics
import Derived.Handy
import Derived.Deep.MidRow
import Derived.Laws.ResultCell
namespace Go.Proofs.Ytbmbelnjgnahhaa
open Go.RowKit

/-- A shape's value. -/
abbrev shp (W H C D : Int) : Value := .agg #[.int .i64 W, .int .i64 H, .int .i64 C, .int .i64 D]
/-- The numbers that may be. -/
def Bnds (W H C D : Int) : Prop := 1 ≤ W ∧ W ≤ 256 ∧ 1 ≤ H ∧ H ≤ 256 ∧ 1 ≤ C ∧ C ≤ 4 ∧ (D = 8 ∨ D = 16)
instance (W H C D : Int) : Decidable (Bnds W H C D) := by unfold Bnds; infer_instance
def bnds (W H C D : Int) : Bool := decide (Bnds W H C D)

theorem bnds_iff (W H C D : Int) (b : Bool) (h : b = true ↔ Bnds W H C D) : b = bnds W H C D := by
  unfold bnds
  cases b
  · simp at h; simp [h]
  · simp at h; simp [h]

set_option maxHeartbeats 400000 in
theorem inBounds_any (W H C D : Int) (w : World) :
    Calls Try.prog 64 #[shp W H C D] w fun e w' => e = .returned (.bool (bnds W H C D)) ∧ Below w.heap.size w w' := by
  have HB := fun b => Lib.hid (bnds_iff W H C D b)
  generalize bnds W H C D = r at *
  go_enter Try.func64, Try.ntmps64
  go_wp2
  all_goals go_ret
  all_goals refine ⟨ret_bool ?_, (Below.refl _ _).alloc (Nat.le_refl _) _⟩
  all_goals refine (HB _).out ?_
  all_goals unfold Bnds
  all_goals simp
  all_goals try omega

theorem prod_bd {W C D : Int} (hW : 1 ≤ W ∧ W ≤ 256) (hC : 1 ≤ C ∧ C ≤ 4) (hD : D = 8 ∨ D = 16) : 1 ≤ W * C ∧ W * C ≤ 1024 ∧ 8 ≤ W * C * D ∧ W * C * D ≤ 16384 := by
  rcases (by omega : C = 1 ∨ C = 2 ∨ C = 3 ∨ C = 4) with rfl | rfl | rfl | rfl <;> rcases hD with rfl | rfl <;> omega

def rowN (W H C D : Int) : Int := if Bnds W H C D then W * C * D / 8 else 0

theorem row_bd (W H C D : Int) : 0 ≤ rowN W H C D ∧ rowN W H C D ≤ 2048 := by
  unfold rowN; split
  · next h => have := prod_bd ⟨h.1, h.2.1⟩ ⟨h.2.2.2.2.1, h.2.2.2.2.2.1⟩ h.2.2.2.2.2.2; omega
  · omega

/-- Block g holds a shape. -/
structure Box (w : World) (g : Nat) (W H C D : Int) : Prop where
  lt : g < w.heap.size
  c0 : w.cell? ⟨g, 0, Option.none⟩ = some (.int .i64 W)
  c1 : w.cell? ⟨g, 1, Option.none⟩ = some (.int .i64 H)
  c2 : w.cell? ⟨g, 2, Option.none⟩ = some (.int .i64 C)
  c3 : w.cell? ⟨g, 3, Option.none⟩ = some (.int .i64 D)
  f0 : w.frozen? ⟨g, 0, Option.none⟩ = false
  f1 : w.frozen? ⟨g, 1, Option.none⟩ = false
  f2 : w.frozen? ⟨g, 2, Option.none⟩ = false
  f3 : w.frozen? ⟨g, 3, Option.none⟩ = false

theorem Box.below {w w' : World} {g : Nat} {W H C D : Int} (h : Box w g W H C D) (hb : Below w.heap.size w w') : Box w' g W H C D :=
  ⟨Nat.lt_of_lt_of_le h.lt hb.size, (hb.cell h.lt).trans h.c0, (hb.cell h.lt).trans h.c1, (hb.cell h.lt).trans h.c2, (hb.cell h.lt).trans h.c3, (hb.frozen h.lt).trans h.f0, (hb.frozen h.lt).trans h.f1, (hb.frozen h.lt).trans h.f2, (hb.frozen h.lt).trans h.f3⟩
theorem Box.drew {w : World} {g : Nat} {W H C D : Int} (h : Box w g W H C D) : Box w.drew g W H C D := ⟨h.lt, h.c0, h.c1, h.c2, h.c3, h.f0, h.f1, h.f2, h.f3⟩
theorem box_alloc (w : World) (W H C D : Int) (t : TypeId) : Box (w.alloc (.cells #[.int .i64 W, .int .i64 H, .int .i64 C, .int .i64 D] t)) w.heap.size W H C D := by
  have hh : (w.alloc (.cells #[.int .i64 W, .int .i64 H, .int .i64 C, .int .i64 D] t)).heap[w.heap.size]? = some (.cells #[.int .i64 W, .int .i64 H, .int .i64 C, .int .i64 D] t) := by
    show (w.heap.push _)[w.heap.size]? = _
    simp
  refine ⟨by simp, ?_, ?_, ?_, ?_, ?_, ?_, ?_, ?_⟩
  all_goals first
    | (unfold World.cell?; rw [hh]; rfl)
    | (unfold World.frozen?; rw [hh]; rfl)

theorem Box.set {w : World} {g : Nat} {W H C D : Int} (h : Box w g W H C D) (a b c d : Int) :
    Box ((((w.setCell ⟨g, 0, Option.none⟩ (.int .i64 a)).setCell ⟨g, 1, Option.none⟩ (.int .i64 b)).setCell ⟨g, 2, Option.none⟩ (.int .i64 c)).setCell ⟨g, 3, Option.none⟩ (.int .i64 d)) g a b c d := by
  have h0 := World.cell?_setCell_same _ _ (.int .i64 a) h.c0
  have h1 := World.cell?_setCell_same _ _ (.int .i64 b) ((World.cell?_setCell_other w ⟨g, 0, Option.none⟩ ⟨g, 1, Option.none⟩ (.int .i64 a) (by simp)).trans h.c1)
  have h2 := World.cell?_setCell_same _ _ (.int .i64 c) ((World.cell?_setCell_other _ ⟨g, 1, Option.none⟩ ⟨g, 2, Option.none⟩ (.int .i64 b) (by simp)).trans ((World.cell?_setCell_other w ⟨g, 0, Option.none⟩ ⟨g, 2, Option.none⟩ (.int .i64 a) (by simp)).trans h.c2))
  have h3 := World.cell?_setCell_same _ _ (.int .i64 d) ((World.cell?_setCell_other _ ⟨g, 2, Option.none⟩ ⟨g, 3, Option.none⟩ (.int .i64 c) (by simp)).trans ((World.cell?_setCell_other _ ⟨g, 1, Option.none⟩ ⟨g, 3, Option.none⟩ (.int .i64 b) (by simp)).trans ((World.cell?_setCell_other w ⟨g, 0, Option.none⟩ ⟨g, 3, Option.none⟩ (.int .i64 a) (by simp)).trans h.c3)))
  refine ⟨by simpa using h.lt, ?_, ?_, ?_, h3, by simpa [World.frozen?_setCell] using h.f0, by simpa [World.frozen?_setCell] using h.f1, by simpa [World.frozen?_setCell] using h.f2, by simpa [World.frozen?_setCell] using h.f3⟩
  · rw [World.cell?_setCell_other _ _ _ _ (by simp), World.cell?_setCell_other _ _ _ _ (by simp), World.cell?_setCell_other _ _ _ _ (by simp), h0]
  · rw [World.cell?_setCell_other _ _ _ _ (by simp), World.cell?_setCell_other _ _ _ _ (by simp), h1]
  · rw [World.cell?_setCell_other _ _ _ _ (by simp), h2]

theorem shpInfo : (Try.prog.info? 23).map (·.size) = some 4 := by kernel_rfl
theorem results_shp {fn : Func} {p u : Tmp} (h : fn.results = #[.cell p 23, .tmp u]) (tmps : Array Value) (w : World) (g : Nat) {W H C D : Int} (hp : tmps.getD p undef = .pointer (some ⟨g, 0, Option.none⟩)) (hb : Box w g W H C D) :
    (results fn tmps).run Try.prog w = .ok (.tuple #[shp W H C D, tmps.getD u undef]) w := by
  have hl := run_loadVar_mid (P := Try.prog) w g 0 23 [.int .i64 W, .int .i64 H, .int .i64 C, .int .i64 D] _ (by
    intro j v hv
    match j, hv with
    | 0, hv => simp at hv; subst hv; exact hb.c0
    | 1, hv => simp at hv; subst hv; exact hb.c1
    | 2, hv => simp at hv; subst hv; exact hb.c2
    | 3, hv => simp at hv; subst hv; exact hb.c3) Try.underlying23 rfl shpInfo
  rw [results_cell_tmp h, hp]
  simp [asAddr, hl]

set_option maxHeartbeats 400000 in
theorem row_any (W H C D : Int) (w : World) :
    Calls Try.prog 66 #[shp W H C D] w fun e w' => e = .returned (.int .i64 (rowN W H C D)) ∧ Below w.heap.size w w' := by
  by_cases hb : Bnds W H C D
  · have := prod_bd ⟨hb.1, hb.2.1⟩ ⟨hb.2.2.2.2.1, hb.2.2.2.2.2.1⟩ hb.2.2.2.2.2.2
    have hbb : bnds W H C D = true := by simp [bnds, hb]
    have hR : Hid (rowN W H C D = W * C * D / 8) := by simp [Hid, rowN, hb]
    go_enter Try.func66, Try.ntmps66
    go_wp2_with (go_at_call 64; refine (inBounds_any W H C D _).mono ?_; rintro e w1 ⟨rfl, hb1⟩; have hbx := (box_alloc _ _ _ _ _ _).below hb1; rw [hbb]; have c0 := hbx.c0; have c1 := hbx.c1; have c2 := hbx.c2; have c3 := hbx.c3; clear hb hbb)
    all_goals go_ret
    all_goals exact ⟨by rw [hR.out]; rfl, ((Below.refl _ _).alloc (Nat.le_refl _) _).trans (hb1.mono (by simp))⟩
  · have hbb : bnds W H C D = false := by simp [bnds, hb]
    have hR : Hid (rowN W H C D = 0) := by simp [Hid, rowN, hb]
    go_enter Try.func66, Try.ntmps66
    go_wp2_with (go_at_call 64; refine (inBounds_any W H C D _).mono ?_; rintro e w1 ⟨rfl, hb1⟩; rw [hbb]; clear hb hbb)
    all_goals go_ret
    all_goals exact ⟨by rw [hR.out]; rfl, ((Below.refl _ _).alloc (Nat.le_refl _) _).trans (hb1.mono (by simp))⟩

def sizeN (W H C D : Int) : Int := rowN W H C D * H
theorem size_bd (W H C D : Int) (hb : Bnds W H C D) : 1 ≤ sizeN W H C D ∧ sizeN W H C D ≤ 524288 := by
  have := row_bd W H C D
  have h1 : 1 ≤ rowN W H C D := by
    unfold rowN; rw [if_pos hb]
    have := prod_bd ⟨hb.1, hb.2.1⟩ ⟨hb.2.2.2.2.1, hb.2.2.2.2.2.1⟩ hb.2.2.2.2.2.2
    omega
  have hh := hb.2.2.1
  have hk := hb.2.2.2.1
  unfold sizeN
  constructor
  · have := Int.mul_le_mul h1 hh (by omega) (by omega)
    simpa using this
  · have := Int.mul_le_mul this.2 hk (by omega) (by omega)
    simpa using this
theorem size_zero (W H C D : Int) (hb : ¬ Bnds W H C D) : sizeN W H C D = 0 := by simp [sizeN, rowN, hb]
def mayN (W H C D : Int) : Bool := decide (Bnds W H C D ∧ sizeN W H C D ≤ 16384)

set_option maxHeartbeats 400000 in
theorem size_any (W H C D : Int) (w : World) (hH : -9223372036854775808 ≤ H ∧ H ≤ 9223372036854775807) :
    Calls Try.prog 65 #[shp W H C D] w fun e w' => e = .returned (.int .i64 (sizeN W H C D)) ∧ Below w.heap.size w w' := by
  have hS : -9223372036854775808 ≤ rowN W H C D * H ∧ rowN W H C D * H ≤ 9223372036854775807 := by
    by_cases hb : Bnds W H C D
    · have := size_bd W H C D hb; unfold sizeN at this; omega
    · have := size_zero W H C D hb; unfold sizeN at this; omega
  have hR : Hid (sizeN W H C D = rowN W H C D * H) := rfl
  go_enter Try.func65, Try.ntmps65
  go_wp2_with fail
  have hb0 := box_alloc w W H C D 23
  go_region_with ((go_at_call 66; refine (row_any W H C D _).mono ?_; rintro e w1 ⟨rfl, hb1⟩; have hbx := (by first | exact hb0.drew.below hb1 | exact hb0.below hb1 : Box w1 w.heap.size W H C D); have c0 := hbx.c0; have c1 := hbx.c1; have c2 := hbx.c2; have c3 := hbx.c3))
  all_goals go_wp2
  all_goals go_ret
  all_goals exact ⟨by rw [hR.out, Go.IntWalk.i64_in _ hS]; rfl, ((Below.refl _ _).alloc (Nat.le_refl _) _).drew.trans (hb1.mono (by simp))⟩

set_option maxHeartbeats 400000 in
theorem mayShape_any (W H C D : Int) (w : World) (hH : -9223372036854775808 ≤ H ∧ H ≤ 9223372036854775807) :
    Calls Try.prog 61 #[shp W H C D] w fun e w' => e = .returned (.bool (mayN W H C D)) ∧ Below w.heap.size w w' := by
  by_cases hb : Bnds W H C D
  · have hbb : bnds W H C D = true := by simp [bnds, hb]
    have hR : Hid (mayN W H C D = decide (sizeN W H C D ≤ 16384)) := by simp [Hid, mayN, hb]
    have hs := size_bd W H C D hb
    go_enter Try.func61, Try.ntmps61
    go_wp2_with (first
      | (go_at_call 64; refine (inBounds_any W H C D _).mono ?_; rintro e w1 ⟨rfl, hb1⟩; have hbx := (box_alloc _ _ _ _ _ _).below hb1; rw [hbb]; have c0 := hbx.c0; have c1 := hbx.c1; have c2 := hbx.c2; have c3 := hbx.c3; clear hb hbb)
      | (go_at_call 65; refine (size_any W H C D _ hH).mono ?_; rintro e w2 ⟨rfl, hb2⟩))
    all_goals go_ret
    all_goals refine ⟨?_, below_size (((Below.refl _ _).alloc (Nat.le_refl _) _).trans (hb1.mono (by simp))) hb2⟩
    all_goals (rw [hR.out]; first | rfl | trace_state)
  · have hbb : bnds W H C D = false := by simp [bnds, hb]
    have hR : Hid (mayN W H C D = false) := by simp [Hid, mayN, hb]
    go_enter Try.func61, Try.ntmps61
    go_wp2_with (go_at_call 64; refine (inBounds_any W H C D _).mono ?_; rintro e w1 ⟨rfl, hb1⟩; rw [hbb]; clear hb hbb)
    all_goals go_ret
    all_goals exact ⟨by rw [hR.out]; rfl, ((Below.refl _ _).alloc (Nat.le_refl _) _).trans (hb1.mono (by simp))⟩

end Go.Proofs.Ytbmbelnjgnahhaa
