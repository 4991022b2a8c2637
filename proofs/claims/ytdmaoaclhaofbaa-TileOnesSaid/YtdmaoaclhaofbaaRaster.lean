/-
  Pictures by value: a block of five cells; pix.May, aqulaw9.Few.
-/
import Derived.Test.YtdmaoaclhaofbaaShape
import Derived.Test.YtdmaoaclhaofbaaGrow
namespace Go.Proofs.Ytdmaoaclhaofbaa
open Go.RowKit

/-- A picture's value. -/
abbrev ras (W H C D : Int) (a : Option Addr) (n cap : Nat) : Value := .agg #[.int .i64 W, .int .i64 H, .int .i64 C, .int .i64 D, .slice a n cap]

/-- Block g holds a picture. -/
structure RBox (w : World) (g : Nat) (W H C D : Int) (a : Option Addr) (n cap : Nat) : Prop where
  box : Box w g W H C D
  c4 : w.cell? ⟨g, 4, Option.none⟩ = some (.slice a n cap)
  f4 : w.frozen? ⟨g, 4, Option.none⟩ = false

section
variable {w w' : World} {g : Nat} {W H C D : Int} {a : Option Addr} {n cap : Nat}
theorem RBox.lt (h : RBox w g W H C D a n cap) : g < w.heap.size := h.box.lt
theorem RBox.below (h : RBox w g W H C D a n cap) (hb : Below w.heap.size w w') : RBox w' g W H C D a n cap :=
  ⟨h.box.below hb, (hb.cell h.lt).trans h.c4, (hb.frozen h.lt).trans h.f4⟩
theorem rbox_alloc (w : World) (W H C D : Int) (a : Option Addr) (n cap : Nat) (t : TypeId) : RBox (w.alloc (.cells #[.int .i64 W, .int .i64 H, .int .i64 C, .int .i64 D, .slice a n cap] t)) w.heap.size W H C D a n cap := by
  have hh : (w.alloc (.cells #[.int .i64 W, .int .i64 H, .int .i64 C, .int .i64 D, .slice a n cap] t)).heap[w.heap.size]? = some (.cells #[.int .i64 W, .int .i64 H, .int .i64 C, .int .i64 D, .slice a n cap] t) := by
    show (w.heap.push _)[w.heap.size]? = _
    simp
  refine ⟨⟨by simp, ?_, ?_, ?_, ?_, ?_, ?_, ?_, ?_⟩, ?_, ?_⟩
  all_goals first
    | (unfold World.cell?; rw [hh]; rfl)
    | (unfold World.frozen?; rw [hh]; rfl)
end

/-- May it be? -/
def mayR (W H C D : Int) (n : Nat) : Bool := mayN W H C D && ((n : Int) == sizeN W H C D)

set_option maxHeartbeats 400000 in
theorem may_any (W H C D : Int) (a : Option Addr) (n cap : Nat) (w : World) (hH : -9223372036854775808 ≤ H ∧ H ≤ 9223372036854775807) :
    Calls Try.prog 22 #[ras W H C D a n cap] w fun e w' => e = .returned (.bool (mayR W H C D n)) ∧ Below w.heap.size w w' := by
  cases hm : mayN W H C D
  all_goals
    have HR : Hid (mayR W H C D n = (mayN W H C D && ((n : Int) == sizeN W H C D))) := rfl
    rw [hm] at HR
    have cm := fun w' => mayShape_any W H C D w' hH
    simp only [hm] at cm
    go_enter Try.func22, Try.ntmps22
    go_wp2_with fail
    have hb0 := rbox_alloc w W H C D a n cap 26
    have hb1 : Below w.heap.size w (w.alloc (.cells #[.int .i64 W, .int .i64 H, .int .i64 C, .int .i64 D, .slice a n cap] 26)) := (Below.refl _ _).alloc (Nat.le_refl _) _
    generalize w.alloc (.cells #[.int .i64 W, .int .i64 H, .int .i64 C, .int .i64 D, .slice a n cap] 26) = w0 at *
    have c0 := fun x : GrownW w0 => x.cell hb0.lt hb0.box.c0
    have c1 := fun x : GrownW w0 => x.cell hb0.lt hb0.box.c1
    have c2 := fun x : GrownW w0 => x.cell hb0.lt hb0.box.c2
    have c3 := fun x : GrownW w0 => x.cell hb0.lt hb0.box.c3
    have c4 := fun x : GrownW w0 => x.cell hb0.lt hb0.c4
    refine wp_region_grow_lit (by kernel_rfl) (by kernel_rfl) ?_
    repeat (go_big_quiet_step (first
      | (go_at_call 24; exact grow_call (cm _))
      | (go_at_call 27; exact grow_call (size_any W H C D _ hH))))
    refine wpQuiet_nil ?_
    intro wg hw'
    obtain ⟨⟨wz, hbg⟩, hw''⟩ := hw'
    subst hw''
  all_goals go_wp2
  all_goals go_ret
  all_goals refine ⟨?_, below_size hb1 hbg⟩
  all_goals (rw [HR.out]; simp)

theorem mayR_spec {W H C D : Int} {n : Nat} (h : mayR W H C D n = true) : Bnds W H C D ∧ sizeN W H C D ≤ 16384 ∧ (n : Int) = sizeN W H C D := by
  simp [mayR, mayN] at h
  exact ⟨h.1.1, h.1.2, h.2⟩

/-- Is (x, y, c) a place? -/
def InR (W H C x y c : Int) : Prop := 0 ≤ x ∧ x < W ∧ 0 ≤ y ∧ y < H ∧ 0 ≤ c ∧ c < C
instance (W H C x y c : Int) : Decidable (InR W H C x y c) := by unfold InR; infer_instance
def plAt (W H C D x y c : Int) : Int := y * rowN W H C D + (x * C + c) * D / 8

/-- The place's bounds. -/
theorem plAt_bd {W H C D x y c : Int} (hb : Bnds W H C D) (hi : InR W H C x y c) :
    0 ≤ (x * C + c) * D / 8 ∧ (x * C + c) * D / 8 + D / 8 ≤ rowN W H C D ∧ 0 ≤ x * C + c ∧ x * C + c ≤ 1024 ∧ 0 ≤ (x * C + c) * D ∧ (x * C + c) * D ≤ 16384 ∧ 0 ≤ x * C ∧ x * C ≤ 1024 := by
  obtain ⟨h1, h2, h3, h4, h5, h6, h7⟩ := hb
  obtain ⟨i1, i2, i3, i4, i5, i6⟩ := hi
  have hr : rowN W H C D = W * C * D / 8 := by rw [rowN, if_pos ⟨h1, h2, h3, h4, h5, h6, h7⟩]
  rw [hr]
  rcases (by omega : C = 1 ∨ C = 2 ∨ C = 3 ∨ C = 4) with rfl | rfl | rfl | rfl <;> rcases h7 with rfl | rfl <;> omega

theorem plAt_in {W H C D x y c : Int} (hb : Bnds W H C D) (hi : InR W H C x y c) :
    0 ≤ plAt W H C D x y c ∧ plAt W H C D x y c + D / 8 ≤ sizeN W H C D ∧ 0 ≤ y * rowN W H C D ∧ y * rowN W H C D ≤ 524288 := by
  have hp := plAt_bd hb hi
  have hr := row_bd W H C D
  obtain ⟨i1, i2, i3, i4, i5, i6⟩ := hi
  have e1 : 0 ≤ y * rowN W H C D := Int.mul_nonneg i3 hr.1
  have e2 : (y + 1) * rowN W H C D ≤ H * rowN W H C D := Int.mul_le_mul_of_nonneg_right (by omega) hr.1
  have e3 : H * rowN W H C D ≤ 256 * 2048 := Int.mul_le_mul hb.2.2.2.1 hr.2 hr.1 (by omega)
  rw [Int.add_mul] at e2
  have e4 : sizeN W H C D = H * rowN W H C D := by unfold sizeN; rw [Int.mul_comm]
  unfold plAt
  omega
end Go.Proofs.Ytdmaoaclhaofbaa
