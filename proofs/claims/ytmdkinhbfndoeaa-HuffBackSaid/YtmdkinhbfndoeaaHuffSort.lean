/-
  slices.SortStableFunc of items that rise already (fewer than 20): nothing changes.
-/
import Derived.Test.YtmdkinhbfndoeaaHuffRCodes
import Derived.BigQuiet
namespace Go.Proofs.Ytmdkinhbfndoeaa
open Go.RowKit

/-- Items lie in block g. -/
structure ItemsAt (w : World) (g n : Nat) (its : List (Int × Int)) : Prop where
  len : its.length = n
  lt : g < w.heap.size
  c0 : ∀ j, j < n → w.cell? ⟨g, j * 2, Option.none⟩ = some (.int .i64 (its.getD j (0, 0)).1)
  c1 : ∀ j, j < n → w.cell? ⟨g, j * 2 + 1, Option.none⟩ = some (.int .i64 (its.getD j (0, 0)).2)
theorem ItemsAt.below {w w' : World} {g n : Nat} {its : List (Int × Int)} (h : ItemsAt w g n its) (hb : Below w.heap.size w w') : ItemsAt w' g n its :=
  ⟨h.len, Nat.lt_of_lt_of_le h.lt hb.size, fun j hj => (hb.cell (p := ⟨g, j * 2, Option.none⟩) h.lt).trans (h.c0 j hj), fun j hj => (hb.cell (p := ⟨g, j * 2 + 1, Option.none⟩) h.lt).trans (h.c1 j hj)⟩
def risesI (its : List (Int × Int)) : Prop := ∀ j, j + 1 < its.length → (its.getD j (0, 0)).1 ≤ (its.getD (j + 1) (0, 0)).1

theorem isNaN_any (x : Int) (w : World) : Calls Try.prog 42 #[.int .i64 x] w fun e w' => e = .returned (.bool false) ∧ w' = w := by
  go_enter Try.func42, Try.ntmps42
  go_wp2
  go_ret
  simp
theorem compare_any (x y : Int) (w : World) : Calls Try.prog 31 #[.int .i64 x, .int .i64 y] w fun e w' => e = .returned (.int .i64 (if x < y then -1 else if y < x then 1 else 0)) ∧ w' = w := by
  by_cases h1 : x < y
  · rw [if_pos h1]
    go_enter Try.func31, Try.ntmps31
    go_wp2_with fail
    refine (isNaN_any x _).mono ?_; rintro e w1 ⟨rfl, rfl⟩
    go_wp2_with fail
    refine (isNaN_any y _).mono ?_; rintro e w1 ⟨rfl, rfl⟩
    go_wp2_with fail
    go_ret
    exact ⟨rfl, rfl⟩
  · rw [if_neg h1]
    by_cases h2 : y < x
    · rw [if_pos h2]
      go_enter Try.func31, Try.ntmps31
      go_wp2_with fail
      refine (isNaN_any x _).mono ?_; rintro e w1 ⟨rfl, rfl⟩
      go_wp2_with fail
      refine (isNaN_any y _).mono ?_; rintro e w1 ⟨rfl, rfl⟩
      go_wp2_with fail
      go_ret
      exact ⟨rfl, rfl⟩
    · rw [if_neg h2]
      go_enter Try.func31, Try.ntmps31
      go_wp2_with fail
      refine (isNaN_any x _).mono ?_; rintro e w1 ⟨rfl, rfl⟩
      go_wp2_with fail
      refine (isNaN_any y _).mono ?_; rintro e w1 ⟨rfl, rfl⟩
      go_wp2_with fail
      go_ret
      exact ⟨rfl, rfl⟩
theorem lit_any (x p y q : Int) (w : World) : Calls Try.prog 30 #[.agg #[.int .i64 x, .int .i64 p], .agg #[.int .i64 y, .int .i64 q]] w
    fun e w' => e = .returned (.int .i64 (if x < y then -1 else if y < x then 1 else 0)) ∧ Below w.heap.size w w' := by
  have C := compare_any x y
  obtain ⟨v, hv⟩ : ∃ v : Int, (if x < y then -1 else if y < x then 1 else 0) = v := ⟨_, rfl⟩
  simp only [hv] at C ⊢
  clear hv
  go_enter Try.func30, Try.ntmps30
  go_wp2_with fail
  refine (C _).mono ?_; rintro e w1 ⟨rfl, rfl⟩
  go_wp2_with fail
  go_ret
  exact ⟨rfl, ((Below.refl _ _).alloc (Nat.le_refl _) _).alloc (by simp) _⟩

theorem lit_ge (x p y q : Int) (h : y ≤ x) : ∃ v : Int, 0 ≤ v ∧ ∀ w, Calls Try.prog 30 #[.agg #[.int .i64 x, .int .i64 p], .agg #[.int .i64 y, .int .i64 q]] w
    fun e w' => e = .returned (.int .i64 v) ∧ Below w.heap.size w w' := by
  refine ⟨_, ?_, fun w => lit_any x p y q w⟩
  rw [if_neg (by omega)]
  split <;> omega

set_option maxRecDepth 100000 in
set_option maxHeartbeats 2000000 in
theorem insertion_sorted (g n cap : Nat) (its : List (Int × Int)) (w : World) (hI : ItemsAt w g n its) (hr : risesI its) (hn : n < 20) (hn1 : 1 ≤ n) :
    Calls Try.prog 46 #[.slice (some ⟨g, 0, Option.none⟩) n cap, .int .i64 0, .int .i64 n, .func (.func 30) #[] #[]] w
      fun e w' => (∃ v, e = .returned v) ∧ Below w.heap.size w w' := by
  have HI := Lib.hid hI; have HR := Lib.hid hr
  clear hI hr
  go_enter Try.func46, Try.ntmps46
  go_wp2_with fail
  go_loopw [8] (fun vi wr => ∃ k : Nat, k + 1 ≤ n ∧ vi = .int .i64 ((k : Int) + 1) ∧ Hid (Below w.heap.size w wr)) (fun vi _ => n - (intOf vi).toNat)
  case atStart => exact ⟨0, hn1, rfl, Lib.hid (Below.refl _ _)⟩
  case round =>
    obtain ⟨k, hk, rfl, B⟩ := hrel
    by_cases hlt : k + 1 < n
    · have I := HI.out.below B.out
      have hge := HR.out k (by rw [I.len]; exact hlt)
      obtain ⟨v, hv, hC⟩ := lit_ge (its.getD (k + 1) (0, 0)).1 (its.getD (k + 1) (0, 0)).2 (its.getD k (0, 0)).1 (its.getD k (0, 0)).2 hge
      have d0 := fun x : GrownW wr => x.cell I.lt (I.c0 (k + 1) hlt)
      have d1 := fun x : GrownW wr => x.cell I.lt (I.c1 (k + 1) hlt)
      have d2 := fun x : GrownW wr => x.cell I.lt (I.c0 k (by omega))
      have d3 := fun x : GrownW wr => x.cell I.lt (I.c1 k (by omega))
      generalize (its.getD (k + 1) (0, 0)).1 = x1 at *
      generalize (its.getD (k + 1) (0, 0)).2 = x2 at *
      generalize (its.getD k (0, 0)).1 = y1 at *
      generalize (its.getD k (0, 0)).2 = y2 at *
      have hlt' : (k : Int) + 1 < n := by omega
      clear I
      go_wp2_with fail
      go_loopw [9] (fun vj wz => vj = .int .i64 ((k : Int) + 1) ∧ wz = wr) (fun _ _ => 0)
      case atStart => exact ⟨rfl, rfl⟩
      case round =>
        obtain ⟨rfl, rfl⟩ := hrel
        have h0 : (0 : Int) < (k : Int) + 1 := by omega
        go_upto_region 4 with (fail)
        refine wp_region_grow_lit (by kernel_rfl) (by kernel_rfl) ?_
        repeat (go_big_quiet_step (exact grow_call (hC _)))
        refine wpQuiet_nil ?_
        intro wg hw'
        obtain ⟨⟨wz, hbg⟩, hw''⟩ := hw'
        subst hw''
        have hv' : ¬ v < 0 := by omega
        clear d0 d1 d2 d3
        go_wp2_with fail
        go_roundw
        case rel => exact ⟨k + 1, by omega, by go_num, Lib.hid (below_size B.out hbg)⟩
        case measure => simp [intOf]; omega
    · have hlt' : ¬ (k : Int) + 1 < n := by omega
      go_wp2_with fail
      go_end0
      exact ⟨⟨_, rfl⟩, B.out⟩

/-- Below 20 the stable sort is one insertion sort. -/
theorem stable_sorted (g n cap : Nat) (its : List (Int × Int)) (w : World) (hI : ItemsAt w g n its) (hr : risesI its) (hn : n < 20) (hn1 : 1 ≤ n) :
    Calls Try.prog 41 #[.slice (some ⟨g, 0, Option.none⟩) n cap, .int .i64 n, .func (.func 30) #[] #[]] w
      fun e w' => (∃ v, e = .returned v) ∧ Below w.heap.size w w' := by
  have HI := Lib.hid hI; have HR := Lib.hid hr
  clear hI hr
  have hlt : (n : Int) < 20 := by omega
  go_enter Try.func41, Try.ntmps41
  go_wp2_with fail
  go_loopw [7, 8] (fun va vb wr => va = .int .i64 0 ∧ vb = .int .i64 20 ∧ wr = w) (fun _ _ _ => 0)
  case atStart => exact ⟨rfl, rfl, rfl⟩
  case round =>
    obtain ⟨rfl, rfl, rfl⟩ := hrel
    have hge : ¬ (20 : Int) ≤ n := by omega
    go_wp2_with fail
    refine (insertion_sorted g n cap its _ HI.out HR.out hn hn1).mono ?_; rintro e w1 ⟨⟨v, rfl⟩, b1⟩
    have B := Lib.hid b1
    clear b1
    go_wp2_with fail
    go_loopw [6] (fun vb wr => vb = .int .i64 20 ∧ wr = w1) (fun _ _ => 0)
    case atStart => exact ⟨rfl, rfl⟩
    case round =>
      obtain ⟨rfl, rfl⟩ := hrel
      have hge : ¬ (20 : Int) < n := by omega
      go_wp2_with fail
      go_end0
      exact ⟨⟨_, rfl⟩, B.out⟩

theorem sort_sorted (g n cap : Nat) (its : List (Int × Int)) (w : World) (hI : ItemsAt w g n its) (hr : risesI its) (hn : n < 20) (hn1 : 1 ≤ n) :
    Calls Try.prog 29 #[.slice (some ⟨g, 0, Option.none⟩) n cap, .func (.func 30) #[] #[]] w
      fun e w' => (∃ v, e = .returned v) ∧ Below w.heap.size w w' := by
  go_enter Try.func29, Try.ntmps29
  go_wp2_with fail
  refine (stable_sorted g n cap its _ hI hr hn hn1).mono ?_; rintro e w1 ⟨⟨v, rfl⟩, b1⟩
  go_wp2_with fail
  go_end0
  exact ⟨⟨_, rfl⟩, b1⟩
end Go.Proofs.Ytmdkinhbfndoeaa
