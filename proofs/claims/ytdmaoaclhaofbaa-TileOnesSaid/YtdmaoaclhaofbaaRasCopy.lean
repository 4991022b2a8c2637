/-
  aquref.Copy: a picture of its own.
-/
import Derived.Test.YtdmaoaclhaofbaaRetRas
namespace Go.Proofs.Ytdmaoaclhaofbaa
open Go.RowKit

theorem results_ras1 {fn : Func} {p : Tmp} (h : fn.results = #[.cell p 26]) (tmps : Array Value) (w : World) (g : Nat) {W H C D : Int} {a : Option Addr} {n cap : Nat} (hp : tmps.getD p undef = .pointer (some ⟨g, 0, Option.none⟩)) (hb : RBox w g W H C D a n cap) :
    (results fn tmps).run Try.prog w = .ok (ras W H C D a n cap) w := by
  have hl := run_loadVar_mid (P := Try.prog) w g 0 26 [.int .i64 W, .int .i64 H, .int .i64 C, .int .i64 D, .slice a n cap] _ (by
    intro j v hv
    match j, hv with
    | 0, hv => simp at hv; subst hv; exact hb.box.c0
    | 1, hv => simp at hv; subst hv; exact hb.box.c1
    | 2, hv => simp at hv; subst hv; exact hb.box.c2
    | 3, hv => simp at hv; subst hv; exact hb.box.c3
    | 4, hv => simp at hv; subst hv; exact hb.c4) Try.underlying26 rfl rasInfo
  have hr : (results fn tmps).run Try.prog w = ((asAddr (tmps.getD p undef)).run Try.prog w).andThen fun a w1 => (loadVar 26 a).run Try.prog w1 := by
    simp only [results, h]
    simp [Sem.run_bind, Result.andThen]
  rw [hr, hp]
  simp [asAddr, hl]

theorem RBox.setPix {w : World} {g : Nat} {W H C D : Int} {a : Option Addr} {n cap : Nat} (h : RBox w g W H C D a n cap) (b : Option Addr) (m k : Nat) : RBox (w.setCell ⟨g, 4, Option.none⟩ (.slice b m k)) g W H C D b m k := by
  refine ⟨⟨by simpa using h.lt, ?_, ?_, ?_, ?_, ?_, ?_, ?_, ?_⟩, World.cell?_setCell_same _ _ _ h.c4, by simpa [World.frozen?_setCell] using h.f4⟩
  · rw [World.cell?_setCell_other _ _ _ _ (by simp)]; exact h.box.c0
  · rw [World.cell?_setCell_other _ _ _ _ (by simp)]; exact h.box.c1
  · rw [World.cell?_setCell_other _ _ _ _ (by simp)]; exact h.box.c2
  · rw [World.cell?_setCell_other _ _ _ _ (by simp)]; exact h.box.c3
  · rw [World.frozen?_setCell]; exact h.box.f0
  · rw [World.frozen?_setCell]; exact h.box.f1
  · rw [World.frozen?_setCell]; exact h.box.f2
  · rw [World.frozen?_setCell]; exact h.box.f3
theorem RBox.setFar {w : World} {g : Nat} {W H C D : Int} {a : Option Addr} {n cap : Nat} (h : RBox w g W H C D a n cap) (b i : Nat) (v : Value) (hb : b ≠ g) : RBox (w.setCell ⟨b, i, Option.none⟩ v) g W H C D a n cap := by
  have hk := Below.heap_setCell w ⟨b, i, Option.none⟩ v g (fun e => hb e.symm)
  refine ⟨⟨by simpa using h.lt, ?_, ?_, ?_, ?_, ?_, ?_, ?_, ?_⟩, ?_, ?_⟩
  · exact (World.cell?_of_block (a := ⟨g, 0, Option.none⟩) hk).trans h.box.c0
  · exact (World.cell?_of_block (a := ⟨g, 1, Option.none⟩) hk).trans h.box.c1
  · exact (World.cell?_of_block (a := ⟨g, 2, Option.none⟩) hk).trans h.box.c2
  · exact (World.cell?_of_block (a := ⟨g, 3, Option.none⟩) hk).trans h.box.c3
  · exact (World.frozen?_of_block (a := ⟨g, 0, Option.none⟩) hk).trans h.box.f0
  · exact (World.frozen?_of_block (a := ⟨g, 1, Option.none⟩) hk).trans h.box.f1
  · exact (World.frozen?_of_block (a := ⟨g, 2, Option.none⟩) hk).trans h.box.f2
  · exact (World.frozen?_of_block (a := ⟨g, 3, Option.none⟩) hk).trans h.box.f3
  · exact (World.cell?_of_block (a := ⟨g, 4, Option.none⟩) hk).trans h.c4
  · exact (World.frozen?_of_block (a := ⟨g, 4, Option.none⟩) hk).trans h.f4

/-- A picture of new memory. -/
def RetR1 (w : World) (W H C D : Int) (ys : List Int) (e : Ending) (w' : World) : Prop :=
  ∃ (a : Option Addr) (k : Nat), e = .returned (ras W H C D a ys.length k) ∧ w'.ownsRow w.heap.size 5 1 (.slice a ys.length k) ys.length (ys.map (Value.int .u8)) ∧ Below w.heap.size w w'

set_option maxRecDepth 100000 in
set_option maxHeartbeats 1000000 in
theorem copy_any (W H C D : Int) (a : Option Addr) (n cap : Nat) (xs : List Int) (w : World) (hr : Reads .u8 w a n cap xs) (hn : n ≤ 1000000) :
    Calls Try.prog 10 #[ras W H C D a n cap] w (RetR1 w W H C D xs) := by
  have hb1 : Below w.heap.size w ((w.alloc (.cells #[.int .i64 W, .int .i64 H, .int .i64 C, .int .i64 D, .slice a n cap] 26)).alloc (.cells #[.int .i64 0, .int .i64 0, .int .i64 0, .int .i64 0, .slice Option.none 0 0] 26)) := ((Below.refl _ _).alloc (Nat.le_refl _) _).alloc (by simp) _
  have bx0 := (rbox_alloc w W H C D a n cap 26).below ((Below.refl _ _).alloc (Nat.le_refl _) (.cells #[.int .i64 0, .int .i64 0, .int .i64 0, .int .i64 0, .slice Option.none 0 0] 26))
  have by0 := rbox_alloc (w.alloc (.cells #[.int .i64 W, .int .i64 H, .int .i64 C, .int .i64 D, .slice a n cap] 26)) 0 0 0 0 Option.none 0 0 26
  rw [World.size_alloc] at by0
  have B := Lib.hid hb1; have BX := Lib.hid bx0; have BY := Lib.hid by0; have R := Lib.hid (hr.below hb1)
  have Hl := Lib.hid hr.len
  have Hv := Lib.hid (show w.heap.size + 2 ≤ ((w.alloc (.cells #[.int .i64 W, .int .i64 H, .int .i64 C, .int .i64 D, .slice a n cap] 26)).alloc (.cells #[.int .i64 0, .int .i64 0, .int .i64 0, .int .i64 0, .slice Option.none 0 0] 26)).heap.size by simp)
  clear hb1 bx0 by0 hr
  go_enter Try.func10, Try.ntmps10
  go_wp2_with fail
  generalize ((w.alloc (.cells #[.int .i64 W, .int .i64 H, .int .i64 C, .int .i64 D, .slice a n cap] 26)).alloc (.cells #[.int .i64 0, .int .i64 0, .int .i64 0, .int .i64 0, .slice Option.none 0 0] 26)) = v at *
  refine (copyBytes_any _ _ _ _ _ R.out (by omega)).mono ?_; rintro e w1 ⟨a1, k1, rfl, o1, bb⟩
  replace B := Lib.hid (below_size B.out bb)
  replace BX := Lib.hid (BX.out.below bb)
  replace BY := Lib.hid (BY.out.below bb)
  have hlt := Lib.hid (show w.heap.size + 2 ≤ v.heap.size by have := bb.size; exact Hv.out)
  have O := Lib.hid (owns_base o1 hlt.out)
  clear bb o1
  have c0 := BX.out.box.c0; have c1 := BX.out.box.c1; have c2 := BX.out.box.c2; have c3 := BX.out.box.c3; have c4 := BX.out.c4; have f0 := BX.out.box.f0; have f1 := BX.out.box.f1; have f2 := BX.out.box.f2; have f3 := BX.out.box.f3; have f4 := BX.out.f4
  have d0 := BY.out.box.c0; have d1 := BY.out.box.c1; have d2 := BY.out.box.c2; have d3 := BY.out.box.c3; have d4 := BY.out.c4; have g0 := BY.out.box.f0; have g1 := BY.out.box.f1; have g2 := BY.out.box.f2; have g3 := BY.out.box.f3; have g4 := BY.out.f4
  go_wp2_with fail
  refine bodyPost_ret (results_ras1 rfl _ _ _ rfl ((((BY.out.setFar _ _ _ (by omega)).set W H C D a1 xs.length k1)))) rfl ?_
  refine ⟨a1, k1, rfl, ?_, (((((B.out.setCell (by simp) _).setCell (by simp) _).setCell (by simp) _).setCell (by simp) _).setCell (by simp) _).setCell (by simp) _⟩
  exact owns_base (owns_under (owns_under (owns_under (owns_under (owns_under (owns_under O.out _ _ _ (by omega)) _ _ _ (by omega)) _ _ _ (by omega)) _ _ _ (by omega)) _ _ _ (by omega)) _ _ _ (by omega)) (by omega)
end Go.Proofs.Ytdmaoaclhaofbaa
