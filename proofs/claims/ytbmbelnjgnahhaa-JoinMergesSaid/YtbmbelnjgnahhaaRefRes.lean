/-
  aquref17.Resolve.
-/
import Derived.Test.YtbmbelnjgnahhaaRefDiff
namespace Go.Proofs.Ytbmbelnjgnahhaa
open Go.RowKit

theorem run_tree30 {w : World} {g : Nat} {W H C D : Int} {a : Option Addr} {n cap : Nat} (hb : RBox w g W H C D a n cap) :
    (loadVar 30 ⟨g, 0, Option.none⟩).run Try.prog w = .ok (ras W H C D a n cap) w :=
  run_loadVar_mid (P := Try.prog) w g 0 30 [.int .i64 W, .int .i64 H, .int .i64 C, .int .i64 D, .slice a n cap] _ (by
    intro j v hv
    match j, hv with
    | 0, hv => simp at hv; subst hv; exact hb.box.c0
    | 1, hv => simp at hv; subst hv; exact hb.box.c1
    | 2, hv => simp at hv; subst hv; exact hb.box.c2
    | 3, hv => simp at hv; subst hv; exact hb.box.c3
    | 4, hv => simp at hv; subst hv; exact hb.c4) Try.underlying30 rfl treeInfo30
theorem results_tree2r {fn : Func} {p u : Tmp} (h : fn.results = #[.cell p 30, .tmp u]) (tmps : Array Value) (w : World) (g : Nat) {W H C D : Int} {a : Option Addr} {n cap : Nat} (hp : tmps.getD p undef = .pointer (some ⟨g, 0, Option.none⟩)) (hb : RBox w g W H C D a n cap) :
    (results fn tmps).run Try.prog w = .ok (.tuple #[ras W H C D a n cap, tmps.getD u undef]) w := by
  have hp2 : tmps[p]?.getD undef = .pointer (some ⟨g, 0, Option.none⟩) := by simpa using hp
  simp [results, h, hp2, asAddr, run_tree30 hb]
theorem results_tree3r {fn : Func} {p u v : Tmp} (h : fn.results = #[.cell p 30, .tmp u, .tmp v]) (tmps : Array Value) (w : World) (g : Nat) {W H C D : Int} {a : Option Addr} {n cap : Nat} (hp : tmps.getD p undef = .pointer (some ⟨g, 0, Option.none⟩)) (hb : RBox w g W H C D a n cap) :
    (results fn tmps).run Try.prog w = .ok (.tuple #[ras W H C D a n cap, tmps.getD u undef, tmps.getD v undef]) w := by
  have hp2 : tmps[p]?.getD undef = .pointer (some ⟨g, 0, Option.none⟩) := by simpa using hp
  simp [results, h, hp2, asAddr, run_tree30 hb]
theorem outS_aT {w2 : World} {n : Nat} {a : Option Addr} {k : Nat} {zs : List ByteArray} {x1 : World} (T : TypeId) (hb : Below w2.heap.size w2 x1) (W H C D : Int) (o1 : x1.ownsRow w2.heap.size 9 1 (.slice a n k) n (zs.map Value.string)) :
    OutS w2 W H C D n x1.heap.size a k zs (x1.alloc (.cells #[.int .i64 W, .int .i64 H, .int .i64 C, .int .i64 D, .slice a n k] T)) := by
  refine ⟨rbox_alloc x1 W H C D a n k _, World.ownsRow.alloc o1 _, fun e => ?_, hb.size, hb.alloc hb.size _⟩
  have := (o1.lt _ e).2
  omega

set_option maxRecDepth 100000 in
set_option maxHeartbeats 1000000 in
theorem rresolve_form (o a : TV) (am : Option Addr) (nm cm : Nat) (w : World) (ho : TOk w o) (ha : TOk w a) (hm : (o.may && a.may) = false) :
    Calls Try.prog 15 #[o.val, .slice am nm cm, a.val] w fun e w' => e = .returned (.tuple #[ras 0 0 0 0 Option.none 0 0, .int .i64 4]) ∧ Below w.heap.size w w' := by
  obtain ⟨w1, hw1, x1, x2, x4, b1, s1⟩ := three_boxes0 w o a 30
  have X1 := Lib.hid x1; have X2 := Lib.hid x2; have X4 := Lib.hid x4; have B1 := Lib.hid b1; have HW := Lib.hid hw1
  have KO := Lib.hid (ho.below b1); have KA := Lib.hid (ha.below b1)
  have M1 := Lib.hid (fun w' (h : TOk w' o) => rmayV h)
  have M2 := Lib.hid (fun w' (h : TOk w' a) => rmayV h)
  clear hw1 x1 x2 x4 b1 s1 ho ha
  go_enter Try.func15, Try.ntmps15
  go_upto_region 1 with (fail)
  rw [HW.out]
  have c0 := X1.out.box.c0; have c1 := X1.out.box.c1; have c2 := X1.out.box.c2; have c3 := X1.out.box.c3; have c4 := X1.out.c4
  have d0 := X2.out.box.c0; have d1 := X2.out.box.c1; have d2 := X2.out.box.c2; have d3 := X2.out.box.c3; have d4 := X2.out.c4
  go_wp2_with fail
  refine (M1.out _ KO.out).mono ?_; rintro e w2 ⟨rfl, b2⟩
  clear c0 c1 c2 c3 c4 d0 d1 d2 d3 d4
  replace X2 := Lib.hid (X2.out.below b2); replace X4 := Lib.hid (X4.out.below b2); replace B1 := Lib.hid (below_size B1.out b2); replace KA := Lib.hid (KA.out.below b2)
  clear b2 M1
  generalize o.may = mo at *
  cases mo with
  | false =>
    clear hm
    have c0 := X4.out.box.c0; have c1 := X4.out.box.c1; have c2 := X4.out.box.c2; have c3 := X4.out.box.c3; have c4 := X4.out.c4; have f0 := X4.out.box.f0; have f1 := X4.out.box.f1; have f2 := X4.out.box.f2; have f3 := X4.out.box.f3; have f4 := X4.out.f4
    go_wp2_with fail
    refine bodyPost_ret (results_tree2r rfl _ _ _ rfl (X4.out.set 0 0 0 0 Option.none 0 0)) rfl ⟨rfl, ?_⟩
    exact ((((B1.out.setCell (by simp <;> omega) _).setCell (by simp <;> omega) _).setCell (by simp <;> omega) _).setCell (by simp <;> omega) _).setCell (by simp <;> omega) _
  | true =>
    have HAM := Lib.hid (show a.may = false by simpa using hm)
    clear hm
    have d0 := X2.out.box.c0; have d1 := X2.out.box.c1; have d2 := X2.out.box.c2; have d3 := X2.out.box.c3; have d4 := X2.out.c4
    go_wp2_with fail
    refine (M2.out _ KA.out).mono ?_; rintro e w3 ⟨rfl, b2⟩
    rw [HAM.out]
    clear d0 d1 d2 d3 d4
    replace X4 := Lib.hid (X4.out.below b2); replace B1 := Lib.hid (below_size B1.out b2)
    clear b2
    have c0 := X4.out.box.c0; have c1 := X4.out.box.c1; have c2 := X4.out.box.c2; have c3 := X4.out.box.c3; have c4 := X4.out.c4; have f0 := X4.out.box.f0; have f1 := X4.out.box.f1; have f2 := X4.out.box.f2; have f3 := X4.out.box.f3; have f4 := X4.out.f4
    go_wp2_with fail
    refine bodyPost_ret (results_tree2r rfl _ _ _ rfl (X4.out.set 0 0 0 0 Option.none 0 0)) rfl ⟨rfl, ?_⟩
    exact ((((B1.out.setCell (by simp <;> omega) _).setCell (by simp <;> omega) _).setCell (by simp <;> omega) _).setCell (by simp <;> omega) _).setCell (by simp <;> omega) _

set_option maxRecDepth 100000 in
set_option maxHeartbeats 1000000 in
theorem rresolve_shape (o a : TV) (am : Option Addr) (nm cm : Nat) (w : World) (ho : TOk w o) (ha : TOk w a) (hm : (o.may && a.may) = true) (hs : ¬ (o.alike a ∧ nm = o.n)) :
    Calls Try.prog 15 #[o.val, .slice am nm cm, a.val] w fun e w' => e = .returned (.tuple #[ras 0 0 0 0 Option.none 0 0, .int .i64 13]) ∧ Below w.heap.size w w' := by
  simp only [Bool.and_eq_true] at hm
  obtain ⟨w1, hw1, x1, x2, x4, b1, s1⟩ := three_boxes0 w o a 30
  have X1 := Lib.hid x1; have X2 := Lib.hid x2; have X4 := Lib.hid x4; have B1 := Lib.hid b1; have HW := Lib.hid hw1
  have KO := Lib.hid (ho.below b1); have KA := Lib.hid (ha.below b1)
  have M1 := Lib.hid (fun w' (h : TOk w' o) => by have := rmayV h; rw [hm.1] at this; exact this)
  have M2 := Lib.hid (fun w' (h : TOk w' a) => by have := rmayV h; rw [hm.2] at this; exact this)
  have S1 := Lib.hid (fun w' => shapeV o a w')
  have HS := Lib.hid hs
  clear hw1 x1 x2 x4 b1 s1 ho ha hm hs
  go_enter Try.func15, Try.ntmps15
  go_upto_region 1 with (fail)
  rw [HW.out]
  have c0 := X1.out.box.c0; have c1 := X1.out.box.c1; have c2 := X1.out.box.c2; have c3 := X1.out.box.c3; have c4 := X1.out.c4
  have d0 := X2.out.box.c0; have d1 := X2.out.box.c1; have d2 := X2.out.box.c2; have d3 := X2.out.box.c3; have d4 := X2.out.c4
  go_wp2_with fail
  refine (M1.out _ KO.out).mono ?_; rintro e w2 ⟨rfl, b2⟩
  clear c0 c1 c2 c3 c4 d0 d1 d2 d3 d4
  replace X1 := Lib.hid (X1.out.below b2); replace X2 := Lib.hid (X2.out.below b2); replace X4 := Lib.hid (X4.out.below b2); replace B1 := Lib.hid (below_size B1.out b2); replace KA := Lib.hid (KA.out.below b2)
  clear b2 M1
  have d0 := X2.out.box.c0; have d1 := X2.out.box.c1; have d2 := X2.out.box.c2; have d3 := X2.out.box.c3; have d4 := X2.out.c4
  go_wp2_with fail
  refine (M2.out _ KA.out).mono ?_; rintro e w3 ⟨rfl, b2⟩
  clear d0 d1 d2 d3 d4
  replace X1 := Lib.hid (X1.out.below b2); replace X2 := Lib.hid (X2.out.below b2); replace X4 := Lib.hid (X4.out.below b2); replace B1 := Lib.hid (below_size B1.out b2)
  clear b2 M2
  have c0 := X1.out.box.c0; have c1 := X1.out.box.c1; have c2 := X1.out.box.c2; have c3 := X1.out.box.c3; have c4 := X1.out.c4
  have d0 := X2.out.box.c0; have d1 := X2.out.box.c1; have d2 := X2.out.box.c2; have d3 := X2.out.box.c3; have d4 := X2.out.c4
  go_wp2_with fail
  refine (S1.out _).mono ?_; rintro e w4 ⟨rfl, b2⟩
  clear c0 c1 c2 c3 c4 d0 d1 d2 d3 d4
  replace X1 := Lib.hid (X1.out.below b2); replace X4 := Lib.hid (X4.out.below b2); replace B1 := Lib.hid (below_size B1.out b2)
  clear b2 S1
  by_cases hk : o.alike a
  · rw [decide_eq_true hk]
    have hn : ¬ (nm : Int) = o.n := by
      have h2 : ¬ nm = o.n := fun e => HS.out ⟨hk, e⟩
      omega
    clear hk
    have d0 := X1.out.box.c0; have d1 := X1.out.box.c1; have d2 := X1.out.box.c2; have d3 := X1.out.box.c3; have d4 := X1.out.c4
    have c0 := X4.out.box.c0; have c1 := X4.out.box.c1; have c2 := X4.out.box.c2; have c3 := X4.out.box.c3; have c4 := X4.out.c4; have f0 := X4.out.box.f0; have f1 := X4.out.box.f1; have f2 := X4.out.box.f2; have f3 := X4.out.box.f3; have f4 := X4.out.f4
    go_wp2_with fail
    refine bodyPost_ret (results_tree2r rfl _ _ _ rfl (X4.out.set 0 0 0 0 Option.none 0 0)) rfl ⟨rfl, ?_⟩
    exact ((((B1.out.setCell (by simp <;> omega) _).setCell (by simp <;> omega) _).setCell (by simp <;> omega) _).setCell (by simp <;> omega) _).setCell (by simp <;> omega) _
  · rw [decide_eq_false hk]
    clear hk
    have c0 := X4.out.box.c0; have c1 := X4.out.box.c1; have c2 := X4.out.box.c2; have c3 := X4.out.box.c3; have c4 := X4.out.c4; have f0 := X4.out.box.f0; have f1 := X4.out.box.f1; have f2 := X4.out.box.f2; have f3 := X4.out.box.f3; have f4 := X4.out.f4
    go_wp2_with fail
    refine bodyPost_ret (results_tree2r rfl _ _ _ rfl (X4.out.set 0 0 0 0 Option.none 0 0)) rfl ⟨rfl, ?_⟩
    exact ((((B1.out.setCell (by simp <;> omega) _).setCell (by simp <;> omega) _).setCell (by simp <;> omega) _).setCell (by simp <;> omega) _).setCell (by simp <;> omega) _
end Go.Proofs.Ytbmbelnjgnahhaa
