/-
  join.Merge.
-/
import Derived.Test.YtbmbelnjgnahhaaJoinMay
namespace Go.Proofs.Ytbmbelnjgnahhaa
open Go.RowKit

abbrev treeC (t : TV) : Array Value := #[.int .i64 t.W, .int .i64 t.H, .int .i64 t.C, .int .i64 t.D, .slice t.a t.n t.cap]
abbrev nulC : Array Value := #[.int .i64 0, .int .i64 0, .int .i64 0, .int .i64 0, .slice Option.none 0 0]
/-- Block g holds a tree. -/
abbrev TBox (w : World) (g : Nat) (t : TV) : Prop := RBox w g t.W t.H t.C t.D t.a t.n t.cap

theorem four_boxes (w : World) (o a b : TV) (T : TypeId) : ∃ w4, (((w.alloc (.cells (treeC o) T)).alloc (.cells (treeC a) T)).alloc (.cells (treeC b) T)).alloc (.cells nulC T) = w4 ∧
    TBox w4 w.heap.size o ∧ TBox w4 (w.heap.size + 1) a ∧ TBox w4 (w.heap.size + 1 + 1) b ∧ RBox w4 (w.heap.size + 1 + 1 + 1) 0 0 0 0 Option.none 0 0 ∧ Below w.heap.size w w4 ∧ w4.heap.size = w.heap.size + 4 := by
  have al := fun (w : World) (x : Obj) => (Below.refl w.heap.size w).alloc (Nat.le_refl _) x
  have b1 := (((rbox_alloc w o.W o.H o.C o.D o.a o.n o.cap T).below (al _ (.cells (treeC a) T))).below (al _ (.cells (treeC b) T))).below (al _ (.cells nulC T))
  have b2 := ((rbox_alloc (w.alloc (.cells (treeC o) T)) a.W a.H a.C a.D a.a a.n a.cap T).below (al _ (.cells (treeC b) T))).below (al _ (.cells nulC T))
  have b3 := (rbox_alloc ((w.alloc (.cells (treeC o) T)).alloc (.cells (treeC a) T)) b.W b.H b.C b.D b.a b.n b.cap T).below (al _ (.cells nulC T))
  have b4 := rbox_alloc (((w.alloc (.cells (treeC o) T)).alloc (.cells (treeC a) T)).alloc (.cells (treeC b) T)) 0 0 0 0 Option.none 0 0 T
  simp only [World.size_alloc] at b2 b3 b4
  refine ⟨_, rfl, b1, b2, b3, b4, below_size (below_size (below_size (al _ _) (al _ _)) (al _ _)) (al _ _), by simp⟩
theorem treeInfo : (Try.prog.info? 26).map (·.size) = some 5 := by kernel_rfl
theorem run_tree {w : World} {g : Nat} {W H C D : Int} {a : Option Addr} {n cap : Nat} (hb : RBox w g W H C D a n cap) :
    (loadVar 26 ⟨g, 0, Option.none⟩).run Try.prog w = .ok (ras W H C D a n cap) w :=
  run_loadVar_mid (P := Try.prog) w g 0 26 [.int .i64 W, .int .i64 H, .int .i64 C, .int .i64 D, .slice a n cap] _ (by
    intro j v hv
    match j, hv with
    | 0, hv => simp at hv; subst hv; exact hb.box.c0
    | 1, hv => simp at hv; subst hv; exact hb.box.c1
    | 2, hv => simp at hv; subst hv; exact hb.box.c2
    | 3, hv => simp at hv; subst hv; exact hb.box.c3
    | 4, hv => simp at hv; subst hv; exact hb.c4) Try.underlying26 rfl treeInfo
theorem results_tree3 {fn : Func} {p u v : Tmp} (h : fn.results = #[.cell p 26, .tmp u, .tmp v]) (tmps : Array Value) (w : World) (g : Nat) {W H C D : Int} {a : Option Addr} {n cap : Nat} (hp : tmps.getD p undef = .pointer (some ⟨g, 0, Option.none⟩)) (hb : RBox w g W H C D a n cap) :
    (results fn tmps).run Try.prog w = .ok (.tuple #[ras W H C D a n cap, tmps.getD u undef, tmps.getD v undef]) w := by
  have hp2 : tmps[p]?.getD undef = .pointer (some ⟨g, 0, Option.none⟩) := by simpa using hp
  simp [results, h, hp2, asAddr, run_tree hb, Sem.run_bind]
theorem results_tree2 {fn : Func} {p u : Tmp} (h : fn.results = #[.cell p 26, .tmp u]) (tmps : Array Value) (w : World) (g : Nat) {W H C D : Int} {a : Option Addr} {n cap : Nat} (hp : tmps.getD p undef = .pointer (some ⟨g, 0, Option.none⟩)) (hb : RBox w g W H C D a n cap) :
    (results fn tmps).run Try.prog w = .ok (.tuple #[ras W H C D a n cap, tmps.getD u undef]) w := by
  have hp2 : tmps[p]?.getD undef = .pointer (some ⟨g, 0, Option.none⟩) := by simpa using hp
  simp [results, h, hp2, asAddr, run_tree hb, Sem.run_bind]
/-- Three trees side by side. -/
theorem tlist3 (w : World) (o a b : TV) (T : TypeId) : ∃ w5, w.alloc (.cells #[.int .i64 o.W, .int .i64 o.H, .int .i64 o.C, .int .i64 o.D, .slice o.a o.n o.cap, .int .i64 a.W, .int .i64 a.H, .int .i64 a.C, .int .i64 a.D, .slice a.a a.n a.cap, .int .i64 b.W, .int .i64 b.H, .int .i64 b.C, .int .i64 b.D, .slice b.a b.n b.cap] T) = w5 ∧
    TList w5 w.heap.size 3 [o, a, b] ∧ Below w.heap.size w w5 := by
  have hh : (w.alloc (.cells #[.int .i64 o.W, .int .i64 o.H, .int .i64 o.C, .int .i64 o.D, .slice o.a o.n o.cap, .int .i64 a.W, .int .i64 a.H, .int .i64 a.C, .int .i64 a.D, .slice a.a a.n a.cap, .int .i64 b.W, .int .i64 b.H, .int .i64 b.C, .int .i64 b.D, .slice b.a b.n b.cap] T)).heap[w.heap.size]? = some (.cells #[.int .i64 o.W, .int .i64 o.H, .int .i64 o.C, .int .i64 o.D, .slice o.a o.n o.cap, .int .i64 a.W, .int .i64 a.H, .int .i64 a.C, .int .i64 a.D, .slice a.a a.n a.cap, .int .i64 b.W, .int .i64 b.H, .int .i64 b.C, .int .i64 b.D, .slice b.a b.n b.cap] T) := by
    show (w.heap.push _)[w.heap.size]? = _
    simp
  refine ⟨_, rfl, ⟨rfl, by simp, ?_, ?_, ?_, ?_, ?_⟩, (Below.refl _ _).alloc (Nat.le_refl _) _⟩
  all_goals
    intro i hi
    unfold World.cell?
    rw [show (w.alloc (.cells _ T)).heap[(⟨w.heap.size, _, Option.none⟩ : Addr).block]? = _ from hh]
    rcases (by omega : i = 0 ∨ i = 1 ∨ i = 2) with rfl | rfl | rfl <;> rfl

set_option maxRecDepth 100000 in
set_option maxHeartbeats 1000000 in
theorem merge_form (o a b : TV) (w : World) (ho : TOk w o) (ha : TOk w a) (hb : TOk w b) (hm : [o, a, b].all TV.may = false) :
    Calls Try.prog 11 #[o.val, a.val, b.val] w fun e w' => e = .returned (.tuple #[ras 0 0 0 0 Option.none 0 0, .slice Option.none 0 0, .int .i64 4]) ∧ Below w.heap.size w w' := by
  obtain ⟨w4, hw4, x1, x2, x3, x4, b4, s4⟩ := four_boxes w o a b 26
  obtain ⟨w5, hw5, tl, b5⟩ := tlist3 w4 o a b 26
  have HM := Lib.hid (fun (w' : World) (h : TList w' w4.heap.size 3 [o, a, b]) (h2 : ∀ t ∈ [o, a, b], TOk w' t) => by have := joinMay_any w4.heap.size 3 [o, a, b] w' h (by decide) h2; rw [hm] at this; exact this)
  have TL := Lib.hid tl; have B5 := Lib.hid (below_size b4 b5); have X1 := Lib.hid x1; have X2 := Lib.hid x2; have X3 := Lib.hid x3; have X4 := Lib.hid (x4.below b5)
  have OK := Lib.hid (show ∀ t ∈ [o, a, b], TOk w5 t by
    intro t ht
    simp only [List.mem_cons, List.not_mem_nil, or_false] at ht
    rcases ht with rfl | rfl | rfl
    · exact (ho.below b4).below b5
    · exact (ha.below b4).below b5
    · exact (hb.below b4).below b5)
  have HW4 := Lib.hid hw4; have HW5 := Lib.hid hw5; have S4 := Lib.hid s4
  clear hw4 hw5 x1 x2 x3 x4 b4 s4 tl b5 hm ho ha hb
  go_enter Try.func11, Try.ntmps11
  go_upto_region 1 with (fail)
  rw [HW4.out]
  have c0 := X1.out.box.c0; have c1 := X1.out.box.c1; have c2 := X1.out.box.c2; have c3 := X1.out.box.c3; have c4 := X1.out.c4
  have d0 := X2.out.box.c0; have d1 := X2.out.box.c1; have d2 := X2.out.box.c2; have d3 := X2.out.box.c3; have d4 := X2.out.c4
  have e0 := X3.out.box.c0; have e1 := X3.out.box.c1; have e2 := X3.out.box.c2; have e3 := X3.out.box.c3; have e4 := X3.out.c4
  go_wp2_with fail
  rw [HW5.out]
  refine (HM.out w5 TL.out OK.out).mono ?_; rintro e w6 ⟨rfl, b6⟩
  clear c0 c1 c2 c3 c4 d0 d1 d2 d3 d4 e0 e1 e2 e3 e4
  have X6 := Lib.hid (X4.out.below b6)
  have B6 := Lib.hid (below_size B5.out b6)
  clear b6
  have c0 := X6.out.box.c0; have c1 := X6.out.box.c1; have c2 := X6.out.box.c2; have c3 := X6.out.box.c3; have c4 := X6.out.c4; have f0 := X6.out.box.f0; have f1 := X6.out.box.f1; have f2 := X6.out.box.f2; have f3 := X6.out.box.f3; have f4 := X6.out.f4
  go_wp2_with fail
  refine bodyPost_ret (results_tree3 rfl _ _ _ rfl (X6.out.set 0 0 0 0 Option.none 0 0)) rfl ⟨rfl, ?_⟩
  exact ((((B6.out.setCell (by simp <;> omega) _).setCell (by simp <;> omega) _).setCell (by simp <;> omega) _).setCell (by simp <;> omega) _).setCell (by simp <;> omega) _

/-- Alike in shape. -/
def TV.alike (s t : TV) : Prop := s.W = t.W ∧ s.H = t.H ∧ s.C = t.C ∧ s.D = t.D
instance (s t : TV) : Decidable (s.alike t) := by unfold TV.alike; infer_instance
theorem alike_no {s t u : TV} (h : ¬ (s.alike t ∧ s.alike u)) : (¬ s.W = t.W) ∨ (s.W = t.W ∧ ¬ s.H = t.H) ∨ (s.W = t.W ∧ s.H = t.H ∧ ¬ s.C = t.C) ∨ (s.W = t.W ∧ s.H = t.H ∧ s.C = t.C ∧ ¬ s.D = t.D) ∨
    ((s.W = t.W ∧ s.H = t.H ∧ s.C = t.C ∧ s.D = t.D) ∧ ((¬ s.W = u.W) ∨ (s.W = u.W ∧ ¬ s.H = u.H) ∨ (s.W = u.W ∧ s.H = u.H ∧ ¬ s.C = u.C) ∨ (s.W = u.W ∧ s.H = u.H ∧ s.C = u.C ∧ ¬ s.D = u.D))) := by
  unfold TV.alike at h
  omega
set_option maxRecDepth 100000 in
set_option maxHeartbeats 1000000 in
theorem merge_shape (o a b : TV) (w : World) (ho : TOk w o) (ha : TOk w a) (hb : TOk w b) (hm : [o, a, b].all TV.may = true) (hs : ¬ (o.alike a ∧ o.alike b)) :
    Calls Try.prog 11 #[o.val, a.val, b.val] w fun e w' => e = .returned (.tuple #[ras 0 0 0 0 Option.none 0 0, .slice Option.none 0 0, .int .i64 13]) ∧ Below w.heap.size w w' := by
  obtain ⟨w4, hw4, x1, x2, x3, x4, b4, s4⟩ := four_boxes w o a b 26
  obtain ⟨w5, hw5, tl, b5⟩ := tlist3 w4 o a b 26
  have HM := Lib.hid (fun (w' : World) (h : TList w' w4.heap.size 3 [o, a, b]) (h2 : ∀ t ∈ [o, a, b], TOk w' t) => by have := joinMay_any w4.heap.size 3 [o, a, b] w' h (by decide) h2; rw [hm] at this; exact this)
  have TL := Lib.hid tl; have B5 := Lib.hid (below_size b4 b5); have X1 := Lib.hid x1; have X2 := Lib.hid x2; have X3 := Lib.hid x3; have X4 := Lib.hid (x4.below b5)
  have Y1 := Lib.hid (x1.below b5); have Y2 := Lib.hid (x2.below b5); have Y3 := Lib.hid (x3.below b5)
  have OK := Lib.hid (show ∀ t ∈ [o, a, b], TOk w5 t by
    intro t ht
    simp only [List.mem_cons, List.not_mem_nil, or_false] at ht
    rcases ht with rfl | rfl | rfl
    · exact (ho.below b4).below b5
    · exact (ha.below b4).below b5
    · exact (hb.below b4).below b5)
  have HW4 := Lib.hid hw4; have HW5 := Lib.hid hw5; have S4 := Lib.hid s4; have HS := Lib.hid hs
  clear hw4 hw5 x1 x2 x3 x4 b4 s4 tl b5 hm ho ha hb hs
  go_enter Try.func11, Try.ntmps11
  go_upto_region 1 with (fail)
  rw [HW4.out]
  have c0 := X1.out.box.c0; have c1 := X1.out.box.c1; have c2 := X1.out.box.c2; have c3 := X1.out.box.c3; have c4 := X1.out.c4
  have d0 := X2.out.box.c0; have d1 := X2.out.box.c1; have d2 := X2.out.box.c2; have d3 := X2.out.box.c3; have d4 := X2.out.c4
  have e0 := X3.out.box.c0; have e1 := X3.out.box.c1; have e2 := X3.out.box.c2; have e3 := X3.out.box.c3; have e4 := X3.out.c4
  go_wp2_with fail
  rw [HW5.out]
  refine (HM.out w5 TL.out OK.out).mono ?_; rintro e w6 ⟨rfl, b6⟩
  clear c0 c1 c2 c3 c4 d0 d1 d2 d3 d4 e0 e1 e2 e3 e4
  have X6 := Lib.hid (X4.out.below b6)
  have Y6 := Lib.hid (Y1.out.below b6); have Z6 := Lib.hid (Y2.out.below b6); have V6 := Lib.hid (Y3.out.below b6)
  have B6 := Lib.hid (below_size B5.out b6)
  clear b6
  go_upto_region 3 with (fail)
  have c0 := X6.out.box.c0; have c1 := X6.out.box.c1; have c2 := X6.out.box.c2; have c3 := X6.out.box.c3; have c4 := X6.out.c4; have f0 := X6.out.box.f0; have f1 := X6.out.box.f1; have f2 := X6.out.box.f2; have f3 := X6.out.box.f3; have f4 := X6.out.f4
  have d0 := Y6.out.box.c0; have d1 := Y6.out.box.c1; have d2 := Y6.out.box.c2; have d3 := Y6.out.box.c3; have d4 := Y6.out.c4
  have e0 := Z6.out.box.c0; have e1 := Z6.out.box.c1; have e2 := Z6.out.box.c2; have e3 := Z6.out.box.c3; have e4 := Z6.out.c4
  have g0 := V6.out.box.c0; have g1 := V6.out.box.c1; have g2 := V6.out.box.c2; have g3 := V6.out.box.c3; have g4 := V6.out.c4
  have hs := alike_no HS.out
  clear HS HM OK TL
  rcases hs with h1 | ⟨h1, h2⟩ | ⟨h1, h2, h3⟩ | ⟨h1, h2, h3, h4⟩ | ⟨⟨k1, k2, k3, k4⟩, h1 | ⟨h1, h2⟩ | ⟨h1, h2, h3⟩ | ⟨h1, h2, h3, h4⟩⟩
  all_goals
    go_wp2_with fail
    refine bodyPost_ret (results_tree3 rfl _ _ _ rfl (X6.out.set 0 0 0 0 Option.none 0 0)) rfl ⟨rfl, ?_⟩
    exact ((((B6.out.setCell (by simp <;> omega) _).setCell (by simp <;> omega) _).setCell (by simp <;> omega) _).setCell (by simp <;> omega) _).setCell (by simp <;> omega) _
end Go.Proofs.Ytbmbelnjgnahhaa
