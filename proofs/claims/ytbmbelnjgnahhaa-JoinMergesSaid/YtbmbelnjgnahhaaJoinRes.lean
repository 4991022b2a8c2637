/-
  join.Resolve.
-/
import Derived.Test.YtbmbelnjgnahhaaJoinOut
import Derived.BigQuiet
namespace Go.Proofs.Ytbmbelnjgnahhaa
open Go.RowKit

theorem three_boxes0 (w : World) (o a : TV) (T : TypeId) : ∃ w3, ((w.alloc (.cells (treeC o) T)).alloc (.cells (treeC a) T)).alloc (.cells nulC T) = w3 ∧
    TBox w3 w.heap.size o ∧ TBox w3 (w.heap.size + 1) a ∧ RBox w3 (w.heap.size + 1 + 1) 0 0 0 0 Option.none 0 0 ∧ Below w.heap.size w w3 ∧ w3.heap.size = w.heap.size + 3 := by
  have al := fun (w : World) (x : Obj) => (Below.refl w.heap.size w).alloc (Nat.le_refl _) x
  have b1 := ((rbox_alloc w o.W o.H o.C o.D o.a o.n o.cap T).below (al _ (.cells (treeC a) T))).below (al _ (.cells nulC T))
  have b2 := (rbox_alloc (w.alloc (.cells (treeC o) T)) a.W a.H a.C a.D a.a a.n a.cap T).below (al _ (.cells nulC T))
  have b3 := rbox_alloc ((w.alloc (.cells (treeC o) T)).alloc (.cells (treeC a) T)) 0 0 0 0 Option.none 0 0 T
  simp only [World.size_alloc] at b2 b3
  exact ⟨_, rfl, b1, b2, b3, below_size (below_size (al _ _) (al _ _)) (al _ _), by simp⟩
/-- Two trees side by side. -/
theorem tlist2 (w : World) (o a : TV) (T : TypeId) : ∃ w5, w.alloc (.cells #[.int .i64 o.W, .int .i64 o.H, .int .i64 o.C, .int .i64 o.D, .slice o.a o.n o.cap, .int .i64 a.W, .int .i64 a.H, .int .i64 a.C, .int .i64 a.D, .slice a.a a.n a.cap] T) = w5 ∧
    TList w5 w.heap.size 2 [o, a] ∧ Below w.heap.size w w5 := by
  have hh : (w.alloc (.cells #[.int .i64 o.W, .int .i64 o.H, .int .i64 o.C, .int .i64 o.D, .slice o.a o.n o.cap, .int .i64 a.W, .int .i64 a.H, .int .i64 a.C, .int .i64 a.D, .slice a.a a.n a.cap] T)).heap[w.heap.size]? = some (.cells #[.int .i64 o.W, .int .i64 o.H, .int .i64 o.C, .int .i64 o.D, .slice o.a o.n o.cap, .int .i64 a.W, .int .i64 a.H, .int .i64 a.C, .int .i64 a.D, .slice a.a a.n a.cap] T) := by
    show (w.heap.push _)[w.heap.size]? = _
    simp
  refine ⟨_, rfl, ⟨rfl, by simp, ?_, ?_, ?_, ?_, ?_⟩, (Below.refl _ _).alloc (Nat.le_refl _) _⟩
  all_goals
    intro i hi
    unfold World.cell?
    rw [show (w.alloc (.cells _ T)).heap[(⟨w.heap.size, _, Option.none⟩ : Addr).block]? = _ from hh]
    rcases (by omega : i = 0 ∨ i = 1) with rfl | rfl <;> rfl

set_option maxRecDepth 100000 in
set_option maxHeartbeats 1000000 in
theorem resolve_form (o a : TV) (am : Option Addr) (nm cm : Nat) (w : World) (ho : TOk w o) (ha : TOk w a) (hm : [o, a].all TV.may = false) :
    Calls Try.prog 14 #[o.val, .slice am nm cm, a.val] w fun e w' => e = .returned (.tuple #[ras 0 0 0 0 Option.none 0 0, .int .i64 4]) ∧ Below w.heap.size w w' := by
  obtain ⟨w4, hw4, x1, x2, x4, b4, s4⟩ := three_boxes0 w o a 26
  obtain ⟨w5, hw5, tl, b5⟩ := tlist2 w4 o a 26
  have HM := Lib.hid (fun (w' : World) (h : TList w' w4.heap.size 2 [o, a]) (h2 : ∀ t ∈ [o, a], TOk w' t) => by have := joinMay_any w4.heap.size 2 [o, a] w' h (by decide) h2; rw [hm] at this; exact this)
  have TL := Lib.hid tl; have B5 := Lib.hid (below_size b4 b5); have X1 := Lib.hid x1; have X2 := Lib.hid x2; have X4 := Lib.hid (x4.below b5)
  have OK := Lib.hid (show ∀ t ∈ [o, a], TOk w5 t by
    intro t ht
    simp only [List.mem_cons, List.not_mem_nil, or_false] at ht
    rcases ht with rfl | rfl
    · exact (ho.below b4).below b5
    · exact (ha.below b4).below b5)
  have HW4 := Lib.hid hw4; have HW5 := Lib.hid hw5; have S4 := Lib.hid s4
  clear hw4 hw5 x1 x2 x4 b4 s4 tl b5 hm ho ha
  go_enter Try.func14, Try.ntmps14
  go_upto_region 1 with (fail)
  rw [HW4.out]
  have c0 := X1.out.box.c0; have c1 := X1.out.box.c1; have c2 := X1.out.box.c2; have c3 := X1.out.box.c3; have c4 := X1.out.c4
  have d0 := X2.out.box.c0; have d1 := X2.out.box.c1; have d2 := X2.out.box.c2; have d3 := X2.out.box.c3; have d4 := X2.out.c4
  go_wp2_with fail
  rw [HW5.out]
  refine (HM.out w5 TL.out OK.out).mono ?_; rintro e w6 ⟨rfl, b6⟩
  clear c0 c1 c2 c3 c4 d0 d1 d2 d3 d4
  have X6 := Lib.hid (X4.out.below b6)
  have B6 := Lib.hid (below_size B5.out b6)
  clear b6
  have c0 := X6.out.box.c0; have c1 := X6.out.box.c1; have c2 := X6.out.box.c2; have c3 := X6.out.box.c3; have c4 := X6.out.c4; have f0 := X6.out.box.f0; have f1 := X6.out.box.f1; have f2 := X6.out.box.f2; have f3 := X6.out.box.f3; have f4 := X6.out.f4
  go_wp2_with fail
  refine bodyPost_ret (results_tree2 rfl _ _ _ rfl (X6.out.set 0 0 0 0 Option.none 0 0)) rfl ⟨rfl, ?_⟩
  exact ((((B6.out.setCell (by simp <;> omega) _).setCell (by simp <;> omega) _).setCell (by simp <;> omega) _).setCell (by simp <;> omega) _).setCell (by simp <;> omega) _

theorem alike_no1 {s t : TV} (h : ¬ s.alike t) : (¬ s.W = t.W) ∨ (s.W = t.W ∧ ¬ s.H = t.H) ∨ (s.W = t.W ∧ s.H = t.H ∧ ¬ s.C = t.C) ∨ (s.W = t.W ∧ s.H = t.H ∧ s.C = t.C ∧ ¬ s.D = t.D) := by
  unfold TV.alike at h
  omega
set_option maxRecDepth 100000 in
set_option maxHeartbeats 1000000 in
theorem resolve_shape (o a : TV) (am : Option Addr) (nm cm : Nat) (w : World) (ho : TOk w o) (ha : TOk w a) (hm : [o, a].all TV.may = true) (hs : ¬ (o.alike a ∧ nm = o.n)) :
    Calls Try.prog 14 #[o.val, .slice am nm cm, a.val] w fun e w' => e = .returned (.tuple #[ras 0 0 0 0 Option.none 0 0, .int .i64 13]) ∧ Below w.heap.size w w' := by
  obtain ⟨w4, hw4, x1, x2, x4, b4, s4⟩ := three_boxes0 w o a 26
  obtain ⟨w5, hw5, tl, b5⟩ := tlist2 w4 o a 26
  have HM := Lib.hid (fun (w' : World) (h : TList w' w4.heap.size 2 [o, a]) (h2 : ∀ t ∈ [o, a], TOk w' t) => by have := joinMay_any w4.heap.size 2 [o, a] w' h (by decide) h2; rw [hm] at this; exact this)
  have TL := Lib.hid tl; have B5 := Lib.hid (below_size b4 b5); have X1 := Lib.hid x1; have X2 := Lib.hid x2; have X4 := Lib.hid (x4.below b5)
  have Y1 := Lib.hid (x1.below b5); have Y2 := Lib.hid (x2.below b5)
  have OK := Lib.hid (show ∀ t ∈ [o, a], TOk w5 t by
    intro t ht
    simp only [List.mem_cons, List.not_mem_nil, or_false] at ht
    rcases ht with rfl | rfl
    · exact (ho.below b4).below b5
    · exact (ha.below b4).below b5)
  have HW4 := Lib.hid hw4; have HW5 := Lib.hid hw5; have S4 := Lib.hid s4; have HS := Lib.hid hs
  clear hw4 hw5 x1 x2 x4 b4 s4 tl b5 hm ho ha hs
  go_enter Try.func14, Try.ntmps14
  go_upto_region 1 with (fail)
  rw [HW4.out]
  have c0 := X1.out.box.c0; have c1 := X1.out.box.c1; have c2 := X1.out.box.c2; have c3 := X1.out.box.c3; have c4 := X1.out.c4
  have d0 := X2.out.box.c0; have d1 := X2.out.box.c1; have d2 := X2.out.box.c2; have d3 := X2.out.box.c3; have d4 := X2.out.c4
  go_wp2_with fail
  rw [HW5.out]
  refine (HM.out w5 TL.out OK.out).mono ?_; rintro e w6 ⟨rfl, b6⟩
  clear c0 c1 c2 c3 c4 d0 d1 d2 d3 d4
  have X6 := Lib.hid (X4.out.below b6)
  have Y6 := Lib.hid (Y1.out.below b6); have Z6 := Lib.hid (Y2.out.below b6)
  have B6 := Lib.hid (below_size B5.out b6)
  clear b6
  go_upto_region 3 with (fail)
  have c0 := X6.out.box.c0; have c1 := X6.out.box.c1; have c2 := X6.out.box.c2; have c3 := X6.out.box.c3; have c4 := X6.out.c4; have f0 := X6.out.box.f0; have f1 := X6.out.box.f1; have f2 := X6.out.box.f2; have f3 := X6.out.box.f3; have f4 := X6.out.f4
  have d0 := Y6.out.box.c0; have d1 := Y6.out.box.c1; have d2 := Y6.out.box.c2; have d3 := Y6.out.box.c3; have d4 := Y6.out.c4
  have e0 := Z6.out.box.c0; have e1 := Z6.out.box.c1; have e2 := Z6.out.box.c2; have e3 := Z6.out.box.c3; have e4 := Z6.out.c4
  have hs : (¬ o.W = a.W) ∨ (o.W = a.W ∧ ¬ o.H = a.H) ∨ (o.W = a.W ∧ o.H = a.H ∧ ¬ o.C = a.C) ∨ (o.W = a.W ∧ o.H = a.H ∧ o.C = a.C ∧ ¬ o.D = a.D) ∨ ((o.W = a.W ∧ o.H = a.H ∧ o.C = a.C ∧ o.D = a.D) ∧ ¬ nm = o.n) := by
    by_cases h : o.alike a
    · exact .inr (.inr (.inr (.inr ⟨h, fun e => HS.out ⟨h, e⟩⟩)))
    · rcases alike_no1 h with h | h | h | h
      · exact .inl h
      · exact .inr (.inl h)
      · exact .inr (.inr (.inl h))
      · exact .inr (.inr (.inr (.inl h)))
  clear HS HM OK TL
  rcases hs with h1 | ⟨h1, h2⟩ | ⟨h1, h2, h3⟩ | ⟨h1, h2, h3, h4⟩ | ⟨⟨k1, k2, k3, k4⟩, h0⟩
  case' inr.inr.inr.inr => have h1 : ¬ (nm : Int) = o.n := by omega
  all_goals
    go_wp2_with fail
    refine bodyPost_ret (results_tree2 rfl _ _ _ rfl (X6.out.set 0 0 0 0 Option.none 0 0)) rfl ⟨rfl, ?_⟩
    exact ((((B6.out.setCell (by simp <;> omega) _).setCell (by simp <;> omega) _).setCell (by simp <;> omega) _).setCell (by simp <;> omega) _).setCell (by simp <;> omega) _
end Go.Proofs.Ytbmbelnjgnahhaa
