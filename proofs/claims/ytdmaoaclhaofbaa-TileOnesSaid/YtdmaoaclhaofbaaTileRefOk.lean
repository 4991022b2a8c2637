/-
  aquref9.TileShape of a tile that is there.
-/
import Derived.Test.YtdmaoaclhaofbaaTileRef
namespace Go.Proofs.Ytdmaoaclhaofbaa
open Go.RowKit

theorem box_far {w : World} {g : Nat} {W H C D : Int} (h : Box w g W H C D) (b i : Nat) (v : Value) (hb : b ≠ g) : Box (w.setCell ⟨b, i, Option.none⟩ v) g W H C D := by
  have hk := Below.heap_setCell w ⟨b, i, Option.none⟩ v g (fun e => hb e.symm)
  refine ⟨by simpa using h.lt, ?_, ?_, ?_, ?_, ?_, ?_, ?_, ?_⟩
  · exact (World.cell?_of_block (a := ⟨g, 0, Option.none⟩) hk).trans h.c0
  · exact (World.cell?_of_block (a := ⟨g, 1, Option.none⟩) hk).trans h.c1
  · exact (World.cell?_of_block (a := ⟨g, 2, Option.none⟩) hk).trans h.c2
  · exact (World.cell?_of_block (a := ⟨g, 3, Option.none⟩) hk).trans h.c3
  · exact (World.frozen?_of_block (a := ⟨g, 0, Option.none⟩) hk).trans h.f0
  · exact (World.frozen?_of_block (a := ⟨g, 1, Option.none⟩) hk).trans h.f1
  · exact (World.frozen?_of_block (a := ⟨g, 2, Option.none⟩) hk).trans h.f2
  · exact (World.frozen?_of_block (a := ⟨g, 3, Option.none⟩) hk).trans h.f3
theorem box_two {w : World} {g : Nat} {W H C D : Int} (h : Box w g W H C D) (a b : Int) : Box ((w.setCell ⟨g, 0, Option.none⟩ (.int .i64 a)).setCell ⟨g, 1, Option.none⟩ (.int .i64 b)) g a b C D := by
  refine ⟨by simpa using h.lt, ?_, ?_, ?_, ?_, ?_, ?_, ?_, ?_⟩
  · rw [World.cell?_setCell_other _ _ _ _ (by simp)]; exact World.cell?_setCell_same _ _ _ h.c0
  · exact World.cell?_setCell_same _ _ _ (by rw [World.cell?_setCell_other _ _ _ _ (by simp)]; exact h.c1)
  · rw [World.cell?_setCell_other _ _ _ _ (by simp), World.cell?_setCell_other _ _ _ _ (by simp)]; exact h.c2
  · rw [World.cell?_setCell_other _ _ _ _ (by simp), World.cell?_setCell_other _ _ _ _ (by simp)]; exact h.c3
  · rw [World.frozen?_setCell, World.frozen?_setCell]; exact h.f0
  · rw [World.frozen?_setCell, World.frozen?_setCell]; exact h.f1
  · rw [World.frozen?_setCell, World.frozen?_setCell]; exact h.f2
  · rw [World.frozen?_setCell, World.frozen?_setCell]; exact h.f3

set_option maxRecDepth 100000 in
set_option maxHeartbeats 2000000 in
theorem rshape_ok (W H C D : Int) (i : Nat) (w : World) (hm : mayN W H C D = true) (hi : i < tN W H) :
    Calls Try.prog 16 #[shp W H C D, .int .i64 i] w fun e w' => e = .returned (.tuple #[shp (tileW W i) (tileH W H i) C D, .int .i64 0]) ∧ Below w.heap.size w w' := by
  have hbn := (bnds_of_may hm).1
  obtain ⟨a1, a2, a3, a4, a5⟩ := tN_bd hbn
  have hb0 := (box_alloc w W H C D 23).below ((Below.refl _ _).alloc (Nat.le_refl _) (.cells #[.int .i64 0, .int .i64 0, .int .i64 0, .int .i64 0] 23))
  have hz0 := box_alloc (w.alloc (.cells #[.int .i64 W, .int .i64 H, .int .i64 C, .int .i64 D] 23)) 0 0 0 0 23
  rw [World.size_alloc] at hz0
  have hbl : Below w.heap.size w ((w.alloc (.cells #[.int .i64 W, .int .i64 H, .int .i64 C, .int .i64 D] 23)).alloc (.cells #[.int .i64 0, .int .i64 0, .int .i64 0, .int .i64 0] 23)) := ((Below.refl _ _).alloc (Nat.le_refl _) _).alloc (by simp) _
  have HB := Lib.hid hb0; have HZ := Lib.hid hz0; have HL := Lib.hid hbl
  have cg := fun w' => rgrid_may W H C D w' hm
  rw [← a1, ← a2] at cg
  have HG := Lib.hid cg
  have q1 : IntKind.i64.wrap ((tA W : Int) * (tA H : Int)) = (tN W H : Nat) := by rw [← Int.natCast_mul]; exact Go.IntWalk.i64_in _ (by have : tA W * tA H = tN W H := rfl; rw [this]; omega)
  have hA1 : 1 ≤ tA W ∧ tA W ≤ 32 := by have := hbn.1; have := hbn.2.1; omega
  have z1 : ((tA W : Int) == 0) = false := by simp; omega
  have htw : tileW W i = min 8 (W - ((i % tA W : Nat) : Int) * 8) := by unfold tileW; rw [← a1, ← Int.natCast_emod]
  have hth : tileH W H i = min 8 (H - ((i / tA W : Nat) : Int) * 8) := by unfold tileH; rw [← a1, ← Int.natCast_ediv]
  have m1 : i % tA W < tA W := Nat.mod_lt _ hA1.1
  have d1 : i / tA W ≤ i := Nat.div_le_self _ _
  have d2 : i / tA W < 1024 := by omega
  have hWb := hbn.1; have hWc := hbn.2.1; have hHb := hbn.2.2.1; have hHc := hbn.2.2.2.1
  have tm : Int.tmod (i : Int) (tA W : Int) = ((i % tA W : Nat) : Int) := by rw [Int.tmod_eq_emod_of_nonneg (by omega)]; simp
  have td : Int.tdiv (i : Int) (tA W : Int) = ((i / tA W : Nat) : Int) := by rw [Int.tdiv_eq_ediv_of_nonneg (by omega)]; simp
  have em : (i : Int) % (tA W : Int) = ((i % tA W : Nat) : Int) := by simp
  have ed : (i : Int) / (tA W : Int) = ((i / tA W : Nat) : Int) := by simp
  rw [htw, hth]
  have hi2 : decide ((tN W H : Int) ≤ i) = false := by simp; omega
  have hi3 : (i : Int) < tN W H := by omega
  have hi4 : i < 1024 := by omega
  generalize i % tA W = qx at *
  generalize i / tA W = qy at *
  generalize tA W = A at *
  generalize tN W H = N at *
  have w1 : IntKind.i64.wrap ((qx : Int) * 8) = (qx : Int) * 8 := Go.IntWalk.i64_in _ (by omega)
  have w2 : IntKind.i64.wrap ((qy : Int) * 8) = (qy : Int) * 8 := Go.IntWalk.i64_in _ (by omega)
  have w3 : IntKind.i64.wrap (W - (qx : Int) * 8) = W - (qx : Int) * 8 := Go.IntWalk.i64_in _ (by omega)
  have w4 : IntKind.i64.wrap (H - (qy : Int) * 8) = H - (qy : Int) * 8 := Go.IntWalk.i64_in _ (by omega)
  obtain ⟨X, hX⟩ : ∃ X, W - (qx : Int) * 8 = X := ⟨_, rfl⟩
  obtain ⟨Y, hY⟩ : ∃ Y, H - (qy : Int) * 8 = Y := ⟨_, rfl⟩
  replace w3 : IntKind.i64.wrap (W - (qx : Int) * 8) = X := w3.trans hX
  replace w4 : IntKind.i64.wrap (H - (qy : Int) * 8) = Y := w4.trans hY
  have hA0 : ¬ (A : Int) = 0 := by omega
  have hA9 : ¬ A = 0 := by omega
  have hA8 : ¬ (A : Int) = -1 := by omega
  have w6 : IntKind.i64.wrap (qy : Int) = qy := Go.IntWalk.i64_in _ (by omega)
  rw [hX, hY]
  have c0 := hb0.c0; have c1 := hb0.c1; have c2 := hb0.c2; have c3 := hb0.c3
  clear hb0 hz0 hbl hm cg a1 a2 a3 htw hth hbn hi hX hY m1 d1
  obtain ⟨TW, hTW⟩ : ∃ t, min (8 : Int) X = t := ⟨_, rfl⟩
  obtain ⟨TH, hTH⟩ : ∃ t, min (8 : Int) Y = t := ⟨_, rfl⟩
  rw [hTW, hTH]
  have hx : (if X < 8 then X else 8) = TW := by rw [← hTW]; split <;> omega
  have hy : (if Y < 8 then Y else 8) = TH := by rw [← hTH]; split <;> omega
  have HTW := Lib.hid hTW; have HTH := Lib.hid hTH; have HX := Lib.hid hx; have HY := Lib.hid hy
  clear hTW hTH hx hy
  focus
    go_enter Try.func16, Try.ntmps16
    go_wp2_with fail
    refine (HG.out _).mono ?_; rintro e v1 ⟨rfl, bb⟩
    clear c0 c1 c2 c3
    replace HB := Lib.hid (HB.out.below bb)
    replace HZ := Lib.hid (HZ.out.below bb)
    replace HL := Lib.hid (below_size HL.out bb)
    clear bb
    have c0 := HB.out.c0; have c1 := HB.out.c1; have c2 := HB.out.c2; have c3 := HB.out.c3
    go_wp2_with fail
    have ht0 := box_alloc v1 W H C D 23
    have ha : Below v1.heap.size v1 (v1.alloc (.cells #[.int .i64 W, .int .i64 H, .int .i64 C, .int .i64 D] 23)) := (Below.refl _ _).alloc (Nat.le_refl _) _
    have hgz := HZ.out.lt
    have hgb := HB.out.lt
    have HB2 := Lib.hid (HB.out.below ha)
    have HZ2 := Lib.hid (HZ.out.below ha)
    have HL2 := Lib.hid (below_size HL.out ha)
    have HT := Lib.hid ht0
    clear c0 c1 c2 c3 ht0 ha HB HZ HL
    generalize v1.alloc (.cells #[.int .i64 W, .int .i64 H, .int .i64 C, .int .i64 D] 23) = v2 at *
    generalize v1.heap.size = gt at *
    have k0 : v2.drew.cell? ⟨gt, 0, Option.none⟩ = some (.int .i64 W) := HT.out.c0
    have f0 : v2.drew.frozen? ⟨gt, 0, Option.none⟩ = false := HT.out.f0
    have k1' : ∀ v, (v2.setCell ⟨gt, 0, Option.none⟩ v).drew.cell? ⟨gt, 1, Option.none⟩ = some (.int .i64 H) := fun v => (World.cell?_setCell_other v2 _ _ v (by simp)).trans HT.out.c1
    have f1' : ∀ v, (v2.setCell ⟨gt, 0, Option.none⟩ v).drew.frozen? ⟨gt, 1, Option.none⟩ = false := fun v => by show (v2.setCell _ _).frozen? _ = false; rw [World.frozen?_setCell]; exact HT.out.f1
    have k1 : ∀ v, (v2.drew.setCell ⟨gt, 0, Option.none⟩ v).cell? ⟨gt, 1, Option.none⟩ = some (.int .i64 H) := fun v => by rw [World.cell?_setCell_other _ _ _ _ (by simp)]; exact HT.out.c1
    have f1 : ∀ v, (v2.drew.setCell ⟨gt, 0, Option.none⟩ v).frozen? ⟨gt, 1, Option.none⟩ = false := fun v => by rw [World.frozen?_setCell]; exact HT.out.f1
    have Keep : Hid (∀ w' : World, w'.heap[w.heap.size]? = v2.heap[w.heap.size]? → w'.cell? ⟨w.heap.size, 0, Option.none⟩ = some (.int .i64 W) ∧ w'.cell? ⟨w.heap.size, 1, Option.none⟩ = some (.int .i64 H)) := Lib.hid fun w' e => ⟨(World.cell?_of_block (a := ⟨w.heap.size, 0, Option.none⟩) e).trans HB2.out.c0, (World.cell?_of_block (a := ⟨w.heap.size, 1, Option.none⟩) e).trans HB2.out.c1⟩
    have e0 : v2.drew.heap[w.heap.size]? = v2.heap[w.heap.size]? := rfl
    have hne : w.heap.size ≠ gt := by omega
    have hdrew : ∀ x : World, x.drew.heap = x.heap := fun _ => rfl
    go_region_held3 (fun w' => w'.cell? ⟨w.heap.size, 0, Option.none⟩ = some (.int .i64 W) ∧ w'.cell? ⟨w.heap.size, 1, Option.none⟩ = some (.int .i64 H))
      (first | (refine Keep.out _ ?_; first | with_reducible exact e0 | (simp only [hdrew]; rw [Below.heap_setCell _ _ _ _ hne]; done) | (simp only [hdrew]; rw [Below.heap_setCell _ _ _ _ hne, Below.heap_setCell _ _ _ _ hne]; done))) (fail)
    all_goals
      rw [HX.out, HY.out]
      have ht3 := (box_two HT.out TW TH).drew
      have hz3 := (box_far (box_far HZ2.out gt 0 (.int .i64 TW) (by omega)) gt 1 (.int .i64 TH) (by omega)).drew
      have hl3 := ((HL2.out.setCell (p := ⟨gt, 0, Option.none⟩) (by show w.heap.size ≤ gt; omega) (.int .i64 TW)).setCell (p := ⟨gt, 1, Option.none⟩) (by show w.heap.size ≤ gt; omega) (.int .i64 TH)).drew
      generalize ((v2.setCell ⟨gt, 0, Option.none⟩ (.int .i64 TW)).setCell ⟨gt, 1, Option.none⟩ (.int .i64 TH)).drew = v3 at *
      clear k0 f0 k1 f1 k1' f1' e0 Keep w1 w2 w3 w4 w6 tm td em ed
      have c0 := ht3.c0; have c1 := ht3.c1; have c2 := ht3.c2; have c3 := ht3.c3
      have d0 := hz3.c0; have d1 := hz3.c1; have d2 := hz3.c2; have d3 := hz3.c3; have f0 := hz3.f0; have f1 := hz3.f1; have f2 := hz3.f2; have f3 := hz3.f3
      have HZ3 := Lib.hid hz3; have HL3 := Lib.hid hl3
      clear hz3 ht3 hl3
      go_wp2_with fail
      refine bodyPost_ret (results_shp rfl _ _ _ rfl (HZ3.out.set TW TH C D)) rfl ?_
      exact ⟨rfl, (((HL3.out.setCell (by simp) _).setCell (by simp) _).setCell (by simp) _).setCell (by simp) _⟩
end Go.Proofs.Ytdmaoaclhaofbaa
