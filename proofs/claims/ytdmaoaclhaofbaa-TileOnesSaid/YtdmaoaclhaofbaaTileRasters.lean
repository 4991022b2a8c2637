/-
  aquref.Rasters of two lists that hold the same pictures.
-/
import Derived.Test.YtdmaoaclhaofbaaTileFew
namespace Go.Proofs.Ytdmaoaclhaofbaa
open Go.RowKit

/-- A list of pictures that a call made, as it reads. -/
def LRas (w : World) (base g n cap : Nat) (ts : List Til) : Prop := ∃ vs, w.ownsRow base 26 5 (.slice (some ⟨g, 0, Option.none⟩) n cap) n vs ∧ HasT w base g vs ts
theorem LRas.below {w w' : World} {base g n cap : Nat} {ts : List Til} (h : LRas w base g n cap ts) (hb : Below w.heap.size w w') : LRas w' base g n cap ts := by
  obtain ⟨vs, ho, ht⟩ := h
  exact ⟨vs, owns_keep ho (fun r hr => hb.block r (ho.lt r hr).2), ht.keep (fun r hr _ => hb.block r hr) (fun k _ => rfl)⟩
theorem LRas.at {w : World} {base g n cap : Nat} {ts : List Til} (h : LRas w base g n cap ts) (hl : ts.length = n) (j : Nat) (hj : j < n) : ∃ q c, g < w.heap.size ∧ w.cell? ⟨g, j * 5, Option.none⟩ = some (.int .i64 (ts[j]'(by omega)).1.1) ∧ w.cell? ⟨g, j * 5 + 1, Option.none⟩ = some (.int .i64 (ts[j]'(by omega)).1.2.1) ∧ w.cell? ⟨g, j * 5 + 2, Option.none⟩ = some (.int .i64 (ts[j]'(by omega)).1.2.2.1) ∧
    w.cell? ⟨g, j * 5 + 3, Option.none⟩ = some (.int .i64 (ts[j]'(by omega)).1.2.2.2) ∧ w.cell? ⟨g, j * 5 + 4, Option.none⟩ = some (.slice (some ⟨q, 0, Option.none⟩) (ts[j]'(by omega)).2.length c) ∧ Reads .u8 w (some ⟨q, 0, Option.none⟩) (ts[j]'(by omega)).2.length c (ts[j]'(by omega)).2 := by
  obtain ⟨vs, ho, ht⟩ := h
  obtain ⟨q, c, v0, v1, v2, v3, v4, _, hp⟩ := ht j (by omega)
  exact ⟨q, c, (ho.lt g rfl).2, (ho.cellAt _ (by omega)).trans v0, (ho.cellAt _ (by omega)).trans v1, (ho.cellAt _ (by omega)).trans v2, (ho.cellAt _ (by omega)).trans v3, (ho.cellAt _ (by omega)).trans v4, reads_of_owns hp⟩

set_option maxRecDepth 100000 in
set_option maxHeartbeats 1000000 in
theorem rasters_any (b1 b2 g g' n c c' : Nat) (ts : List Til) (w : World) (h1 : LRas w b1 g n c ts) (h2 : LRas w b2 g' n c' ts) (hl : ts.length = n) (hn : n ≤ 1000000) (hB : ∀ t ∈ ts, isB t.2) :
    Calls Try.prog 17 #[.slice (some ⟨g, 0, Option.none⟩) n c, .slice (some ⟨g', 0, Option.none⟩) n c'] w fun e w' => e = .returned (.bool true) ∧ Below w.heap.size w w' := by
  have H1 := Lib.hid h1; have H2 := Lib.hid h2; have HB := Lib.hid hB
  clear h1 h2 hB
  go_enter Try.func17, Try.ntmps17
  go_wp2_with fail
  go_loopw [5] (fun vi wr => ∃ i : Nat, i ≤ n ∧ vi = .int .i64 i ∧ Below w.heap.size w wr) (fun vi _ => n - (intOf vi).toNat)
  case atStart => exact ⟨0, Nat.zero_le _, rfl, Below.refl _ _⟩
  case round =>
    obtain ⟨i, hi, rfl, hb⟩ := hrel
    by_cases hlt : i < n
    · obtain ⟨q, k, l1, v0, v1, v2, v3, v4, hr⟩ := (H1.out.below hb).at hl i hlt
      obtain ⟨q', k', l2, u0, u1, u2, u3, u4, hr'⟩ := (H2.out.below hb).at hl i hlt
      have hib := HB.out _ (List.getElem_mem (by omega : i < ts.length))
      generalize (ts[i]'(by omega)) = t at *
      obtain ⟨⟨W, H, C, D⟩, xs⟩ := t
      dsimp only at v0 v1 v2 v3 v4 u0 u1 u2 u3 u4 hr hr' hib
      have crs := fun (x : GrownW wr) => eqRaster_any W H C D W H C D _ _ _ _ _ _ xs xs x.val (hr.below x.below) (hr'.below x.below) hib hib
      rw [eqR_self] at crs
      have CRS := Lib.hid crs
      have HBL := Lib.hid hb
      have a0 := fun x : GrownW wr => x.cell (a := ⟨g, i * 5, Option.none⟩) l1 v0
      have a1 := fun x : GrownW wr => x.cell (a := ⟨g, i * 5 + 1, Option.none⟩) l1 v1
      have a2 := fun x : GrownW wr => x.cell (a := ⟨g, i * 5 + 2, Option.none⟩) l1 v2
      have a3 := fun x : GrownW wr => x.cell (a := ⟨g, i * 5 + 3, Option.none⟩) l1 v3
      have a4 := fun x : GrownW wr => x.cell (a := ⟨g, i * 5 + 4, Option.none⟩) l1 v4
      have d0 := fun x : GrownW wr => x.cell (a := ⟨g', i * 5, Option.none⟩) l2 u0
      have d1 := fun x : GrownW wr => x.cell (a := ⟨g', i * 5 + 1, Option.none⟩) l2 u1
      have d2 := fun x : GrownW wr => x.cell (a := ⟨g', i * 5 + 2, Option.none⟩) l2 u2
      have d3 := fun x : GrownW wr => x.cell (a := ⟨g', i * 5 + 3, Option.none⟩) l2 u3
      have d4 := fun x : GrownW wr => x.cell (a := ⟨g', i * 5 + 4, Option.none⟩) l2 u4
      have i9 : (i : Int) < n := by omega
      have i8 : (0 : Int) ≤ i := by omega
      clear v0 v1 v2 v3 v4 u0 u1 u2 u3 u4 crs hr hr' hb
      go_wp2_with fail
      refine wp_region_grow_lit (by kernel_rfl) (by kernel_rfl) ?_
      repeat (go_big_quiet_step (first
        | (go_at_call 19; exact grow_call (CRS.out _))))
      refine wpQuiet_nil ?_
      intro wg hw'
      obtain ⟨⟨wz, hbg⟩, hw''⟩ := hw'
      subst hw''
      clear a0 a1 a2 a3 a4 d0 d1 d2 d3 d4
      go_wp2_with fail
      go_roundw
      case rel => exact ⟨i + 1, by omega, by go_num, below_size HBL.out hbg⟩
      case measure => simp [intOf]; omega
    · go_wp2_with fail
      go_ret
      exact ⟨rfl, hb⟩
end Go.Proofs.Ytdmaoaclhaofbaa
