/-
  A picture of the call's own with pixels of its own: 'out := Raster{Shape: s, Pix: make(..)}', in whatever order the variable and the pixels are laid.
-/
import Derived.Test.YtdmaoaclhaofbaaRetRas
import Derived.Test.YtdmaoaclhaofbaaRasCopy
import Derived.Test.YtdmaoaclhaofbaaTileCut
import Derived.Deep.DeepCutAuto
import Derived.Deep.RegionHeld3
namespace Go.Proofs.Ytdmaoaclhaofbaa
open Go.RowKit

theorem infoU : (Try.prog.info? 5).map (fun i => (i.zero, i.size, i.bytes)) = some (some (.int .u8 0), 1, 1) := by kernel_rfl
theorem infoU1 : (Try.prog.info? 5).map (·.size) = some 1 := by kernel_rfl
theorem made_run (n : Nat) (hn : n ≤ 16384) (w : World) : (Instr.makeSlice 24 (.int .i64 (n : Int)) (.int .i64 (n : Int))).run Try.prog w = .ok (.slice (some ⟨w.heap.size, 0, Option.none⟩) n n) (w.alloc (.cells (madeCells #[Value.int .u8 0] n) 5)) := by
  obtain ⟨i0, hi, hz0, hz1, hz2⟩ := info_parts infoU
  have := run_make (P := Try.prog) w 24 5 i0 (.int .u8 0) Try.underlying24 hi hz0 .i64 .i64 n n (by omega) (Int.le_refl _) (by rw [hz2]; omega) (by omega)
  rw [this, hz1]
  simp [Value.cells]
theorem made_owns (n B : Nat) (hn : n ≤ 16384) (w : World) (hB : B ≤ w.heap.size) : (w.alloc (.cells (madeCells #[Value.int .u8 0] n) 5)).ownsRow B 5 1 (.slice (some ⟨w.heap.size, 0, Option.none⟩) n n) n ((List.replicate n (0 : Int)).map (Value.int .u8)) := by
  have := World.ownsRow_lit (base := B) (e := 5) (size := 1) w (madeCells #[Value.int .u8 0] n) n hB (by unfold maxLen; omega) (by rw [size_madeCells]; omega)
  rwa [toList_made] at this

structure Out (w2 : World) (W H C D : Int) (n : Nat) (gb g : Nat) (zs : List Int) (wx : World) : Prop where
  box : RBox wx gb W H C D (some ⟨g, 0, Option.none⟩) n n
  own : wx.ownsRow w2.heap.size 5 1 (.slice (some ⟨g, 0, Option.none⟩) n n) n (zs.map (Value.int .u8))
  ne : g ≠ gb
  ge : w2.heap.size ≤ gb
  bel : Below w2.heap.size w2 wx
theorem Out.below {w2 wx w' : World} {W H C D : Int} {n gb g : Nat} {zs : List Int} (h : Out w2 W H C D n gb g zs wx) (hb : Below wx.heap.size wx w') : Out w2 W H C D n gb g zs w' :=
  ⟨h.box.below hb, owns_below h.own hb, h.ne, h.ge, below_size h.bel hb⟩
theorem Out.len {w2 wx : World} {W H C D : Int} {n gb g : Nat} {zs : List Int} (h : Out w2 W H C D n gb g zs wx) : zs.length = n := by simpa using h.own.1
/-- Its pixels told anew. -/
theorem Out.fill {w2 wx w' : World} {W H C D : Int} {n gb g : Nat} {zs ys : List Int} (h : Out w2 W H C D n gb g zs wx) (ho : w'.ownsRow w2.heap.size 5 1 (.slice (some ⟨g, 0, Option.none⟩) n n) n (ys.map (Value.int .u8))) (hg : wx.grownBy w' (some g)) : Out w2 W H C D n gb g ys w' :=
  ⟨rbox_block h.box hg.size (hg.block gb h.box.lt (by simp; exact h.ne.symm)), ho, h.ne, h.ge, h.bel.grown hg h.bel.size (fun k hk => by cases hk; exact (h.own.lt _ rfl).1)⟩

theorem out_a {w2 x1 : World} (hb : Below w2.heap.size w2 x1) (W H C D : Int) {n : Nat} (hn : n ≤ 16384) : Out w2 W H C D n (x1.heap.size + 1) x1.heap.size (List.replicate n (0 : Int)) ((x1.alloc (.cells (madeCells #[Value.int .u8 0] n) 5)).alloc (.cells #[.int .i64 W, .int .i64 H, .int .i64 C, .int .i64 D, .slice (some ⟨x1.heap.size, 0, Option.none⟩) n n] 26)) := by
  have hs := hb.size
  refine ⟨?_, World.ownsRow.alloc (made_owns n _ hn x1 hs) _, by omega, by omega, (hb.alloc hs _).alloc (by simp; omega) _⟩
  have := rbox_alloc (x1.alloc (.cells (madeCells #[Value.int .u8 0] n) 5)) W H C D (some ⟨x1.heap.size, 0, Option.none⟩) n n 26
  rwa [World.size_alloc] at this
theorem out_b {w2 x1 : World} (hb : Below w2.heap.size w2 x1) (W H C D : Int) {n : Nat} (hn : n ≤ 16384) : Out w2 W H C D n x1.heap.size (x1.heap.size + 1) (List.replicate n (0 : Int)) ((x1.alloc (.cells #[.int .i64 W, .int .i64 H, .int .i64 C, .int .i64 D, .slice (some ⟨x1.heap.size + 1, 0, Option.none⟩) n n] 26)).alloc (.cells (madeCells #[Value.int .u8 0] n) 5)) := by
  have hs := hb.size
  refine ⟨(rbox_alloc x1 W H C D _ n n _).below ((Below.refl _ _).alloc (Nat.le_refl _) _), ?_, by omega, by omega, (hb.alloc hs _).alloc (by simp; omega) _⟩
  have := made_owns n w2.heap.size hn (x1.alloc (.cells #[.int .i64 W, .int .i64 H, .int .i64 C, .int .i64 D, .slice (some ⟨x1.heap.size + 1, 0, Option.none⟩) n n] 26)) (by simp; omega)
  rwa [World.size_alloc] at this
theorem out_c {w2 x1 : World} {gb : Nat} (hb : Below w2.heap.size w2 x1) (W H C D : Int) {n : Nat} (hn : n ≤ 16384) (k : RBox x1 gb 0 0 0 0 Option.none 0 0) (hg : w2.heap.size ≤ gb) : Out w2 W H C D n gb x1.heap.size (List.replicate n (0 : Int))
    ((((((x1.setCell ⟨gb, 0, Option.none⟩ (.int .i64 W)).setCell ⟨gb, 1, Option.none⟩ (.int .i64 H)).setCell ⟨gb, 2, Option.none⟩ (.int .i64 C)).setCell ⟨gb, 3, Option.none⟩ (.int .i64 D)).setCell ⟨gb, 4, Option.none⟩ (.slice (some ⟨x1.heap.size, 0, Option.none⟩) n n)).alloc (.cells (madeCells #[Value.int .u8 0] n) 5)) := by
  have hl := k.lt
  refine ⟨(k.set W H C D _ n n).below ((Below.refl _ _).alloc (Nat.le_refl _) _), ?_, by omega, hg, (((((hb.setCell hg _).setCell hg _).setCell hg _).setCell hg _).setCell hg _).alloc (by simpa using hb.size) _⟩
  have := made_owns n w2.heap.size hn ((((((x1.setCell ⟨gb, 0, Option.none⟩ (.int .i64 W)).setCell ⟨gb, 1, Option.none⟩ (.int .i64 H)).setCell ⟨gb, 2, Option.none⟩ (.int .i64 C)).setCell ⟨gb, 3, Option.none⟩ (.int .i64 D)).setCell ⟨gb, 4, Option.none⟩ (.slice (some ⟨x1.heap.size, 0, Option.none⟩) n n))) (by simpa using hb.size)
  simpa using this
end Go.Proofs.Ytdmaoaclhaofbaa
