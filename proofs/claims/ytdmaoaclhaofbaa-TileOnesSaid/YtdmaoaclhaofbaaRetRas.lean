/-
  Pictures that a function answers: the variable of a result, new memory.
-/
import Derived.Test.YtdmaoaclhaofbaaRaster
import Derived.Test.YtdmaoaclhaofbaaCopy
import Derived.Handy
namespace Go.Proofs.Ytdmaoaclhaofbaa
open Go.RowKit

theorem RBox.set {w : World} {g : Nat} {W H C D : Int} {a : Option Addr} {n cap : Nat} (h : RBox w g W H C D a n cap) (p q r s : Int) (b : Option Addr) (m k : Nat) :
    RBox (((((w.setCell ⟨g, 0, Option.none⟩ (.int .i64 p)).setCell ⟨g, 1, Option.none⟩ (.int .i64 q)).setCell ⟨g, 2, Option.none⟩ (.int .i64 r)).setCell ⟨g, 3, Option.none⟩ (.int .i64 s)).setCell ⟨g, 4, Option.none⟩ (.slice b m k)) g p q r s b m k := by
  have hb := h.box.set p q r s
  have h4 : ((((w.setCell ⟨g, 0, Option.none⟩ (.int .i64 p)).setCell ⟨g, 1, Option.none⟩ (.int .i64 q)).setCell ⟨g, 2, Option.none⟩ (.int .i64 r)).setCell ⟨g, 3, Option.none⟩ (.int .i64 s)).cell? ⟨g, 4, Option.none⟩ = some (.slice a n cap) := by
    rw [World.cell?_setCell_other _ _ _ _ (by simp), World.cell?_setCell_other _ _ _ _ (by simp), World.cell?_setCell_other _ _ _ _ (by simp), World.cell?_setCell_other _ _ _ _ (by simp), h.c4]
  refine ⟨⟨by simpa using hb.lt, ?_, ?_, ?_, ?_, ?_, ?_, ?_, ?_⟩, World.cell?_setCell_same _ _ _ h4, by simpa [World.frozen?_setCell] using h.f4⟩
  · rw [World.cell?_setCell_other _ _ _ _ (by simp)]; exact hb.c0
  · rw [World.cell?_setCell_other _ _ _ _ (by simp)]; exact hb.c1
  · rw [World.cell?_setCell_other _ _ _ _ (by simp)]; exact hb.c2
  · rw [World.cell?_setCell_other _ _ _ _ (by simp)]; exact hb.c3
  · rw [World.frozen?_setCell]; exact hb.f0
  · rw [World.frozen?_setCell]; exact hb.f1
  · rw [World.frozen?_setCell]; exact hb.f2
  · rw [World.frozen?_setCell]; exact hb.f3

theorem owns_far {w : World} {base T g n cap : Nat} {ws : List Value} (h : w.ownsRow base T 1 (.slice (some ⟨g, 0, Option.none⟩) n cap) n ws) (b i : Nat) (v : Value) (hb : b ≠ g) : (w.setCell ⟨b, i, Option.none⟩ v).ownsRow base T 1 (.slice (some ⟨g, 0, Option.none⟩) n cap) n ws :=
  h.kept (row := some b) ⟨rfl, rfl, rfl, by simp, fun k _ hne => Below.heap_setCell w ⟨b, i, Option.none⟩ v k (fun h => hne (by rw [h]))⟩ (.inr (by simp [Value.ownBlock]; omega))
theorem rasInfo : (Try.prog.info? 26).map (·.size) = some 5 := by kernel_rfl
theorem results_ras {fn : Func} {p u : Tmp} (h : fn.results = #[.cell p 26, .tmp u]) (tmps : Array Value) (w : World) (g : Nat) {W H C D : Int} {a : Option Addr} {n cap : Nat} (hp : tmps.getD p undef = .pointer (some ⟨g, 0, Option.none⟩)) (hb : RBox w g W H C D a n cap) :
    (results fn tmps).run Try.prog w = .ok (.tuple #[ras W H C D a n cap, tmps.getD u undef]) w := by
  have hl := run_loadVar_mid (P := Try.prog) w g 0 26 [.int .i64 W, .int .i64 H, .int .i64 C, .int .i64 D, .slice a n cap] _ (by
    intro j v hv
    match j, hv with
    | 0, hv => simp at hv; subst hv; exact hb.box.c0
    | 1, hv => simp at hv; subst hv; exact hb.box.c1
    | 2, hv => simp at hv; subst hv; exact hb.box.c2
    | 3, hv => simp at hv; subst hv; exact hb.box.c3
    | 4, hv => simp at hv; subst hv; exact hb.c4) Try.underlying26 rfl rasInfo
  rw [results_cell_tmp h, hp]
  simp [asAddr, hl]

/-- A picture of new memory and an error's number. -/
def RetRas (w : World) (W H C D : Int) (ys : List Int) (E : Int) (e : Ending) (w' : World) : Prop :=
  ∃ (a : Option Addr) (k : Nat), e = .returned (.tuple #[ras W H C D a ys.length k, .int .i64 E]) ∧ w'.ownsRow w.heap.size 5 1 (.slice a ys.length k) ys.length (ys.map (Value.int .u8)) ∧ Below w.heap.size w w'
/-- The rest of a list. -/
theorem reads_from {w : World} {b off n cap : Nat} {xs : List Int} (h : Reads .u8 w (some ⟨b, off, Option.none⟩) n cap xs) (k : Nat) (hk : k ≤ n) (hc : k < cap) : Reads .u8 w (some ⟨b, off + k, Option.none⟩) (n - k) (cap - k) (xs.drop k) := by
  have := h.cut k n hk (Nat.le_refl _)
  rw [List.take_of_length_le (by simp [h.len])] at this
  unfold cutA at this
  rw [if_neg (by omega)] at this
  simpa only [Option.map_some, Addr.add_lit] using this
theorem retRas_err {w w' : World} {E : Int} (h : Below w.heap.size w w') : RetRas w 0 0 0 0 [] E (.returned (.tuple #[ras 0 0 0 0 Option.none 0 0, .int .i64 E])) w' :=
  ⟨Option.none, 0, rfl, World.ownsRow_nil _ _ _ _, h⟩

theorem owns_under {w : World} {base T : Nat} {a : Option Addr} {n cap : Nat} {ws : List Value} (h : w.ownsRow base T 1 (.slice a n cap) n ws) (b i : Nat) (v : Value) (hb : b < base) : (w.setCell ⟨b, i, Option.none⟩ v).ownsRow base T 1 (.slice a n cap) n ws :=
  h.kept (row := some b) ⟨rfl, rfl, rfl, by simp, fun k _ hne => Below.heap_setCell w ⟨b, i, Option.none⟩ v k (fun h => hne (by rw [h]))⟩ (.inr fun e => by have := (h.lt b e).1; omega)

end Go.Proofs.Ytdmaoaclhaofbaa
