/-
  Two pictures copied into two variables, in whatever order: what holds at each time.
-/
import Derived.Test.YtljkkhjgcgiccaaDiffMore
import Derived.Test.YtljkkhjgcgiccaaDiffApply
import Derived.Test.YtljkkhjgcgiccaaRegionInv
namespace Go.Proofs.Ytljkkhjgcgiccaa
open Go.RowKit

/-- One of them: its copy (c), its variable (b), the copy laid there (s). -/
structure Lane (B : Nat) (w : World) (W H C D : Int) (n : Nat) (xs : List Int) (c b s : Bool) (v p : Value) (g : Nat) (a : Option Addr) (k : Nat) : Prop where
  cv : c = true → v = ras W H C D a n k
  co : c = true → w.ownsRow B 5 1 (.slice a n k) n (xs.map (Value.int .u8))
  pv : b = true → p = .pointer (some ⟨g, 0, Option.none⟩)
  pg : b = true → B ≤ g ∧ g < w.heap.size
  pb : b = true → s = false → RBox w g 0 0 0 0 Option.none 0 0
  ps : s = true → RBox w g W H C D a n k
  sc : s = true → c = true ∧ b = true
  ne : c = true → b = true → (Value.slice a n k).ownBlock ≠ some g

section
variable {B : Nat} {w w' : World} {W H C D : Int} {n : Nat} {xs : List Int} {c b s : Bool} {v p : Value} {g : Nat} {a : Option Addr} {k : Nat}

theorem Lane.start (B : Nat) (w : World) (W H C D : Int) (n : Nat) (xs : List Int) (v p : Value) : Lane B w W H C D n xs false false false v p 0 Option.none 0 := by
  constructor <;> intro h <;> cases h

theorem Lane.below (h : Lane B w W H C D n xs c b s v p g a k) (hb : Below w.heap.size w w') : Lane B w' W H C D n xs c b s v p g a k where
  cv := h.cv
  co := fun e => owns_below (h.co e) hb
  pv := h.pv
  pg := fun e => ⟨(h.pg e).1, Nat.lt_of_lt_of_le (h.pg e).2 hb.size⟩
  pb := fun e e' => (h.pb e e').below hb
  ps := fun e => (h.ps e).below hb
  sc := h.sc
  ne := h.ne

theorem Lane.call (h : Lane B w W H C D n xs false b s v p g a k) (hb : Below w.heap.size w w') (hB : B ≤ w.heap.size) {a' : Option Addr} {k' : Nat} (ho : w'.ownsRow w.heap.size 5 1 (.slice a' n k') n (xs.map (Value.int .u8))) :
    Lane B w' W H C D n xs true b s (ras W H C D a' n k') p g a' k' := by
  have hs : s = false := by cases s with | false => rfl | true => exact absurd (h.sc rfl).1 (by simp)
  subst hs
  refine ⟨fun _ => rfl, fun _ => owns_base ho hB, h.pv, (h.below hb).pg, (h.below hb).pb, fun e => (nomatch e), fun e => (nomatch e), fun _ e he => ?_⟩
  have h1 := (ho.lt g he).1
  have h2 := (h.pg e).2
  omega

theorem Lane.alloc (h : Lane B w W H C D n xs c false s v p g a k) (hB : B ≤ w.heap.size) (t : TypeId) :
    Lane B (w.alloc (.cells #[.int .i64 0, .int .i64 0, .int .i64 0, .int .i64 0, .slice Option.none 0 0] t)) W H C D n xs c true s v (.pointer (some ⟨w.heap.size, 0, Option.none⟩)) w.heap.size a k := by
  have hs : s = false := by cases s with | false => rfl | true => exact absurd (h.sc rfl).2 (by simp)
  subst hs
  have h' := h.below ((Below.refl _ _).alloc (Nat.le_refl _) (.cells #[.int .i64 0, .int .i64 0, .int .i64 0, .int .i64 0, .slice Option.none 0 0] t))
  refine ⟨h'.cv, h'.co, fun _ => rfl, fun _ => ⟨hB, by simp⟩, fun _ _ => rbox_alloc w 0 0 0 0 Option.none 0 0 t, fun e => (nomatch e), fun e => (nomatch e), fun e _ he => ?_⟩
  have h1 := ((h.co e).lt _ he).2
  omega

theorem owns_apart {T base : Nat} {a : Option Addr} {n cap : Nat} {ws : List Value} (h : w.ownsRow base T 1 (.slice a n cap) n ws) (b i : Nat) (v : Value) (hb : (Value.slice a n cap).ownBlock ≠ some b) : (w.setCell ⟨b, i, Option.none⟩ v).ownsRow base T 1 (.slice a n cap) n ws :=
  h.kept (row := some b) ⟨rfl, rfl, rfl, by simp, fun k _ hne => Below.heap_setCell w ⟨b, i, Option.none⟩ v k (fun h => hne (by rw [h]))⟩ (.inr (fun e => hb e))

/-- A store elsewhere. -/
theorem Lane.far (h : Lane B w W H C D n xs c b s v p g a k) (q i : Nat) (u : Value) (h1 : b = true → q ≠ g) (h2 : c = true → (Value.slice a n k).ownBlock ≠ some q) : Lane B (w.setCell ⟨q, i, Option.none⟩ u) W H C D n xs c b s v p g a k where
  cv := h.cv
  co := fun e => owns_apart (h.co e) q i u (h2 e)
  pv := h.pv
  pg := fun e => by simpa using h.pg e
  pb := fun e e' => (h.pb e e').setFar q i u (h1 e)
  ps := fun e => (h.ps e).setFar q i u (h1 (h.sc e).2)
  sc := h.sc
  ne := h.ne

/-- The world with a picture laid in block g. -/
def laid (w : World) (g : Nat) (W H C D : Int) (a : Option Addr) (n k : Nat) : World :=
  ((((w.setCell ⟨g, 0, Option.none⟩ (.int .i64 W)).setCell ⟨g, 1, Option.none⟩ (.int .i64 H)).setCell ⟨g, 2, Option.none⟩ (.int .i64 C)).setCell ⟨g, 3, Option.none⟩ (.int .i64 D)).setCell ⟨g, 4, Option.none⟩ (.slice a n k)
theorem laid_size (w : World) (g : Nat) (W H C D : Int) (a : Option Addr) (n k : Nat) : (laid w g W H C D a n k).heap.size = w.heap.size := by simp [laid]

theorem Lane.farBox (h : Lane B w W H C D n xs c b s v p g a k) (q : Nat) (W' H' C' D' : Int) (a' : Option Addr) (n' k' : Nat) (h1 : b = true → q ≠ g) (h2 : c = true → (Value.slice a n k).ownBlock ≠ some q) : Lane B (laid w q W' H' C' D' a' n' k') W H C D n xs c b s v p g a k :=
  ((((h.far q 0 _ h1 h2).far q 1 _ h1 h2).far q 2 _ h1 h2).far q 3 _ h1 h2).far q 4 _ h1 h2

theorem Lane.store (h : Lane B w W H C D n xs true true false v p g a k) : Lane B (laid w g W H C D a n k) W H C D n xs true true true v p g a k := by
  have hne := h.ne rfl rfl
  refine ⟨h.cv, fun _ => ?_, h.pv, fun e => by rw [laid_size]; exact h.pg e, fun _ e => (nomatch e), fun _ => ?_, fun _ => ⟨rfl, rfl⟩, h.ne⟩
  · exact owns_apart (owns_apart (owns_apart (owns_apart (owns_apart (h.co rfl) g 0 _ hne) g 1 _ hne) g 2 _ hne) g 3 _ hne) g 4 _ hne
  · exact (h.pb rfl rfl).set W H C D a n k

theorem below_laid {w0 : World} (h : Below B w0 w) (q : Nat) (W' H' C' D' : Int) (a' : Option Addr) (n' k' : Nat) (hq : B ≤ q) : Below B w0 (laid w q W' H' C' D' a' n' k') :=
  below_set (below_set (below_set (below_set (below_set h q 0 _ hq) q 1 _ hq) q 2 _ hq) q 3 _ hq) q 4 _ hq
end

/-- Both, apart from each other. -/
structure Two (w3 w : World) (W H C D : Int) (n : Nat) (xs : List Int) (c b s : Bool) (v p : Value) (g : Nat) (a : Option Addr) (k : Nat)
    (W' H' C' D' : Int) (n' : Nat) (xs' : List Int) (c' b' s' : Bool) (v' p' : Value) (g' : Nat) (a' : Option Addr) (k' : Nat) : Prop where
  one : Lane w3.heap.size w W H C D n xs c b s v p g a k
  two : Lane w3.heap.size w W' H' C' D' n' xs' c' b' s' v' p' g' a' k'
  bel : Below w3.heap.size w3 w
  gg : b = true → b' = true → g ≠ g'
  ag : c = true → b' = true → (Value.slice a n k).ownBlock ≠ some g'
  ga : c' = true → b = true → (Value.slice a' n' k').ownBlock ≠ some g

section
variable {w3 w w' : World} {W H C D : Int} {n : Nat} {xs : List Int} {c b s : Bool} {v p : Value} {g : Nat} {a : Option Addr} {k : Nat}
  {W' H' C' D' : Int} {n' : Nat} {xs' : List Int} {c' b' s' : Bool} {v' p' : Value} {g' : Nat} {a' : Option Addr} {k' : Nat}

theorem Two.swap (h : Two w3 w W H C D n xs c b s v p g a k W' H' C' D' n' xs' c' b' s' v' p' g' a' k') : Two w3 w W' H' C' D' n' xs' c' b' s' v' p' g' a' k' W H C D n xs c b s v p g a k :=
  ⟨h.two, h.one, h.bel, fun e e' => (h.gg e' e).symm, fun e e' => h.ga e e', fun e e' => h.ag e e'⟩

theorem Two.start (w3 : World) (W H C D : Int) (n : Nat) (xs : List Int) (v p : Value) (W' H' C' D' : Int) (n' : Nat) (xs' : List Int) (v' p' : Value) : Two w3 w3.drew W H C D n xs false false false v p 0 Option.none 0 W' H' C' D' n' xs' false false false v' p' 0 Option.none 0 :=
  ⟨Lane.start _ _ _ _ _ _ _ _ _ _, Lane.start _ _ _ _ _ _ _ _ _ _, (Below.refl _ _).drew, by simp, by simp, by simp⟩

theorem Two.drew (h : Two w3 w W H C D n xs c b s v p g a k W' H' C' D' n' xs' c' b' s' v' p' g' a' k') : Two w3 w.drew W H C D n xs c b s v p g a k W' H' C' D' n' xs' c' b' s' v' p' g' a' k' :=
  ⟨h.one.below (Below.refl _ _).drew, h.two.below (Below.refl _ _).drew, below_size h.bel (Below.refl _ _).drew, h.gg, h.ag, h.ga⟩

theorem Two.call (h : Two w3 w W H C D n xs false b s v p g a k W' H' C' D' n' xs' c' b' s' v' p' g' a' k') (hb : Below w.heap.size w w') {q : Option Addr} {r : Nat} (ho : w'.ownsRow w.heap.size 5 1 (.slice q n r) n (xs.map (Value.int .u8))) :
    Two w3 w' W H C D n xs true b s (ras W H C D q n r) p g q r W' H' C' D' n' xs' c' b' s' v' p' g' a' k' :=
  ⟨h.one.call hb h.bel.size ho, h.two.below hb, below_size h.bel hb, h.gg, fun _ e he => by have h1 := (ho.lt _ he).1; have h2 := (h.two.pg e).2; omega, h.ga⟩

theorem Two.alloc (h : Two w3 w W H C D n xs c false s v p g a k W' H' C' D' n' xs' c' b' s' v' p' g' a' k') (t : TypeId) :
    Two w3 (w.alloc (.cells #[.int .i64 0, .int .i64 0, .int .i64 0, .int .i64 0, .slice Option.none 0 0] t)) W H C D n xs c true s v (.pointer (some ⟨w.heap.size, 0, Option.none⟩)) w.heap.size a k W' H' C' D' n' xs' c' b' s' v' p' g' a' k' := by
  have hb : Below w.heap.size w (w.alloc (.cells #[.int .i64 0, .int .i64 0, .int .i64 0, .int .i64 0, .slice Option.none 0 0] t)) := (Below.refl _ _).alloc (Nat.le_refl _) _
  refine ⟨h.one.alloc h.bel.size t, h.two.below hb, below_size h.bel hb, fun _ e => ?_, fun e e' he => ?_, fun e _ he => ?_⟩
  · have := (h.two.pg e).2; omega
  · exact h.ag e e' he
  · have := ((h.two.co e).lt _ he).2; omega

theorem Two.store (h : Two w3 w W H C D n xs true true false v p g a k W' H' C' D' n' xs' c' b' s' v' p' g' a' k') :
    Two w3 (laid w g W H C D a n k) W H C D n xs true true true v p g a k W' H' C' D' n' xs' c' b' s' v' p' g' a' k' :=
  ⟨h.one.store, h.two.farBox g W H C D a n k (fun e => h.gg rfl e) (fun e => h.ga e rfl), below_laid h.bel g W H C D a n k (h.one.pg rfl).1, h.gg, h.ag, h.ga⟩
end
end Go.Proofs.Ytljkkhjgcgiccaa
