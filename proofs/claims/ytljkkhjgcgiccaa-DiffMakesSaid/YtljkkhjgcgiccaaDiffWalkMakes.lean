/-
  The walk of DiffMakes.
-/
import Derived.Test.YtljkkhjgcgiccaaDiffTwo
import Derived.Test.YtljkkhjgcgiccaaDiffWalkChains
import Derived.Deep.DeepCutAuto
namespace Go.Proofs.Ytljkkhjgcgiccaa
open Go.RowKit

set_option maxRecDepth 100000 in
set_option maxHeartbeats 4000000 in
theorem makes_few1 (kind W H C D : Int) (a : Option Addr) (n cap : Nat) (xs : List Int) (W2 H2 C2 D2 : Int) (b : Option Addr) (m cb : Nat) (ys : List Int) (d : Option Addr) (l cd : Nat) (ds : List Int) (w : World) (hr : Reads .u8 w a n cap xs) (hx : isB xs) (hs : Reads .u8 w b m cb ys) (hy : isB ys) (hd : Reads .u8 w d l cd ds) (hdb : isB ds) (hH : -9223372036854775808 ≤ H ∧ H ≤ 9223372036854775807) (hH2 : -9223372036854775808 ≤ H2 ∧ H2 ≤ 9223372036854775807) (h : ¬ n ≤ 20000) :
    Calls Try.prog 3 #[.int .i64 kind, ras W H C D a n cap, ras W2 H2 C2 D2 b m cb, .slice d l cd] w fun e w' => e = .returned (.bool true) ∧ Below w.heap.size w w' := by
  have hF := fun w' => few_any W H C D a n cap w'
  simp only [h, decide_false] at hF
  have HF := Lib.hid hF
  clear hF hr hs h hd
  have bl : Below w.heap.size w ((w.alloc (.cells #[.int .i64 W, .int .i64 H, .int .i64 C, .int .i64 D, .slice a n cap] 26)).alloc (.cells #[.int .i64 W2, .int .i64 H2, .int .i64 C2, .int .i64 D2, .slice b m cb] 26)) := ((Below.refl _ _).alloc (Nat.le_refl _) _).alloc (by simp) _
  have bx := Lib.hid ((rbox_alloc w W H C D a n cap 26).below ((Below.refl _ _).alloc (Nat.le_refl _) (.cells #[.int .i64 W2, .int .i64 H2, .int .i64 C2, .int .i64 D2, .slice b m cb] 26)))
  have bs0 := rbox_alloc (w.alloc (.cells #[.int .i64 W, .int .i64 H, .int .i64 C, .int .i64 D, .slice a n cap] 26)) W2 H2 C2 D2 b m cb 26
  rw [World.size_alloc] at bs0
  have bs := Lib.hid bs0
  have B := Lib.hid bl
  go_enter Try.func3, Try.ntmps3
  go_wp2_with fail
  generalize ((w.alloc (.cells #[.int .i64 W, .int .i64 H, .int .i64 C, .int .i64 D, .slice a n cap] 26)).alloc (.cells #[.int .i64 W2, .int .i64 H2, .int .i64 C2, .int .i64 D2, .slice b m cb] 26)) = v0 at *
  clear bl bs0
  refine (first_any _).mono ?_; rintro e w1 ⟨rfl, bb⟩
  replace B := Lib.hid (below_size B.out bb)
  replace bx := Lib.hid (bx.out.below bb)
  replace bs := Lib.hid (bs.out.below bb)
  clear bb
  have c0 := bx.out.box.c0; have c1 := bx.out.box.c1; have c2 := bx.out.box.c2; have c3 := bx.out.box.c3; have c4 := bx.out.c4
  go_wp2_with fail
  clear c0 c1 c2 c3 c4
  refine (HF.out _).mono ?_; rintro e w2 ⟨rfl, bb⟩
  replace B := Lib.hid (below_size B.out bb)
  replace bx := Lib.hid (bx.out.below bb)
  replace bs := Lib.hid (bs.out.below bb)
  clear bb
  go_wp2_with fail
  refine (first_any _).mono ?_; rintro e w4 ⟨rfl, bb⟩
  replace B := Lib.hid (below_size B.out bb)
  go_wp2_with fail
  go_ret
  exact ⟨rfl, B.out⟩

set_option maxRecDepth 100000 in
set_option maxHeartbeats 4000000 in
theorem makes_few2 (kind W H C D : Int) (a : Option Addr) (n cap : Nat) (xs : List Int) (W2 H2 C2 D2 : Int) (b : Option Addr) (m cb : Nat) (ys : List Int) (d : Option Addr) (l cd : Nat) (ds : List Int) (w : World) (hr : Reads .u8 w a n cap xs) (hx : isB xs) (hs : Reads .u8 w b m cb ys) (hy : isB ys) (hd : Reads .u8 w d l cd ds) (hdb : isB ds) (hH : -9223372036854775808 ≤ H ∧ H ≤ 9223372036854775807) (hH2 : -9223372036854775808 ≤ H2 ∧ H2 ≤ 9223372036854775807) (h : n ≤ 20000 ∧ ¬ m ≤ 20000) :
    Calls Try.prog 3 #[.int .i64 kind, ras W H C D a n cap, ras W2 H2 C2 D2 b m cb, .slice d l cd] w fun e w' => e = .returned (.bool true) ∧ Below w.heap.size w w' := by
  have hF := fun w' => few_any W H C D a n cap w'
  have hG := fun w' => few_any W2 H2 C2 D2 b m cb w'
  simp only [h.1, decide_true] at hF
  simp only [h.2, decide_false] at hG
  clear hr hs h hd
  have HF := Lib.hid hF; have HG := Lib.hid hG
  clear hF hG
  have bl : Below w.heap.size w ((w.alloc (.cells #[.int .i64 W, .int .i64 H, .int .i64 C, .int .i64 D, .slice a n cap] 26)).alloc (.cells #[.int .i64 W2, .int .i64 H2, .int .i64 C2, .int .i64 D2, .slice b m cb] 26)) := ((Below.refl _ _).alloc (Nat.le_refl _) _).alloc (by simp) _
  have bx := Lib.hid ((rbox_alloc w W H C D a n cap 26).below ((Below.refl _ _).alloc (Nat.le_refl _) (.cells #[.int .i64 W2, .int .i64 H2, .int .i64 C2, .int .i64 D2, .slice b m cb] 26)))
  have bs0 := rbox_alloc (w.alloc (.cells #[.int .i64 W, .int .i64 H, .int .i64 C, .int .i64 D, .slice a n cap] 26)) W2 H2 C2 D2 b m cb 26
  rw [World.size_alloc] at bs0
  have bs := Lib.hid bs0
  have B := Lib.hid bl
  go_enter Try.func3, Try.ntmps3
  go_wp2_with fail
  generalize ((w.alloc (.cells #[.int .i64 W, .int .i64 H, .int .i64 C, .int .i64 D, .slice a n cap] 26)).alloc (.cells #[.int .i64 W2, .int .i64 H2, .int .i64 C2, .int .i64 D2, .slice b m cb] 26)) = v0 at *
  clear bl bs0
  refine (first_any _).mono ?_; rintro e w1 ⟨rfl, bb⟩
  replace B := Lib.hid (below_size B.out bb)
  replace bx := Lib.hid (bx.out.below bb)
  replace bs := Lib.hid (bs.out.below bb)
  clear bb
  have c0 := bx.out.box.c0; have c1 := bx.out.box.c1; have c2 := bx.out.box.c2; have c3 := bx.out.box.c3; have c4 := bx.out.c4
  go_wp2_with fail
  clear c0 c1 c2 c3 c4
  refine (HF.out _).mono ?_; rintro e w2 ⟨rfl, bb⟩
  replace B := Lib.hid (below_size B.out bb)
  replace bx := Lib.hid (bx.out.below bb)
  replace bs := Lib.hid (bs.out.below bb)
  clear bb
  have c0 := bs.out.box.c0; have c1 := bs.out.box.c1; have c2 := bs.out.box.c2; have c3 := bs.out.box.c3; have c4 := bs.out.c4
  go_wp2_with fail
  clear c0 c1 c2 c3 c4
  refine (HG.out _).mono ?_; rintro e w3 ⟨rfl, bb⟩
  replace B := Lib.hid (below_size B.out bb)
  clear bb
  go_wp2_with fail
  refine (first_any _).mono ?_; rintro e w4 ⟨rfl, bb⟩
  replace B := Lib.hid (below_size B.out bb)
  go_wp2_with fail
  go_ret
  exact ⟨rfl, B.out⟩

set_option maxRecDepth 100000 in
set_option maxHeartbeats 4000000 in
theorem makes_few3 (kind W H C D : Int) (a : Option Addr) (n cap : Nat) (xs : List Int) (W2 H2 C2 D2 : Int) (b : Option Addr) (m cb : Nat) (ys : List Int) (d : Option Addr) (l cd : Nat) (ds : List Int) (w : World) (hr : Reads .u8 w a n cap xs) (hx : isB xs) (hs : Reads .u8 w b m cb ys) (hy : isB ys) (hd : Reads .u8 w d l cd ds) (hdb : isB ds) (hH : -9223372036854775808 ≤ H ∧ H ≤ 9223372036854775807) (hH2 : -9223372036854775808 ≤ H2 ∧ H2 ≤ 9223372036854775807) (h : n ≤ 20000 ∧ m ≤ 20000 ∧ ¬ l ≤ 20000) :
    Calls Try.prog 3 #[.int .i64 kind, ras W H C D a n cap, ras W2 H2 C2 D2 b m cb, .slice d l cd] w fun e w' => e = .returned (.bool true) ∧ Below w.heap.size w w' := by
  have hF := fun w' => few_any W H C D a n cap w'
  have hG := fun w' => few_any W2 H2 C2 D2 b m cb w'
  simp only [h.1, decide_true] at hF
  simp only [h.2.1, decide_true] at hG
  have hll : (20000 : Int) < l := by omega
  have hl63 := hd.n63.1
  clear hr hs h hd
  have HF := Lib.hid hF; have HG := Lib.hid hG
  clear hF hG
  have bl : Below w.heap.size w ((w.alloc (.cells #[.int .i64 W, .int .i64 H, .int .i64 C, .int .i64 D, .slice a n cap] 26)).alloc (.cells #[.int .i64 W2, .int .i64 H2, .int .i64 C2, .int .i64 D2, .slice b m cb] 26)) := ((Below.refl _ _).alloc (Nat.le_refl _) _).alloc (by simp) _
  have bx := Lib.hid ((rbox_alloc w W H C D a n cap 26).below ((Below.refl _ _).alloc (Nat.le_refl _) (.cells #[.int .i64 W2, .int .i64 H2, .int .i64 C2, .int .i64 D2, .slice b m cb] 26)))
  have bs0 := rbox_alloc (w.alloc (.cells #[.int .i64 W, .int .i64 H, .int .i64 C, .int .i64 D, .slice a n cap] 26)) W2 H2 C2 D2 b m cb 26
  rw [World.size_alloc] at bs0
  have bs := Lib.hid bs0
  have B := Lib.hid bl
  go_enter Try.func3, Try.ntmps3
  go_wp2_with fail
  generalize ((w.alloc (.cells #[.int .i64 W, .int .i64 H, .int .i64 C, .int .i64 D, .slice a n cap] 26)).alloc (.cells #[.int .i64 W2, .int .i64 H2, .int .i64 C2, .int .i64 D2, .slice b m cb] 26)) = v0 at *
  clear bl bs0
  refine (first_any _).mono ?_; rintro e w1 ⟨rfl, bb⟩
  replace B := Lib.hid (below_size B.out bb)
  replace bx := Lib.hid (bx.out.below bb)
  replace bs := Lib.hid (bs.out.below bb)
  clear bb
  have c0 := bx.out.box.c0; have c1 := bx.out.box.c1; have c2 := bx.out.box.c2; have c3 := bx.out.box.c3; have c4 := bx.out.c4
  go_wp2_with fail
  clear c0 c1 c2 c3 c4
  refine (HF.out _).mono ?_; rintro e w2 ⟨rfl, bb⟩
  replace B := Lib.hid (below_size B.out bb)
  replace bx := Lib.hid (bx.out.below bb)
  replace bs := Lib.hid (bs.out.below bb)
  clear bb
  have c0 := bs.out.box.c0; have c1 := bs.out.box.c1; have c2 := bs.out.box.c2; have c3 := bs.out.box.c3; have c4 := bs.out.c4
  go_wp2_with fail
  clear c0 c1 c2 c3 c4
  refine (HG.out _).mono ?_; rintro e w3 ⟨rfl, bb⟩
  replace B := Lib.hid (below_size B.out bb)
  clear bb
  go_wp2_with fail
  refine (first_any _).mono ?_; rintro e w4 ⟨rfl, bb⟩
  replace B := Lib.hid (below_size B.out bb)
  go_wp2_with fail
  go_ret
  exact ⟨rfl, B.out⟩

set_option maxRecDepth 100000 in
set_option maxHeartbeats 1000000 in
theorem makes_main (kind W H C D : Int) (a : Option Addr) (n cap : Nat) (xs : List Int) (W2 H2 C2 D2 : Int) (b : Option Addr) (m cb : Nat) (ys : List Int) (d : Option Addr) (l cd : Nat) (ds : List Int) (w : World) (hr : Reads .u8 w a n cap xs) (hx : isB xs) (hs : Reads .u8 w b m cb ys) (hy : isB ys) (hd : Reads .u8 w d l cd ds) (hdb : isB ds) (hH : -9223372036854775808 ≤ H ∧ H ≤ 9223372036854775807) (hH2 : -9223372036854775808 ≤ H2 ∧ H2 ≤ 9223372036854775807) (hn : n ≤ 20000) (hm20 : m ≤ 20000) (hl20 : l ≤ 20000) :
    Calls Try.prog 3 #[.int .i64 kind, ras W H C D a n cap, ras W2 H2 C2 D2 b m cb, .slice d l cd] w fun e w' => e = .returned (.bool true) ∧ Below w.heap.size w w' := by
  have hF := fun w' => few_any W H C D a n cap w'
  have hG := fun w' => few_any W2 H2 C2 D2 b m cb w'
  simp only [hn, decide_true] at hF
  simp only [hm20, decide_true] at hG
  have HF := Lib.hid hF; have HG := Lib.hid hG
  have M1 := Lib.hid (fun (q : Option Addr) (k : Nat) (q' : Option Addr) (k' : Nat) (w' : World) r r' => make_any kind W H C D q n k W2 H2 C2 D2 q' m k' xs ys w' r hx r' hy hH hH2)
  have M2 := Lib.hid (fun (w' : World) r r' => rmake_any kind W H C D a n cap W2 H2 C2 D2 b m cb xs ys w' r hx r' hy hH hH2)
  have P1 := Lib.hid (fun (q : Option Addr) (k : Nat) (w' : World) r r' => apply_any kind W H C D q n k d l cd xs ds w' r hx r' hdb hH (by omega) (by omega))
  have P2 := Lib.hid (fun (w' : World) r r' => rapply_any kind W H C D a n cap d l cd xs ds w' r hx r' hdb hH (by omega) (by omega))
  have N1 := Lib.hid (fun (q : Option Addr) (k : Nat) (q' : Option Addr) (k' : Nat) (w' : World) r r' => changed_any W H C D q n k W2 H2 C2 D2 q' m k' xs ys w' r hx r' hy hH hH2)
  have N2 := Lib.hid (fun (w' : World) r r' => rchanged_any W H C D a n cap W2 H2 C2 D2 b m cb xs ys w' r hx r' hy hH hH2)
  have mB := Lib.hid (mkO_isB (kind := kind) (W := W) (H := H) (C := C) (D := D) (W' := W2) (H' := H2) (C' := C2) (D' := D2) hx hy hr.len hs.len)
  have aB := Lib.hid (apO_isB (kind := kind) (W := W) (H := H) (C := C) (D := D) hx hdb hr.len hd.len)
  generalize mkO kind W H C D n W2 H2 C2 D2 m xs ys = ms at *
  generalize mkE kind W H C D n W2 H2 C2 D2 m = me at *
  generalize apO kind W H C D n l xs ds = ps at *
  generalize apE kind W H C D n l = pe at *
  generalize aZ pe W = W' at *
  generalize aZ pe H = H' at *
  generalize aZ pe C = C' at *
  generalize aZ pe D = D' at *
  generalize chN W H C D n W2 H2 C2 D2 m xs ys = cn at *
  generalize alikeE W H C D n W2 H2 C2 D2 m = ce at *
  have hXB := Lib.hid hx; have hYB := Lib.hid hy
  have hll : decide ((20000 : Int) < l) = false := by simp; omega
  have R := Lib.hid hr; have S := Lib.hid hs; have T := Lib.hid hd
  have HL := Lib.hid hr.len; have HM := Lib.hid hs.len
  clear hF hG hr hs hx hy hd hdb
  have bl : Below w.heap.size w ((w.alloc (.cells #[.int .i64 W, .int .i64 H, .int .i64 C, .int .i64 D, .slice a n cap] 26)).alloc (.cells #[.int .i64 W2, .int .i64 H2, .int .i64 C2, .int .i64 D2, .slice b m cb] 26)) := ((Below.refl _ _).alloc (Nat.le_refl _) _).alloc (by simp) _
  have bx := Lib.hid ((rbox_alloc w W H C D a n cap 26).below ((Below.refl _ _).alloc (Nat.le_refl _) (.cells #[.int .i64 W2, .int .i64 H2, .int .i64 C2, .int .i64 D2, .slice b m cb] 26)))
  have bs0 := rbox_alloc (w.alloc (.cells #[.int .i64 W, .int .i64 H, .int .i64 C, .int .i64 D, .slice a n cap] 26)) W2 H2 C2 D2 b m cb 26
  rw [World.size_alloc] at bs0
  have bs := Lib.hid bs0
  have B := Lib.hid bl
  replace R := Lib.hid (R.out.below bl)
  replace S := Lib.hid (S.out.below bl)
  replace T := Lib.hid (T.out.below bl)
  go_enter Try.func3, Try.ntmps3
  go_wp2_with fail
  generalize ((w.alloc (.cells #[.int .i64 W, .int .i64 H, .int .i64 C, .int .i64 D, .slice a n cap] 26)).alloc (.cells #[.int .i64 W2, .int .i64 H2, .int .i64 C2, .int .i64 D2, .slice b m cb] 26)) = v0 at *
  clear bl bs0
  refine (first_any _).mono ?_; rintro e w1 ⟨rfl, bb⟩
  replace B := Lib.hid (below_size B.out bb)
  replace R := Lib.hid (R.out.below bb)
  replace S := Lib.hid (S.out.below bb)
  replace T := Lib.hid (T.out.below bb)
  replace bx := Lib.hid (bx.out.below bb)
  replace bs := Lib.hid (bs.out.below bb)
  clear bb
  have c0 := bx.out.box.c0; have c1 := bx.out.box.c1; have c2 := bx.out.box.c2; have c3 := bx.out.box.c3; have c4 := bx.out.c4
  go_wp2_with fail
  clear c0 c1 c2 c3 c4
  refine (HF.out _).mono ?_; rintro e w2 ⟨rfl, bb⟩
  replace B := Lib.hid (below_size B.out bb)
  replace R := Lib.hid (R.out.below bb)
  replace S := Lib.hid (S.out.below bb)
  replace T := Lib.hid (T.out.below bb)
  replace bx := Lib.hid (bx.out.below bb)
  replace bs := Lib.hid (bs.out.below bb)
  clear bb
  have c0 := bs.out.box.c0; have c1 := bs.out.box.c1; have c2 := bs.out.box.c2; have c3 := bs.out.box.c3; have c4 := bs.out.c4
  go_wp2_with fail
  clear c0 c1 c2 c3 c4
  refine (HG.out _).mono ?_; rintro e w3 ⟨rfl, bb⟩
  replace B := Lib.hid (below_size B.out bb)
  replace R := Lib.hid (R.out.below bb)
  replace S := Lib.hid (S.out.below bb)
  replace T := Lib.hid (T.out.below bb)
  replace bx := Lib.hid (bx.out.below bb)
  replace bs := Lib.hid (bs.out.below bb)
  clear bb
  go_upto_region 5 with fail
  clear hll
  go_cut [9, 10] (fun s t wx => ∃ gi gt ai ki at0 kt, s = .pointer (some ⟨gi, 0, Option.none⟩) ∧ t = .pointer (some ⟨gt, 0, Option.none⟩) ∧ RBox wx gi W H C D ai n ki ∧ RBox wx gt W2 H2 C2 D2 at0 m kt ∧ Reads .u8 wx ai n ki xs ∧ Reads .u8 wx at0 m kt ys ∧ Below w3.heap.size w3 wx)
  case first =>
    have C1 := Lib.hid (fun (w' : World) hr' => copy_any W H C D a n cap xs w' hr' (by omega))
    have C2' := Lib.hid (fun (w' : World) hr' => copy_any W2 H2 C2 D2 b m cb ys w' hr' (by omega))
    clear HF HG M1 M2 P1 P2 N1 N2 mB aB T
    refine wp_region_inv_at [39, 40, 41, 42, 9, 10] (fun l vs wx => ∃ (b0 b1 b2 b3 b4 b5 b6 b7 : Bool) (v0 v1 v2 v3 v4 v5 : Value) (gi : Nat) (ai : Option Addr) (ki gt : Nat) (at0 : Option Addr) (kt : Nat), l = #[b0, b1, b2, b3, b4, b5, b6, b7] ∧ vs = [v0, v1, v2, v3, v4, v5] ∧ (b0 = true → v0 = ras W H C D a n cap) ∧ (b2 = true → v2 = ras W2 H2 C2 D2 b m cb) ∧ Two w3 wx W H C D n xs b1 b4 b6 v1 v4 gi ai ki W2 H2 C2 D2 m ys b3 b5 b7 v3 v5 gt at0 kt) [undef, undef, undef, undef, undef, undef] (by kernel_rfl) (by kernel_rfl) ?_ ?_ ?_
    · exact ⟨false, false, false, false, false, false, false, false, _, _, _, _, _, _, 0, Option.none, 0, 0, Option.none, 0, rfl, rfl, by simp, by simp, Two.start _ _ _ _ _ _ _ _ _ _ _ _ _ _ _ _ _⟩
    · refine ⟨?_, ?_, ?_, ?_, ?_, ?_, ?_, ?_, trivial⟩
      all_goals
        rintro _ _ wx h0 hd ⟨b0, b1, b2, b3, b4, b5, b6, b7, v0, v1, v2, v3, v4, v5, gi, ai, ki, gt, at0, kt, rfl, rfl, g39, g41, t2⟩ K hK
        have hK' := fun u0 u1 u2 u3 u4 u5 w => hK [u0, u1, u2, u3, u4, u5] w
        clear hK
        simp only [layAt, Act.put, List.setIfInBounds_toArray, List.set_cons_zero, List.set_cons_succ] at hK' ⊢
        simp [Region.binds] at h0 hd
        subst h0
        have HK := Lib.hid hK'; have T2 := Lib.hid t2; have h39 := Lib.hid g39; have h41 := Lib.hid g41
        clear hK' t2 g39 g41
      · have bxx := bx.out.below T2.out.bel
        have c0 := bxx.box.c0; have c1 := bxx.box.c1; have c2 := bxx.box.c2; have c3 := bxx.box.c3; have c4 := bxx.c4
        clear bxx
        go_simp
        exact HK.out _ _ _ _ _ _ _ ⟨true, b1, b2, b3, b4, b5, b6, b7, _, _, _, _, _, _, _, _, _, _, _, _, rfl, rfl, fun _ => rfl, h41.out, T2.out⟩
      · have e0 : b0 = true := (by first | exact hd | exact hd.1 | exact hd.2 | exact hd.2.1 | exact hd.2.2 | exact hd.2.2.1 | exact hd.2.2.2 | exact hd.2.2.2.1 | exact hd.2.2.2.2 | exact hd.2.2.2.2.1 | exact hd.2.2.2.2.2)
        subst e0
        obtain rfl := h39.out rfl
        go_simp
        refine (C1.out _ (R.out.below T2.out.bel)).mono ?_; rintro e x1 ⟨p1, q1, rfl, o1, bb⟩
        rw [HL.out] at o1
        rw [HL.out]
        exact HK.out _ _ _ _ _ _ _ ⟨true, true, b2, b3, b4, b5, b6, b7, _, _, _, _, _, _, _, _, _, _, _, _, rfl, rfl, fun _ => rfl, h41.out, T2.out.call bb o1⟩
      · have bxx := bs.out.below T2.out.bel
        have c0 := bxx.box.c0; have c1 := bxx.box.c1; have c2 := bxx.box.c2; have c3 := bxx.box.c3; have c4 := bxx.c4
        clear bxx
        go_simp
        exact HK.out _ _ _ _ _ _ _ ⟨b0, b1, true, b3, b4, b5, b6, b7, _, _, _, _, _, _, _, _, _, _, _, _, rfl, rfl, h39.out, fun _ => rfl, T2.out⟩
      · have e2 : b2 = true := (by first | exact hd | exact hd.1 | exact hd.2 | exact hd.2.1 | exact hd.2.2 | exact hd.2.2.1 | exact hd.2.2.2 | exact hd.2.2.2.1 | exact hd.2.2.2.2 | exact hd.2.2.2.2.1 | exact hd.2.2.2.2.2)
        subst e2
        obtain rfl := h41.out rfl
        go_simp
        refine (C2'.out _ (S.out.below T2.out.bel)).mono ?_; rintro e x1 ⟨p1, q1, rfl, o1, bb⟩
        rw [HM.out] at o1
        rw [HM.out]
        exact HK.out _ _ _ _ _ _ _ ⟨b0, b1, true, true, b4, b5, b6, b7, _, _, _, _, _, _, _, _, _, _, _, _, rfl, rfl, h39.out, fun _ => rfl, (T2.out.swap.call bb o1).swap⟩
      · go_simp
        exact HK.out _ _ _ _ _ _ _ ⟨b0, b1, b2, b3, true, b5, b6, b7, _, _, _, _, _, _, _, _, _, _, _, _, rfl, rfl, h39.out, h41.out, T2.out.alloc _⟩
      · go_simp
        exact HK.out _ _ _ _ _ _ _ ⟨b0, b1, b2, b3, b4, true, b6, b7, _, _, _, _, _, _, _, _, _, _, _, _, rfl, rfl, h39.out, h41.out, (T2.out.swap.alloc _).swap⟩
      · have e1 : b1 = true := (by first | exact hd | exact hd.1 | exact hd.2 | exact hd.2.1 | exact hd.2.2 | exact hd.2.2.1 | exact hd.2.2.2 | exact hd.2.2.2.1 | exact hd.2.2.2.2 | exact hd.2.2.2.2.1 | exact hd.2.2.2.2.2)
        subst e1
        have e4 : b4 = true := (by first | exact hd | exact hd.1 | exact hd.2 | exact hd.2.1 | exact hd.2.2 | exact hd.2.2.1 | exact hd.2.2.2 | exact hd.2.2.2.1 | exact hd.2.2.2.2 | exact hd.2.2.2.2.1 | exact hd.2.2.2.2.2)
        subst e4
        obtain rfl := T2.out.one.cv rfl
        obtain rfl := T2.out.one.pv rfl
        have bxx := T2.out.one.pb rfl rfl
        have c0 := bxx.box.c0; have c1 := bxx.box.c1; have c2 := bxx.box.c2; have c3 := bxx.box.c3; have c4 := bxx.c4
        go_simp
        simp only [bxx.box.f0, bxx.box.f1, bxx.box.f2, bxx.box.f3, bxx.f4, Bool.false_eq_true, if_false, Oper.upon]
        go_simp
        exact HK.out _ _ _ _ _ _ _ ⟨b0, true, b2, b3, true, b5, true, b7, _, _, _, _, _, _, _, _, _, _, _, _, rfl, rfl, h39.out, h41.out, T2.out.store⟩
      · have e3 : b3 = true := (by first | exact hd | exact hd.1 | exact hd.2 | exact hd.2.1 | exact hd.2.2 | exact hd.2.2.1 | exact hd.2.2.2 | exact hd.2.2.2.1 | exact hd.2.2.2.2 | exact hd.2.2.2.2.1 | exact hd.2.2.2.2.2)
        subst e3
        have e5 : b5 = true := (by first | exact hd | exact hd.1 | exact hd.2 | exact hd.2.1 | exact hd.2.2 | exact hd.2.2.1 | exact hd.2.2.2 | exact hd.2.2.2.1 | exact hd.2.2.2.2 | exact hd.2.2.2.2.1 | exact hd.2.2.2.2.2)
        subst e5
        obtain rfl := T2.out.two.cv rfl
        obtain rfl := T2.out.two.pv rfl
        have bxx := T2.out.two.pb rfl rfl
        have c0 := bxx.box.c0; have c1 := bxx.box.c1; have c2 := bxx.box.c2; have c3 := bxx.box.c3; have c4 := bxx.c4
        go_simp
        simp only [bxx.box.f0, bxx.box.f1, bxx.box.f2, bxx.box.f3, bxx.f4, Bool.false_eq_true, if_false, Oper.upon]
        go_simp
        exact HK.out _ _ _ _ _ _ _ ⟨b0, b1, b2, true, b4, true, b6, true, _, _, _, _, _, _, _, _, _, _, _, _, rfl, rfl, h39.out, h41.out, T2.out.swap.store.swap⟩
    · rintro _ _ wx hr ⟨b0, b1, b2, b3, b4, b5, b6, b7, v0, v1, v2, v3, v4, v5, gi, ai, ki, gt, at0, kt, rfl, rfl, g39, g41, t2⟩
      have hb0 : b0 = true := by
        cases b0 with
        | true => rfl
        | false =>
          have hn : ¬ (0 ∈ ([] : List Nat)) := by simp
          rw [← hr] at hn
          exact absurd (mem_ready.2 ⟨rfl, _, rfl, by simp [Region.binds]⟩) hn
      subst hb0
      have hb1 : b1 = true := by
        cases b1 with
        | true => rfl
        | false =>
          have hn : ¬ (1 ∈ ([] : List Nat)) := by simp
          rw [← hr] at hn
          exact absurd (mem_ready.2 ⟨rfl, _, rfl, by simp [Region.binds]⟩) hn
      subst hb1
      have hb2 : b2 = true := by
        cases b2 with
        | true => rfl
        | false =>
          have hn : ¬ (2 ∈ ([] : List Nat)) := by simp
          rw [← hr] at hn
          exact absurd (mem_ready.2 ⟨rfl, _, rfl, by simp [Region.binds]⟩) hn
      subst hb2
      have hb3 : b3 = true := by
        cases b3 with
        | true => rfl
        | false =>
          have hn : ¬ (3 ∈ ([] : List Nat)) := by simp
          rw [← hr] at hn
          exact absurd (mem_ready.2 ⟨rfl, _, rfl, by simp [Region.binds]⟩) hn
      subst hb3
      have hb4 : b4 = true := by
        cases b4 with
        | true => rfl
        | false =>
          have hn : ¬ (4 ∈ ([] : List Nat)) := by simp
          rw [← hr] at hn
          exact absurd (mem_ready.2 ⟨rfl, _, rfl, by simp [Region.binds]⟩) hn
      subst hb4
      have hb5 : b5 = true := by
        cases b5 with
        | true => rfl
        | false =>
          have hn : ¬ (5 ∈ ([] : List Nat)) := by simp
          rw [← hr] at hn
          exact absurd (mem_ready.2 ⟨rfl, _, rfl, by simp [Region.binds]⟩) hn
      subst hb5
      have hb6 : b6 = true := by
        cases b6 with
        | true => rfl
        | false =>
          have hn : ¬ (6 ∈ ([] : List Nat)) := by simp
          rw [← hr] at hn
          exact absurd (mem_ready.2 ⟨rfl, _, rfl, by simp [Region.binds]⟩) hn
      subst hb6
      have hb7 : b7 = true := by
        cases b7 with
        | true => rfl
        | false =>
          have hn : ¬ (7 ∈ ([] : List Nat)) := by simp
          rw [← hr] at hn
          exact absurd (mem_ready.2 ⟨rfl, _, rfl, by simp [Region.binds]⟩) hn
      subst hb7
      obtain rfl := t2.one.pv rfl
      obtain rfl := t2.two.pv rfl
      simp only [layAt, Act.put, List.setIfInBounds_toArray, List.set_cons_zero, List.set_cons_succ]
      have p1 := t2.one.ps rfl; have p2 := t2.two.ps rfl; have p3 := reads_of_owns (t2.one.co rfl); have p4 := reads_of_owns (t2.two.co rfl); have p5 := t2.bel
      go_wp2_with fail
      go_meet
      exact ⟨gi, gt, ai, ki, at0, kt, rfl, rfl, p1, p2, p3, p4, p5⟩
  case rest =>
    obtain ⟨gi, gt, ai, ki, at0, kt, rfl, rfl, bi0, bt0, I0, J0, bb⟩ := hcut
    replace B := Lib.hid (below_size B.out bb)
    replace R := Lib.hid (R.out.below bb)
    replace S := Lib.hid (S.out.below bb)
    replace T := Lib.hid (T.out.below bb)
    replace bx := Lib.hid (bx.out.below bb)
    replace bs := Lib.hid (bs.out.below bb)
    have bi := Lib.hid bi0; have bt := Lib.hid bt0; have I := Lib.hid I0; have J := Lib.hid J0
    clear bb bi0 bt0 I0 J0
    have c0 := bi.out.box.c0; have c1 := bi.out.box.c1; have c2 := bi.out.box.c2; have c3 := bi.out.box.c3; have c4 := bi.out.c4
    have d0 := bt.out.box.c0; have d1 := bt.out.box.c1; have d2 := bt.out.box.c2; have d3 := bt.out.box.c3; have d4 := bt.out.c4
    go_wp2_with fail
    clear c0 c1 c2 c3 c4 d0 d1 d2 d3 d4
    refine (M1.out _ _ _ _ _ I.out J.out).mono ?_; rintro e w5 ⟨ax, kx, rfl, ox, bb⟩
    replace B := Lib.hid (below_size B.out bb)
    replace R := Lib.hid (R.out.below bb)
    replace S := Lib.hid (S.out.below bb)
    replace T := Lib.hid (T.out.below bb)
    replace I := Lib.hid (I.out.below bb)
    replace J := Lib.hid (J.out.below bb)
    replace bx := Lib.hid (bx.out.below bb)
    replace bs := Lib.hid (bs.out.below bb)
    replace bi := Lib.hid (bi.out.below bb)
    replace bt := Lib.hid (bt.out.below bb)
    have X := Lib.hid (reads_of_owns ox)
    clear bb ox
    have c0 := bx.out.box.c0; have c1 := bx.out.box.c1; have c2 := bx.out.box.c2; have c3 := bx.out.box.c3; have c4 := bx.out.c4
    have d0 := bs.out.box.c0; have d1 := bs.out.box.c1; have d2 := bs.out.box.c2; have d3 := bs.out.box.c3; have d4 := bs.out.c4
    go_wp2_with fail
    clear c0 c1 c2 c3 c4 d0 d1 d2 d3 d4
    refine (M2.out _ R.out S.out).mono ?_; rintro e w6 ⟨ay, ky, rfl, oy, bb⟩
    replace B := Lib.hid (below_size B.out bb)
    replace R := Lib.hid (R.out.below bb)
    replace S := Lib.hid (S.out.below bb)
    replace T := Lib.hid (T.out.below bb)
    replace I := Lib.hid (I.out.below bb)
    replace J := Lib.hid (J.out.below bb)
    replace X := Lib.hid (X.out.below bb)
    replace bx := Lib.hid (bx.out.below bb)
    replace bs := Lib.hid (bs.out.below bb)
    replace bi := Lib.hid (bi.out.below bb)
    replace bt := Lib.hid (bt.out.below bb)
    have Y := Lib.hid (reads_of_owns oy)
    clear bb oy
    have c0 := bi.out.box.c0; have c1 := bi.out.box.c1; have c2 := bi.out.box.c2; have c3 := bi.out.box.c3; have c4 := bi.out.c4
    go_wp2_with fail
    clear c0 c1 c2 c3 c4
    refine (P1.out _ _ _ I.out T.out).mono ?_; rintro e w7 ⟨ap, kp, rfl, op, bb⟩
    replace B := Lib.hid (below_size B.out bb)
    replace R := Lib.hid (R.out.below bb)
    replace S := Lib.hid (S.out.below bb)
    replace T := Lib.hid (T.out.below bb)
    replace I := Lib.hid (I.out.below bb)
    replace J := Lib.hid (J.out.below bb)
    replace X := Lib.hid (X.out.below bb)
    replace Y := Lib.hid (Y.out.below bb)
    replace bx := Lib.hid (bx.out.below bb)
    replace bs := Lib.hid (bs.out.below bb)
    replace bi := Lib.hid (bi.out.below bb)
    replace bt := Lib.hid (bt.out.below bb)
    have P := Lib.hid (reads_of_owns op)
    have bl : Below w7.heap.size w7 (w7.alloc (.cells #[.int .i64 W', .int .i64 H', .int .i64 C', .int .i64 D', .slice ap ps.length kp] 26)) := (Below.refl _ _).alloc (Nat.le_refl _) _
    have bp := Lib.hid (rbox_alloc w7 W' H' C' D' ap ps.length kp 26)
    replace B := Lib.hid (below_size B.out bl)
    replace R := Lib.hid (R.out.below bl)
    replace S := Lib.hid (S.out.below bl)
    replace T := Lib.hid (T.out.below bl)
    replace I := Lib.hid (I.out.below bl)
    replace J := Lib.hid (J.out.below bl)
    replace X := Lib.hid (X.out.below bl)
    replace Y := Lib.hid (Y.out.below bl)
    replace P := Lib.hid (P.out.below bl)
    replace bx := Lib.hid (bx.out.below bl)
    replace bs := Lib.hid (bs.out.below bl)
    replace bi := Lib.hid (bi.out.below bl)
    replace bt := Lib.hid (bt.out.below bl)
    clear bb bl op
    have c0 := bx.out.box.c0; have c1 := bx.out.box.c1; have c2 := bx.out.box.c2; have c3 := bx.out.box.c3; have c4 := bx.out.c4
    go_wp2_with fail
    clear c0 c1 c2 c3 c4
    generalize w7.alloc (.cells #[.int .i64 W', .int .i64 H', .int .i64 C', .int .i64 D', .slice ap ps.length kp] 26) = v7 at *
    generalize w7.heap.size = gp at *
    refine (P2.out _ R.out T.out).mono ?_; rintro e w8 ⟨aq, kq, rfl, oq, bb⟩
    replace B := Lib.hid (below_size B.out bb)
    replace R := Lib.hid (R.out.below bb)
    replace S := Lib.hid (S.out.below bb)
    replace T := Lib.hid (T.out.below bb)
    replace I := Lib.hid (I.out.below bb)
    replace J := Lib.hid (J.out.below bb)
    replace X := Lib.hid (X.out.below bb)
    replace Y := Lib.hid (Y.out.below bb)
    replace P := Lib.hid (P.out.below bb)
    replace bx := Lib.hid (bx.out.below bb)
    replace bs := Lib.hid (bs.out.below bb)
    replace bi := Lib.hid (bi.out.below bb)
    replace bt := Lib.hid (bt.out.below bb)
    replace bp := Lib.hid (bp.out.below bb)
    have Q := Lib.hid (reads_of_owns oq)
    have bl : Below w8.heap.size w8 (w8.alloc (.cells #[.int .i64 W', .int .i64 H', .int .i64 C', .int .i64 D', .slice aq ps.length kq] 26)) := (Below.refl _ _).alloc (Nat.le_refl _) _
    have bq := Lib.hid (rbox_alloc w8 W' H' C' D' aq ps.length kq 26)
    replace B := Lib.hid (below_size B.out bl)
    replace R := Lib.hid (R.out.below bl)
    replace S := Lib.hid (S.out.below bl)
    replace T := Lib.hid (T.out.below bl)
    replace I := Lib.hid (I.out.below bl)
    replace J := Lib.hid (J.out.below bl)
    replace X := Lib.hid (X.out.below bl)
    replace Y := Lib.hid (Y.out.below bl)
    replace P := Lib.hid (P.out.below bl)
    replace Q := Lib.hid (Q.out.below bl)
    replace bx := Lib.hid (bx.out.below bl)
    replace bs := Lib.hid (bs.out.below bl)
    replace bi := Lib.hid (bi.out.below bl)
    replace bt := Lib.hid (bt.out.below bl)
    replace bp := Lib.hid (bp.out.below bl)
    clear bb bl oq
    have c0 := bi.out.box.c0; have c1 := bi.out.box.c1; have c2 := bi.out.box.c2; have c3 := bi.out.box.c3; have c4 := bi.out.c4
    have d0 := bt.out.box.c0; have d1 := bt.out.box.c1; have d2 := bt.out.box.c2; have d3 := bt.out.box.c3; have d4 := bt.out.c4
    go_wp2_with fail
    clear c0 c1 c2 c3 c4 d0 d1 d2 d3 d4
    generalize w8.alloc (.cells #[.int .i64 W', .int .i64 H', .int .i64 C', .int .i64 D', .slice aq ps.length kq] 26) = v8 at *
    generalize w8.heap.size = gq at *
    refine (N1.out _ _ _ _ _ I.out J.out).mono ?_; rintro e w9 ⟨rfl, bb⟩
    replace B := Lib.hid (below_size B.out bb)
    replace R := Lib.hid (R.out.below bb)
    replace S := Lib.hid (S.out.below bb)
    replace T := Lib.hid (T.out.below bb)
    replace I := Lib.hid (I.out.below bb)
    replace J := Lib.hid (J.out.below bb)
    replace X := Lib.hid (X.out.below bb)
    replace Y := Lib.hid (Y.out.below bb)
    replace P := Lib.hid (P.out.below bb)
    replace Q := Lib.hid (Q.out.below bb)
    replace bx := Lib.hid (bx.out.below bb)
    replace bs := Lib.hid (bs.out.below bb)
    replace bi := Lib.hid (bi.out.below bb)
    replace bt := Lib.hid (bt.out.below bb)
    replace bp := Lib.hid (bp.out.below bb)
    replace bq := Lib.hid (bq.out.below bb)
    clear bb
    have c0 := bx.out.box.c0; have c1 := bx.out.box.c1; have c2 := bx.out.box.c2; have c3 := bx.out.box.c3; have c4 := bx.out.c4
    have d0 := bs.out.box.c0; have d1 := bs.out.box.c1; have d2 := bs.out.box.c2; have d3 := bs.out.box.c3; have d4 := bs.out.c4
    go_wp2_with fail
    clear c0 c1 c2 c3 c4 d0 d1 d2 d3 d4
    refine (N2.out _ R.out S.out).mono ?_; rintro e w10 ⟨rfl, bb⟩
    replace B := Lib.hid (below_size B.out bb)
    replace R := Lib.hid (R.out.below bb)
    replace S := Lib.hid (S.out.below bb)
    replace T := Lib.hid (T.out.below bb)
    replace I := Lib.hid (I.out.below bb)
    replace J := Lib.hid (J.out.below bb)
    replace X := Lib.hid (X.out.below bb)
    replace Y := Lib.hid (Y.out.below bb)
    replace P := Lib.hid (P.out.below bb)
    replace Q := Lib.hid (Q.out.below bb)
    replace bx := Lib.hid (bx.out.below bb)
    replace bs := Lib.hid (bs.out.below bb)
    replace bi := Lib.hid (bi.out.below bb)
    replace bt := Lib.hid (bt.out.below bb)
    replace bp := Lib.hid (bp.out.below bb)
    replace bq := Lib.hid (bq.out.below bb)
    clear bb
    go_wp2_with fail
    refine (first_any _).mono ?_; rintro e w11 ⟨rfl, bb⟩
    replace B := Lib.hid (below_size B.out bb)
    replace R := Lib.hid (R.out.below bb)
    replace S := Lib.hid (S.out.below bb)
    replace T := Lib.hid (T.out.below bb)
    replace I := Lib.hid (I.out.below bb)
    replace J := Lib.hid (J.out.below bb)
    replace X := Lib.hid (X.out.below bb)
    replace Y := Lib.hid (Y.out.below bb)
    replace P := Lib.hid (P.out.below bb)
    replace Q := Lib.hid (Q.out.below bb)
    replace bx := Lib.hid (bx.out.below bb)
    replace bs := Lib.hid (bs.out.below bb)
    replace bi := Lib.hid (bi.out.below bb)
    replace bt := Lib.hid (bt.out.below bb)
    replace bp := Lib.hid (bp.out.below bb)
    replace bq := Lib.hid (bq.out.below bb)
    clear bb
    go_wp2_with fail
    have q1 := bytes_any _ _ _ _ _ _ _ _ _ X.out Y.out mB.out mB.out
    rw [decide_eq_true rfl] at q1
    have Q1 := Lib.hid q1; clear q1
    refine Q1.out.mono ?_; rintro e w12 ⟨rfl, rfl⟩
    clear Q1
    have c0 := bp.out.box.c0; have c1 := bp.out.box.c1; have c2 := bp.out.box.c2; have c3 := bp.out.box.c3; have c4 := bp.out.c4
    have d0 := bq.out.box.c0; have d1 := bq.out.box.c1; have d2 := bq.out.box.c2; have d3 := bq.out.box.c3; have d4 := bq.out.c4
    go_wp2_with fail
    clear c0 c1 c2 c3 c4 d0 d1 d2 d3 d4
    have q1 := eqRaster_any W' H' C' D' W' H' C' D' _ _ _ _ _ _ _ _ _ P.out Q.out aB.out aB.out
    rw [eqR_self] at q1
    have Q1 := Lib.hid q1; clear q1
    refine Q1.out.mono ?_; rintro e w13 ⟨rfl, bb⟩
    replace B := Lib.hid (below_size B.out bb)
    replace R := Lib.hid (R.out.below bb)
    replace S := Lib.hid (S.out.below bb)
    replace T := Lib.hid (T.out.below bb)
    replace I := Lib.hid (I.out.below bb)
    replace J := Lib.hid (J.out.below bb)
    replace X := Lib.hid (X.out.below bb)
    replace Y := Lib.hid (Y.out.below bb)
    replace P := Lib.hid (P.out.below bb)
    replace Q := Lib.hid (Q.out.below bb)
    replace bx := Lib.hid (bx.out.below bb)
    replace bs := Lib.hid (bs.out.below bb)
    replace bi := Lib.hid (bi.out.below bb)
    replace bt := Lib.hid (bt.out.below bb)
    replace bp := Lib.hid (bp.out.below bb)
    replace bq := Lib.hid (bq.out.below bb)
    clear Q1 bb
    have c0 := bi.out.box.c0; have c1 := bi.out.box.c1; have c2 := bi.out.box.c2; have c3 := bi.out.box.c3; have c4 := bi.out.c4
    have d0 := bx.out.box.c0; have d1 := bx.out.box.c1; have d2 := bx.out.box.c2; have d3 := bx.out.box.c3; have d4 := bx.out.c4
    go_wp2_with fail
    clear c0 c1 c2 c3 c4 d0 d1 d2 d3 d4
    have q1 := eqRaster_any W H C D W H C D _ _ _ _ _ _ _ _ _ I.out R.out hXB.out hXB.out
    rw [eqR_self] at q1
    have Q1 := Lib.hid q1; clear q1
    refine Q1.out.mono ?_; rintro e w14 ⟨rfl, bb⟩
    replace B := Lib.hid (below_size B.out bb)
    replace R := Lib.hid (R.out.below bb)
    replace S := Lib.hid (S.out.below bb)
    replace T := Lib.hid (T.out.below bb)
    replace I := Lib.hid (I.out.below bb)
    replace J := Lib.hid (J.out.below bb)
    replace X := Lib.hid (X.out.below bb)
    replace Y := Lib.hid (Y.out.below bb)
    replace P := Lib.hid (P.out.below bb)
    replace Q := Lib.hid (Q.out.below bb)
    replace bx := Lib.hid (bx.out.below bb)
    replace bs := Lib.hid (bs.out.below bb)
    replace bi := Lib.hid (bi.out.below bb)
    replace bt := Lib.hid (bt.out.below bb)
    replace bp := Lib.hid (bp.out.below bb)
    replace bq := Lib.hid (bq.out.below bb)
    clear Q1 bb
    have c0 := bt.out.box.c0; have c1 := bt.out.box.c1; have c2 := bt.out.box.c2; have c3 := bt.out.box.c3; have c4 := bt.out.c4
    have d0 := bs.out.box.c0; have d1 := bs.out.box.c1; have d2 := bs.out.box.c2; have d3 := bs.out.box.c3; have d4 := bs.out.c4
    go_wp2_with fail
    clear c0 c1 c2 c3 c4 d0 d1 d2 d3 d4
    have q1 := eqRaster_any W2 H2 C2 D2 W2 H2 C2 D2 _ _ _ _ _ _ _ _ _ J.out S.out hYB.out hYB.out
    rw [eqR_self] at q1
    have Q1 := Lib.hid q1; clear q1
    refine Q1.out.mono ?_; rintro e w15 ⟨rfl, bb⟩
    replace B := Lib.hid (below_size B.out bb)
    clear Q1 bb
    go_wp2_with fail
    go_ret
    exact ⟨rfl, B.out⟩

theorem walk_DiffMakes (kind W H C D : Int) (a : Option Addr) (n cap : Nat) (xs : List Int) (W2 H2 C2 D2 : Int) (b : Option Addr) (m cb : Nat) (ys : List Int) (d : Option Addr) (l cd : Nat) (ds : List Int) (w : World) (_ : -9223372036854775808 ≤ kind ∧ kind ≤ 9223372036854775807) (_ : -9223372036854775808 ≤ W ∧ W ≤ 9223372036854775807) (hH : -9223372036854775808 ≤ H ∧ H ≤ 9223372036854775807) (_ : -9223372036854775808 ≤ C ∧ C ≤ 9223372036854775807) (_ : -9223372036854775808 ≤ D ∧ D ≤ 9223372036854775807) (hr : Reads .u8 w a n cap xs) (hx : isB xs) (_ : -9223372036854775808 ≤ W2 ∧ W2 ≤ 9223372036854775807) (hH2 : -9223372036854775808 ≤ H2 ∧ H2 ≤ 9223372036854775807) (_ : -9223372036854775808 ≤ C2 ∧ C2 ≤ 9223372036854775807) (_ : -9223372036854775808 ≤ D2 ∧ D2 ≤ 9223372036854775807) (hs : Reads .u8 w b m cb ys) (hy : isB ys) (hd : Reads .u8 w d l cd ds) (hdb : isB ds) :
    Calls Try.prog 3 #[.int .i64 kind, ras W H C D a n cap, ras W2 H2 C2 D2 b m cb, .slice d l cd] w fun e w' => e = .returned (.bool true) ∧ Below w.heap.size w w' := by
  by_cases h1 : n ≤ 20000
  · by_cases h2 : m ≤ 20000
    · by_cases h3 : l ≤ 20000
      · exact makes_main kind W H C D a n cap xs W2 H2 C2 D2 b m cb ys d l cd ds w hr hx hs hy hd hdb hH hH2 h1 h2 h3
      · exact makes_few3 kind W H C D a n cap xs W2 H2 C2 D2 b m cb ys d l cd ds w hr hx hs hy hd hdb hH hH2 ⟨h1, h2, h3⟩
    · exact makes_few2 kind W H C D a n cap xs W2 H2 C2 D2 b m cb ys d l cd ds w hr hx hs hy hd hdb hH hH2 ⟨h1, h2⟩
  · exact makes_few1 kind W H C D a n cap xs W2 H2 C2 D2 b m cb ys d l cd ds w hr hx hs hy hd hdb hH hH2 h1
end Go.Proofs.Ytljkkhjgcgiccaa
