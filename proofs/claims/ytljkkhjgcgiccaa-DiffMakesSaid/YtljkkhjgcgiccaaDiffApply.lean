/-
  Apply of chapter 11, both ways.
-/
import Derived.Test.YtljkkhjgcgiccaaDiffRef
namespace Go.Proofs.Ytljkkhjgcgiccaa
open Go.RowKit

theorem below_set {b : Nat} {w w' : World} (h : Below b w w') (g i : Nat) (v : Value) (hg : b ≤ g) : Below b w (w'.setCell ⟨g, i, Option.none⟩ v) := h.setCell (by simpa using hg) v
/-- What Apply answers: the error. -/
def apE (kind W H C D : Int) (n m : Nat) : Int := if kind ≠ 1 ∧ kind ≠ 2 then 1 else if mayR W H C D n = true then (if m < n then 2 else if n < m then 3 else 0) else 4
/-- One byte. -/
def ap (kind x y : Int) : Int := if kind = 1 then ((x.toNat ^^^ y.toNat : Nat) : Int) else (x + y) % 256
def apL (kind : Int) (bs ds : List Int) : List Int := (List.range ds.length).map fun i => ap kind (bs.getD i 0) (ds.getD i 0)
theorem apL_len (kind : Int) (bs ds : List Int) : (apL kind bs ds).length = ds.length := by simp [apL]
theorem apL_getD (kind : Int) (bs ds : List Int) (i : Nat) (h : i < ds.length) : (apL kind bs ds).getD i 0 = ap kind (bs.getD i 0) (ds.getD i 0) := by rw [apL, getD_map_range, if_pos h]
theorem ap_bd (kind x y : Int) (hx : 0 ≤ x ∧ x < 256) (hy : 0 ≤ y ∧ y < 256) : 0 ≤ ap kind x y ∧ ap kind x y < 256 := by
  unfold ap
  split
  · have : x.toNat ^^^ y.toNat < 2 ^ 8 := Nat.xor_lt_two_pow (by omega) (by omega)
    omega
  · omega
theorem apL_isB (kind : Int) (bs ds : List Int) (hb : isB bs) (hd : isB ds) (hl : bs.length = ds.length) : isB (apL kind bs ds) := by
  intro x hx
  simp only [apL, List.mem_map, List.mem_range] at hx
  obtain ⟨i, hi, rfl⟩ := hx
  exact ap_bd _ _ _ (hb.get i (by omega)) (hd.get i hi)

set_option maxRecDepth 100000 in
set_option maxHeartbeats 2000000 in
theorem apply_kind (kind W H C D : Int) (a : Option Addr) (n cap : Nat) (b : Option Addr) (m k : Nat) (w : World) (hH : -9223372036854775808 ≤ H ∧ H ≤ 9223372036854775807) (hk : kind ≠ 1 ∧ kind ≠ 2) :
    Calls Try.prog 10 #[.int .i64 kind, ras W H C D a n cap, .slice b m k] w (RetRas w 0 0 0 0 [] 1) := by
  have hb1 : Below w.heap.size w ((w.alloc (.cells #[.int .i64 W, .int .i64 H, .int .i64 C, .int .i64 D, .slice a n cap] 26)).alloc (.cells #[.int .i64 0, .int .i64 0, .int .i64 0, .int .i64 0, .slice Option.none 0 0] 26)) := ((Below.refl _ _).alloc (Nat.le_refl _) _).alloc (by simp) _
  have bx0 := (rbox_alloc w W H C D a n cap 26).below ((Below.refl _ _).alloc (Nat.le_refl _) (.cells #[.int .i64 0, .int .i64 0, .int .i64 0, .int .i64 0, .slice Option.none 0 0] 26))
  have by0 := rbox_alloc (w.alloc (.cells #[.int .i64 W, .int .i64 H, .int .i64 C, .int .i64 D, .slice a n cap] 26)) 0 0 0 0 Option.none 0 0 26
  rw [World.size_alloc] at by0
  have B := Lib.hid hb1; have BX := Lib.hid bx0; have BY := Lib.hid by0
  have Hv := Lib.hid (show w.heap.size + 2 ≤ ((w.alloc (.cells #[.int .i64 W, .int .i64 H, .int .i64 C, .int .i64 D, .slice a n cap] 26)).alloc (.cells #[.int .i64 0, .int .i64 0, .int .i64 0, .int .i64 0, .slice Option.none 0 0] 26)).heap.size by simp)
  have h1 : (kind != 1) = true := by simpa using hk.1
  have h2 : (kind != 2) = true := by simpa using hk.2
  clear hk hb1 bx0 by0
  go_enter Try.func10, Try.ntmps10
  have HP := Lib.hid (fun w' => size_any W H C D w' hH)
  go_wp2_with fail
  generalize ((w.alloc (.cells #[.int .i64 W, .int .i64 H, .int .i64 C, .int .i64 D, .slice a n cap] 26)).alloc (.cells #[.int .i64 0, .int .i64 0, .int .i64 0, .int .i64 0, .slice Option.none 0 0] 26)) = v0 at *
  refine (HP.out _).mono ?_; rintro e w1 ⟨rfl, bb⟩
  replace B := Lib.hid (below_size B.out bb)
  replace BX := Lib.hid (BX.out.below bb)
  replace BY := Lib.hid (BY.out.below bb)
  clear bb
  generalize sizeN W H C D = sz at *
  have d0 := BY.out.box.c0; have d1 := BY.out.box.c1; have d2 := BY.out.box.c2; have d3 := BY.out.box.c3; have d4 := BY.out.c4; have f0 := BY.out.box.f0; have f1 := BY.out.box.f1; have f2 := BY.out.box.f2; have f3 := BY.out.box.f3; have f4 := BY.out.f4
  go_wp2_with fail
  refine bodyPost_ret (results_ras rfl _ _ _ rfl (BY.out.set 0 0 0 0 Option.none 0 0)) rfl ?_
  exact retRas_err (((((B.out.setCell (by simp) _).setCell (by simp) _).setCell (by simp) _).setCell (by simp) _).setCell (by simp) _)

set_option maxRecDepth 100000 in
set_option maxHeartbeats 2000000 in
theorem apply_not (kind W H C D : Int) (a : Option Addr) (n cap : Nat) (b : Option Addr) (m k : Nat) (w : World) (hH : -9223372036854775808 ≤ H ∧ H ≤ 9223372036854775807) (hk : kind = 1 ∨ kind = 2) (hn : n ≤ 1000000) (hm : m ≤ 1000000) {E : Int} (he : E = if mayR W H C D n = true then (if m < n then 2 else if n < m then 3 else 0) else 4) (he0 : E ≠ 0) :
    Calls Try.prog 10 #[.int .i64 kind, ras W H C D a n cap, .slice b m k] w (RetRas w 0 0 0 0 [] E) := by
  have hb1 : Below w.heap.size w ((w.alloc (.cells #[.int .i64 W, .int .i64 H, .int .i64 C, .int .i64 D, .slice a n cap] 26)).alloc (.cells #[.int .i64 0, .int .i64 0, .int .i64 0, .int .i64 0, .slice Option.none 0 0] 26)) := ((Below.refl _ _).alloc (Nat.le_refl _) _).alloc (by simp) _
  have bx0 := (rbox_alloc w W H C D a n cap 26).below ((Below.refl _ _).alloc (Nat.le_refl _) (.cells #[.int .i64 0, .int .i64 0, .int .i64 0, .int .i64 0, .slice Option.none 0 0] 26))
  have by0 := rbox_alloc (w.alloc (.cells #[.int .i64 W, .int .i64 H, .int .i64 C, .int .i64 D, .slice a n cap] 26)) 0 0 0 0 Option.none 0 0 26
  rw [World.size_alloc] at by0
  have B := Lib.hid hb1; have BX := Lib.hid bx0; have BY := Lib.hid by0
  have Hv := Lib.hid (show w.heap.size + 2 ≤ ((w.alloc (.cells #[.int .i64 W, .int .i64 H, .int .i64 C, .int .i64 D, .slice a n cap] 26)).alloc (.cells #[.int .i64 0, .int .i64 0, .int .i64 0, .int .i64 0, .slice Option.none 0 0] 26)).heap.size by simp)
  have HM := fun w' => may_any W H C D a n cap w' hH
  have HP := Lib.hid (fun w' => size_any W H C D w' hH)
  clear hb1 bx0 by0
  cases hM : mayR W H C D n
  · rw [hM] at he HM
    replace HM := Lib.hid HM
    obtain rfl : E = 4 := by simpa using he
    clear he he0 hM
    rcases hk with rfl | rfl
    all_goals
      go_enter Try.func10, Try.ntmps10
      go_wp2_with fail
      generalize ((w.alloc (.cells #[.int .i64 W, .int .i64 H, .int .i64 C, .int .i64 D, .slice a n cap] 26)).alloc (.cells #[.int .i64 0, .int .i64 0, .int .i64 0, .int .i64 0, .slice Option.none 0 0] 26)) = v0 at *
      refine (HP.out _).mono ?_; rintro e w1 ⟨rfl, bb⟩
      replace B := Lib.hid (below_size B.out bb)
      replace BX := Lib.hid (BX.out.below bb)
      replace BY := Lib.hid (BY.out.below bb)
      clear bb
      generalize sizeN W H C D = sz at *
      have c0 := BX.out.box.c0; have c1 := BX.out.box.c1; have c2 := BX.out.box.c2; have c3 := BX.out.box.c3; have c4 := BX.out.c4
      go_wp2_with fail
      clear c0 c1 c2 c3 c4
      refine (HM.out _).mono ?_; rintro e w2 ⟨rfl, bb⟩
      replace B := Lib.hid (below_size B.out bb)
      replace BX := Lib.hid (BX.out.below bb)
      replace BY := Lib.hid (BY.out.below bb)
      clear bb
      have c0 := BX.out.box.c0; have c1 := BX.out.box.c1; have c2 := BX.out.box.c2; have c3 := BX.out.box.c3; have c4 := BX.out.c4
      have d0 := BY.out.box.c0; have d1 := BY.out.box.c1; have d2 := BY.out.box.c2; have d3 := BY.out.box.c3; have d4 := BY.out.c4; have f0 := BY.out.box.f0; have f1 := BY.out.box.f1; have f2 := BY.out.box.f2; have f3 := BY.out.box.f3; have f4 := BY.out.f4
      go_wp2_with fail
      refine bodyPost_ret (results_ras rfl _ _ _ rfl (BY.out.set 0 0 0 0 Option.none 0 0)) rfl ?_
      exact retRas_err (((((B.out.setCell (by simp) _).setCell (by simp) _).setCell (by simp) _).setCell (by simp) _).setCell (by simp) _)
  · rw [hM] at he HM
    replace HM := Lib.hid HM
    have hsz : (n : Int) = sizeN W H C D := (mayR_spec hM).2.2
    simp only [if_true] at he
    by_cases h1 : m < n
    · rw [if_pos h1] at he
      subst he
      have h2 : (m : Int) < n := by omega
      clear he0 hM h1
      rcases hk with rfl | rfl
      all_goals
        go_enter Try.func10, Try.ntmps10
        go_wp2_with fail
        generalize ((w.alloc (.cells #[.int .i64 W, .int .i64 H, .int .i64 C, .int .i64 D, .slice a n cap] 26)).alloc (.cells #[.int .i64 0, .int .i64 0, .int .i64 0, .int .i64 0, .slice Option.none 0 0] 26)) = v0 at *
        refine (HP.out _).mono ?_; rintro e w1 ⟨rfl, bb⟩
        replace B := Lib.hid (below_size B.out bb)
        replace BX := Lib.hid (BX.out.below bb)
        replace BY := Lib.hid (BY.out.below bb)
        clear bb
        rw [← hsz]
        have c0 := BX.out.box.c0; have c1 := BX.out.box.c1; have c2 := BX.out.box.c2; have c3 := BX.out.box.c3; have c4 := BX.out.c4
        go_wp2_with fail
        clear c0 c1 c2 c3 c4
        refine (HM.out _).mono ?_; rintro e w2 ⟨rfl, bb⟩
        replace B := Lib.hid (below_size B.out bb)
        replace BX := Lib.hid (BX.out.below bb)
        replace BY := Lib.hid (BY.out.below bb)
        clear bb
        have c0 := BX.out.box.c0; have c1 := BX.out.box.c1; have c2 := BX.out.box.c2; have c3 := BX.out.box.c3; have c4 := BX.out.c4
        have d0 := BY.out.box.c0; have d1 := BY.out.box.c1; have d2 := BY.out.box.c2; have d3 := BY.out.box.c3; have d4 := BY.out.c4; have f0 := BY.out.box.f0; have f1 := BY.out.box.f1; have f2 := BY.out.box.f2; have f3 := BY.out.box.f3; have f4 := BY.out.f4
        go_wp2_with fail
        refine bodyPost_ret (results_ras rfl _ _ _ rfl (BY.out.set 0 0 0 0 Option.none 0 0)) rfl ?_
        exact retRas_err (((((B.out.setCell (by simp) _).setCell (by simp) _).setCell (by simp) _).setCell (by simp) _).setCell (by simp) _)
    · rw [if_neg h1] at he
      by_cases h2 : n < m
      · rw [if_pos h2] at he
        subst he
        have h3 : ¬ (m : Int) < n := by omega
        have h4 : (n : Int) < m := by omega
        clear he0 hM h1 h2
        rcases hk with rfl | rfl
        all_goals
          go_enter Try.func10, Try.ntmps10
          go_wp2_with fail
          generalize ((w.alloc (.cells #[.int .i64 W, .int .i64 H, .int .i64 C, .int .i64 D, .slice a n cap] 26)).alloc (.cells #[.int .i64 0, .int .i64 0, .int .i64 0, .int .i64 0, .slice Option.none 0 0] 26)) = v0 at *
          refine (HP.out _).mono ?_; rintro e w1 ⟨rfl, bb⟩
          replace B := Lib.hid (below_size B.out bb)
          replace BX := Lib.hid (BX.out.below bb)
          replace BY := Lib.hid (BY.out.below bb)
          clear bb
          rw [← hsz]
          have c0 := BX.out.box.c0; have c1 := BX.out.box.c1; have c2 := BX.out.box.c2; have c3 := BX.out.box.c3; have c4 := BX.out.c4
          go_wp2_with fail
          clear c0 c1 c2 c3 c4
          refine (HM.out _).mono ?_; rintro e w2 ⟨rfl, bb⟩
          replace B := Lib.hid (below_size B.out bb)
          replace BX := Lib.hid (BX.out.below bb)
          replace BY := Lib.hid (BY.out.below bb)
          clear bb
          have c0 := BX.out.box.c0; have c1 := BX.out.box.c1; have c2 := BX.out.box.c2; have c3 := BX.out.box.c3; have c4 := BX.out.c4
          have d0 := BY.out.box.c0; have d1 := BY.out.box.c1; have d2 := BY.out.box.c2; have d3 := BY.out.box.c3; have d4 := BY.out.c4; have f0 := BY.out.box.f0; have f1 := BY.out.box.f1; have f2 := BY.out.box.f2; have f3 := BY.out.box.f3; have f4 := BY.out.f4
          go_wp2_with fail
          refine bodyPost_ret (results_ras rfl _ _ _ rfl (BY.out.set 0 0 0 0 Option.none 0 0)) rfl ?_
          exact retRas_err (((((B.out.setCell (by simp) _).setCell (by simp) _).setCell (by simp) _).setCell (by simp) _).setCell (by simp) _)
      · rw [if_neg h2] at he; exact absurd he he0

set_option maxRecDepth 100000 in
set_option maxHeartbeats 2000000 in
theorem rapply_kind (kind W H C D : Int) (a : Option Addr) (n cap : Nat) (b : Option Addr) (m k : Nat) (w : World) (hH : -9223372036854775808 ≤ H ∧ H ≤ 9223372036854775807) (hk : kind ≠ 1 ∧ kind ≠ 2) :
    Calls Try.prog 11 #[.int .i64 kind, ras W H C D a n cap, .slice b m k] w (RetRas w 0 0 0 0 [] 1) := by
  have hb1 : Below w.heap.size w ((w.alloc (.cells #[.int .i64 W, .int .i64 H, .int .i64 C, .int .i64 D, .slice a n cap] 26)).alloc (.cells #[.int .i64 0, .int .i64 0, .int .i64 0, .int .i64 0, .slice Option.none 0 0] 26)) := ((Below.refl _ _).alloc (Nat.le_refl _) _).alloc (by simp) _
  have bx0 := (rbox_alloc w W H C D a n cap 26).below ((Below.refl _ _).alloc (Nat.le_refl _) (.cells #[.int .i64 0, .int .i64 0, .int .i64 0, .int .i64 0, .slice Option.none 0 0] 26))
  have by0 := rbox_alloc (w.alloc (.cells #[.int .i64 W, .int .i64 H, .int .i64 C, .int .i64 D, .slice a n cap] 26)) 0 0 0 0 Option.none 0 0 26
  rw [World.size_alloc] at by0
  have B := Lib.hid hb1; have BX := Lib.hid bx0; have BY := Lib.hid by0
  have Hv := Lib.hid (show w.heap.size + 2 ≤ ((w.alloc (.cells #[.int .i64 W, .int .i64 H, .int .i64 C, .int .i64 D, .slice a n cap] 26)).alloc (.cells #[.int .i64 0, .int .i64 0, .int .i64 0, .int .i64 0, .slice Option.none 0 0] 26)).heap.size by simp)
  have h1 : (kind != 1) = true := by simpa using hk.1
  have h2 : (kind != 2) = true := by simpa using hk.2
  clear hk hb1 bx0 by0
  go_enter Try.func11, Try.ntmps11
  go_upto_region 2 with fail
  generalize ((w.alloc (.cells #[.int .i64 W, .int .i64 H, .int .i64 C, .int .i64 D, .slice a n cap] 26)).alloc (.cells #[.int .i64 0, .int .i64 0, .int .i64 0, .int .i64 0, .slice Option.none 0 0] 26)) = v0 at *
  have d0 := BY.out.box.c0; have d1 := BY.out.box.c1; have d2 := BY.out.box.c2; have d3 := BY.out.box.c3; have d4 := BY.out.c4; have f0 := BY.out.box.f0; have f1 := BY.out.box.f1; have f2 := BY.out.box.f2; have f3 := BY.out.box.f3; have f4 := BY.out.f4
  go_wp2_with fail
  refine bodyPost_ret (results_ras rfl _ _ _ rfl (BY.out.set 0 0 0 0 Option.none 0 0)) rfl ?_
  exact retRas_err (((((B.out.setCell (by simp) _).setCell (by simp) _).setCell (by simp) _).setCell (by simp) _).setCell (by simp) _)

set_option maxRecDepth 100000 in
set_option maxHeartbeats 2000000 in
theorem rapply_not (kind W H C D : Int) (a : Option Addr) (n cap : Nat) (b : Option Addr) (m k : Nat) (w : World) (hH : -9223372036854775808 ≤ H ∧ H ≤ 9223372036854775807) (hk : kind = 1 ∨ kind = 2) (hn : n ≤ 1000000) (hm : m ≤ 1000000) {E : Int} (he : E = if mayR W H C D n = true then (if m < n then 2 else if n < m then 3 else 0) else 4) (he0 : E ≠ 0) :
    Calls Try.prog 11 #[.int .i64 kind, ras W H C D a n cap, .slice b m k] w (RetRas w 0 0 0 0 [] E) := by
  have hb1 : Below w.heap.size w ((w.alloc (.cells #[.int .i64 W, .int .i64 H, .int .i64 C, .int .i64 D, .slice a n cap] 26)).alloc (.cells #[.int .i64 0, .int .i64 0, .int .i64 0, .int .i64 0, .slice Option.none 0 0] 26)) := ((Below.refl _ _).alloc (Nat.le_refl _) _).alloc (by simp) _
  have bx0 := (rbox_alloc w W H C D a n cap 26).below ((Below.refl _ _).alloc (Nat.le_refl _) (.cells #[.int .i64 0, .int .i64 0, .int .i64 0, .int .i64 0, .slice Option.none 0 0] 26))
  have by0 := rbox_alloc (w.alloc (.cells #[.int .i64 W, .int .i64 H, .int .i64 C, .int .i64 D, .slice a n cap] 26)) 0 0 0 0 Option.none 0 0 26
  rw [World.size_alloc] at by0
  have B := Lib.hid hb1; have BX := Lib.hid bx0; have BY := Lib.hid by0
  have Hv := Lib.hid (show w.heap.size + 2 ≤ ((w.alloc (.cells #[.int .i64 W, .int .i64 H, .int .i64 C, .int .i64 D, .slice a n cap] 26)).alloc (.cells #[.int .i64 0, .int .i64 0, .int .i64 0, .int .i64 0, .slice Option.none 0 0] 26)).heap.size by simp)
  have HM := fun w' => rmay_any W H C D a n cap w' hH
  have HP := Lib.hid (fun w' => size_any W H C D w' hH)
  clear hb1 bx0 by0
  cases hM : mayR W H C D n
  · rw [hM] at he HM
    replace HM := Lib.hid HM
    obtain rfl : E = 4 := by simpa using he
    clear he he0 hM
    rcases hk with rfl | rfl
    all_goals
      go_enter Try.func11, Try.ntmps11
      go_wp2_with fail
      generalize ((w.alloc (.cells #[.int .i64 W, .int .i64 H, .int .i64 C, .int .i64 D, .slice a n cap] 26)).alloc (.cells #[.int .i64 0, .int .i64 0, .int .i64 0, .int .i64 0, .slice Option.none 0 0] 26)) = v0 at *
      refine (HM.out _).mono ?_; rintro e w2 ⟨rfl, bb⟩
      replace B := Lib.hid (below_size B.out bb)
      replace BX := Lib.hid (BX.out.below bb)
      replace BY := Lib.hid (BY.out.below bb)
      clear bb
      have c0 := BX.out.box.c0; have c1 := BX.out.box.c1; have c2 := BX.out.box.c2; have c3 := BX.out.box.c3; have c4 := BX.out.c4
      have d0 := BY.out.box.c0; have d1 := BY.out.box.c1; have d2 := BY.out.box.c2; have d3 := BY.out.box.c3; have d4 := BY.out.c4; have f0 := BY.out.box.f0; have f1 := BY.out.box.f1; have f2 := BY.out.box.f2; have f3 := BY.out.box.f3; have f4 := BY.out.f4
      go_wp2_with fail
      refine bodyPost_ret (results_ras rfl _ _ _ rfl (BY.out.set 0 0 0 0 Option.none 0 0)) rfl ?_
      exact retRas_err (((((B.out.setCell (by simp) _).setCell (by simp) _).setCell (by simp) _).setCell (by simp) _).setCell (by simp) _)
  · rw [hM] at he HM
    replace HM := Lib.hid HM
    have hsz : (n : Int) = sizeN W H C D := (mayR_spec hM).2.2
    simp only [if_true] at he
    by_cases h1 : m < n
    · rw [if_pos h1] at he
      subst he
      have h2 : (m : Int) < n := by omega
      clear he0 hM h1
      rcases hk with rfl | rfl
      all_goals
        go_enter Try.func11, Try.ntmps11
        go_wp2_with fail
        generalize ((w.alloc (.cells #[.int .i64 W, .int .i64 H, .int .i64 C, .int .i64 D, .slice a n cap] 26)).alloc (.cells #[.int .i64 0, .int .i64 0, .int .i64 0, .int .i64 0, .slice Option.none 0 0] 26)) = v0 at *
        refine (HM.out _).mono ?_; rintro e w2 ⟨rfl, bb⟩
        replace B := Lib.hid (below_size B.out bb)
        replace BX := Lib.hid (BX.out.below bb)
        replace BY := Lib.hid (BY.out.below bb)
        clear bb
        have c0 := BX.out.box.c0; have c1 := BX.out.box.c1; have c2 := BX.out.box.c2; have c3 := BX.out.box.c3; have c4 := BX.out.c4
        have d0 := BY.out.box.c0; have d1 := BY.out.box.c1; have d2 := BY.out.box.c2; have d3 := BY.out.box.c3; have d4 := BY.out.c4; have f0 := BY.out.box.f0; have f1 := BY.out.box.f1; have f2 := BY.out.box.f2; have f3 := BY.out.box.f3; have f4 := BY.out.f4
        go_wp2_with fail
        refine bodyPost_ret (results_ras rfl _ _ _ rfl (BY.out.set 0 0 0 0 Option.none 0 0)) rfl ?_
        exact retRas_err (((((B.out.setCell (by simp) _).setCell (by simp) _).setCell (by simp) _).setCell (by simp) _).setCell (by simp) _)
    · rw [if_neg h1] at he
      by_cases h2 : n < m
      · rw [if_pos h2] at he
        subst he
        have h3 : ¬ (m : Int) < n := by omega
        have h4 : (n : Int) < m := by omega
        clear he0 hM h1 h2
        rcases hk with rfl | rfl
        all_goals
          go_enter Try.func11, Try.ntmps11
          go_wp2_with fail
          generalize ((w.alloc (.cells #[.int .i64 W, .int .i64 H, .int .i64 C, .int .i64 D, .slice a n cap] 26)).alloc (.cells #[.int .i64 0, .int .i64 0, .int .i64 0, .int .i64 0, .slice Option.none 0 0] 26)) = v0 at *
          refine (HM.out _).mono ?_; rintro e w2 ⟨rfl, bb⟩
          replace B := Lib.hid (below_size B.out bb)
          replace BX := Lib.hid (BX.out.below bb)
          replace BY := Lib.hid (BY.out.below bb)
          clear bb
          have c0 := BX.out.box.c0; have c1 := BX.out.box.c1; have c2 := BX.out.box.c2; have c3 := BX.out.box.c3; have c4 := BX.out.c4
          have d0 := BY.out.box.c0; have d1 := BY.out.box.c1; have d2 := BY.out.box.c2; have d3 := BY.out.box.c3; have d4 := BY.out.c4; have f0 := BY.out.box.f0; have f1 := BY.out.box.f1; have f2 := BY.out.box.f2; have f3 := BY.out.box.f3; have f4 := BY.out.f4
          go_wp2_with fail
          refine bodyPost_ret (results_ras rfl _ _ _ rfl (BY.out.set 0 0 0 0 Option.none 0 0)) rfl ?_
          exact retRas_err (((((B.out.setCell (by simp) _).setCell (by simp) _).setCell (by simp) _).setCell (by simp) _).setCell (by simp) _)
      · rw [if_neg h2] at he; exact absurd he he0

end Go.Proofs.Ytljkkhjgcgiccaa
