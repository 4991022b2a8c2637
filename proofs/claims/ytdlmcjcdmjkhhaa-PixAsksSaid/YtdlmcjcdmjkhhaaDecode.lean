/-
  pix.Decode.
-/
import Derived.Test.YtdlmcjcdmjkhhaaPixSetPure
import Derived.Deep.RegionHeld3
namespace Go.Proofs.Ytdlmcjcdmjkhhaa
open Go.RowKit

/-- The shape that bytes begin with. -/
def dW (xs : List Int) : Int := xs.getD 1 0 * 256 + xs.getD 2 0
def dH (xs : List Int) : Int := xs.getD 3 0 * 256 + xs.getD 4 0
def dC (xs : List Int) : Int := xs.getD 5 0
def dD (xs : List Int) : Int := xs.getD 6 0
def decErr (xs : List Int) : Int :=
  if xs.length < 7 then 2 else if xs.getD 0 0 ≠ 82 ∨ mayN (dW xs) (dH xs) (dC xs) (dD xs) = false then 4
  else if (xs.length : Int) - 7 < sizeN (dW xs) (dH xs) (dC xs) (dD xs) then 2 else if sizeN (dW xs) (dH xs) (dC xs) (dD xs) < (xs.length : Int) - 7 then 3 else 0
theorem decErr_zero {xs : List Int} (h : decErr xs = 0) : 7 ≤ xs.length ∧ xs.getD 0 0 = 82 ∧ mayN (dW xs) (dH xs) (dC xs) (dD xs) = true ∧ (xs.length : Int) - 7 = sizeN (dW xs) (dH xs) (dC xs) (dD xs) := by
  unfold decErr at h
  split at h
  · simp at h
  · split at h
    · simp at h
    · next h2 =>
      simp only [not_or, Classical.not_not, Bool.not_eq_false] at h2
      split at h
      · simp at h
      · split at h
        · simp at h
        · exact ⟨by omega, h2.1, h2.2, by omega⟩

/-- A picture of new memory and an error's number. -/
def RetRas (w : World) (W H C D : Int) (ys : List Int) (E : Int) (e : Ending) (w' : World) : Prop :=
  ∃ (a : Option Addr) (k : Nat), e = .returned (.tuple #[ras W H C D a ys.length k, .int .i64 E]) ∧ w'.ownsRow w.heap.size 5 1 (.slice a ys.length k) ys.length (ys.map (Value.int .u8)) ∧ Below w.heap.size w w'
/-- The rest of a list. -/
theorem reads_from {w : World} {b off n cap : Nat} {xs : List Int} (h : Reads .u8 w (some ⟨b, off, Option.none⟩) n cap xs) (k : Nat) (hk : k ≤ n) (hc : k < cap) : Reads .u8 w (some ⟨b, off + k, Option.none⟩) (n - k) (cap - k) (xs.drop k) := by
  have := h.cut k n hk (Nat.le_refl _)
  rw [List.take_of_length_le (by simp [h.len])] at this
  unfold cutA at this
  rw [if_neg (by omega)] at this
  simpa only [Option.map_some, Addr.add_lit] using this
/-- What Decode gives. -/
def DecPost (w : World) (W H C D : Int) (ys : List Int) (E : Int) (e : Ending) (w' : World) : Prop :=
  (E = 0 → RetRas w W H C D ys 0 e w') ∧ (E ≠ 0 → RetRas w 0 0 0 0 [] E e w')
theorem retRas_err {w w' : World} {E : Int} (h : Below w.heap.size w w') : RetRas w 0 0 0 0 [] E (.returned (.tuple #[ras 0 0 0 0 Option.none 0 0, .int .i64 E])) w' :=
  ⟨Option.none, 0, rfl, World.ownsRow_nil _ _ _ _, h⟩

set_option maxRecDepth 100000 in
set_option maxHeartbeats 1000000 in
theorem dec_short (a : Option Addr) (n cap : Nat) (xs : List Int) (w : World) (hr : Reads .u8 w a n cap xs) (hn : n < 7) :
    Calls Try.prog 28 #[.slice a n cap] w (RetRas w 0 0 0 0 [] 2) := by
  have by0 := Lib.hid (rbox_alloc w 0 0 0 0 Option.none 0 0 26)
  have hB := Lib.hid ((Below.refl w.heap.size w).alloc (Nat.le_refl _) (.cells #[.int .i64 0, .int .i64 0, .int .i64 0, .int .i64 0, .slice Option.none 0 0] 26))
  have hn' : (n : Int) < 7 := by omega
  clear hr hn
  go_enter Try.func28, Try.ntmps28
  go_wp2_with fail
  refine bodyPost_ret (results_ras rfl _ _ _ rfl by0.out) rfl ?_
  exact retRas_err hB.out

set_option maxRecDepth 100000 in
set_option maxHeartbeats 1000000 in
theorem dec_err (a : Option Addr) (n cap : Nat) (xs : List Int) (w : World) (hr : Reads .u8 w a n cap xs) (hx : isB xs) (hn : 7 ≤ n) (hn2 : n ≤ 1000000) (hne : decErr xs ≠ 0) :
    Calls Try.prog 28 #[.slice a n cap] w (RetRas w 0 0 0 0 [] (decErr xs)) := by
  have hl := hr.len
  have hlc := hr.le
  have by0 := Lib.hid (rbox_alloc w 0 0 0 0 Option.none 0 0 26)
  have hB0 := Lib.hid ((Below.refl w.heap.size w).alloc (Nat.le_refl _) (.cells #[.int .i64 0, .int .i64 0, .int .i64 0, .int .i64 0, .slice Option.none 0 0] 26))
  replace hr := hr.below hB0.out
  have hsz0 : (w.alloc (.cells #[.int .i64 0, .int .i64 0, .int .i64 0, .int .i64 0, .slice Option.none 0 0] 26)).heap.size = w.heap.size + 1 := by simp
  obtain ⟨b, off, rfl, hlt, hc⟩ := hr.cells (by omega)
  have x0 := hc 0 (by omega); have x1 := hc 1 (by omega); have x2 := hc 2 (by omega); have x3 := hc 3 (by omega); have x4 := hc 4 (by omega); have x5 := hc 5 (by omega); have x6 := hc 6 (by omega)
  have y0 := hx.get 0 (by omega); have y1 := hx.get 1 (by omega); have y2 := hx.get 2 (by omega); have y3 := hx.get 3 (by omega); have y4 := hx.get 4 (by omega); have y5 := hx.get 5 (by omega); have y6 := hx.get 6 (by omega)
  have hW : dW xs = xs.getD 1 0 * 256 + xs.getD 2 0 := rfl
  have hH : dH xs = xs.getD 3 0 * 256 + xs.getD 4 0 := rfl
  have hC : dC xs = xs.getD 5 0 := rfl
  have hD : dD xs = xs.getD 6 0 := rfl
  have hE : decErr xs = if xs.length < 7 then 2 else if xs.getD 0 0 ≠ 82 ∨ mayN (dW xs) (dH xs) (dC xs) (dD xs) = false then 4
    else if (xs.length : Int) - 7 < sizeN (dW xs) (dH xs) (dC xs) (dD xs) then 2 else if sizeN (dW xs) (dH xs) (dC xs) (dD xs) < (xs.length : Int) - 7 then 3 else 0 := rfl
  rw [hl, if_neg (by omega)] at hE
  have hSb : sizeN (dW xs) (dH xs) (dC xs) (dD xs) ≤ 524288 ∧ 0 ≤ sizeN (dW xs) (dH xs) (dC xs) (dD xs) := by
    by_cases hb : Bnds (dW xs) (dH xs) (dC xs) (dD xs)
    · have := size_bd _ _ _ _ hb; omega
    · have := size_zero _ _ _ _ hb; omega
  have hHb : -9223372036854775808 ≤ dH xs ∧ dH xs ≤ 9223372036854775807 := by omega
  have hSz := Lib.hid (fun w' => size_any (dW xs) (dH xs) (dC xs) (dD xs) w' hHb)
  have hMy := Lib.hid (fun w' => mayShape_any (dW xs) (dH xs) (dC xs) (dD xs) w' hHb)
  have hSp : mayN (dW xs) (dH xs) (dC xs) (dD xs) = true → 1 ≤ sizeN (dW xs) (dH xs) (dC xs) (dD xs) := fun h => by
    unfold mayN at h
    exact (size_bd _ _ _ _ (of_decide_eq_true h).1).1
  generalize sizeN (dW xs) (dH xs) (dC xs) (dD xs) = sz at *
  generalize mayN (dW xs) (dH xs) (dC xs) (dD xs) = my at *
  have or1 := or_join_i64 8 (xs.getD 1 0 * 256) (xs.getD 2 0) (by omega) (by omega) (by omega) (by omega) (by omega) (by omega)
  have or2 := or_join_i64 8 (xs.getD 3 0 * 256) (xs.getD 4 0) (by omega) (by omega) (by omega) (by omega) (by omega) (by omega)
  rw [← hW] at or1
  rw [← hH] at or2
  rw [← hC] at x5 y5
  rw [← hD] at x6 y6
  generalize dW xs = W at *
  generalize dH xs = H at *
  generalize dC xs = C at *
  generalize dD xs = D at *
  generalize decErr xs = E at *
  have Hne := Lib.hid hne; clear hne
  generalize xs.getD 0 0 = z0 at *
  generalize xs.getD 1 0 = z1 at *
  generalize xs.getD 2 0 = z2 at *
  generalize xs.getD 3 0 = z3 at *
  generalize xs.getD 4 0 = z4 at *
  have HSz := Lib.hid hsz0
  clear hsz0
  have HR := Lib.hid hr; have HE := Lib.hid hE; have Hl := Lib.hid hl; have HX := Lib.hid hx; have Hc := Lib.hid hc
  have hn1 : ¬ (n : Int) < 7 := by omega
  clear hr hE hl hx hc hHb hW hH hC hD
  go_enter Try.func28, Try.ntmps28
  go_wp2_with fail
  generalize w.alloc (.cells #[.int .i64 0, .int .i64 0, .int .i64 0, .int .i64 0, .slice Option.none 0 0] 26) = w0 at *
  have q0 : (0 : Int) < n := by omega
  have q1 : (1 : Int) < n := by omega
  have q2 : (2 : Int) < n := by omega
  have q3 : (3 : Int) < n := by omega
  have q4 : (4 : Int) < n := by omega
  have q5 : (5 : Int) < n := by omega
  have q6 : (6 : Int) < n := by omega
  go_region_held3 (fun w' => w'.cell? ⟨b, off + 1, Option.none⟩ = some (.int .u8 z1) ∧ w'.cell? ⟨b, off + 2, Option.none⟩ = some (.int .u8 z2) ∧ w'.cell? ⟨b, off + 3, Option.none⟩ = some (.int .u8 z3) ∧ w'.cell? ⟨b, off + 4, Option.none⟩ = some (.int .u8 z4) ∧ w'.cell? ⟨b, off + 5, Option.none⟩ = some (.int .u8 C) ∧ w'.cell? ⟨b, off + 6, Option.none⟩ = some (.int .u8 D))
    (first | go_keep) (first | fail)
  rename_i hHeld
  clear hHeld
  have s1 : IntKind.i64.wrap z1 = z1 := Go.IntWalk.i64_in _ (by omega)
  have s2 : IntKind.i64.wrap z2 = z2 := Go.IntWalk.i64_in _ (by omega)
  have s3 : IntKind.i64.wrap z3 = z3 := Go.IntWalk.i64_in _ (by omega)
  have s4 : IntKind.i64.wrap z4 = z4 := Go.IntWalk.i64_in _ (by omega)
  have s5 : IntKind.i64.wrap C = C := Go.IntWalk.i64_in _ (by omega)
  have s6 : IntKind.i64.wrap D = D := Go.IntWalk.i64_in _ (by omega)
  have s7 : IntKind.i64.wrap (z1 * 256) = z1 * 256 := Go.IntWalk.i64_in _ (by omega)
  have s8 : IntKind.i64.wrap (z3 * 256) = z3 * 256 := Go.IntWalk.i64_in _ (by omega)
  simp only [s1, s2, s3, s4, s5, s6, s7, s8, or1, or2]
  clear s1 s2 s3 s4 s5 s6 s7 s8 or1 or2 q0 q1 q2 q3 q4 q5 q6 x1 x2 x3 x4 x5 x6 y1 y2 y3 y4
  have hB1 := (hB0.out.alloc hB0.out.size (.cells #[.int .i64 W, .int .i64 H, .int .i64 C, .int .i64 D] 23)).drew
  have hbl : Below w0.heap.size w0 (w0.alloc (.cells #[.int .i64 W, .int .i64 H, .int .i64 C, .int .i64 D] 23)).drew := ((Below.refl _ _).alloc (Nat.le_refl _) _).drew
  have bs : Box _ _ _ _ _ _ := (box_alloc w0 W H C D 23).drew
  have br := by0.out.below hbl
  have hr1 := HR.out.below hbl
  have hx0 := (hbl.cell (p := ⟨b, off + 0, Option.none⟩) hlt).trans x0
  have hlt0 : w.heap.size < w0.heap.size := by have := HSz.out; omega
  clear x0 hbl
  have HB1 := Lib.hid hB1; have HBs := Lib.hid bs; have HBr := Lib.hid br; have HR1 := Lib.hid hr1; have Hlt0 := Lib.hid hlt0
  clear hr1 hB1 hlt0 HR Hc HSz by0 hB0
  generalize (w0.alloc (.cells #[.int .i64 W, .int .i64 H, .int .i64 C, .int .i64 D] 23)).drew = w1 at *
  have d0 := bs.c0; have d1 := bs.c1; have d2 := bs.c2; have d3 := bs.c3
  generalize w0.heap.size = gs at *
  go_wp2_with fail
  refine (hSz.out _).mono ?_; rintro e w2 ⟨rfl, b2⟩
  have HB2 := Lib.hid (below_size HB1.out b2)
  have bs2 := HBs.out.below b2
  have br2 := HBr.out.below b2
  have hx2 := (b2.cell (p := ⟨b, off + 0, Option.none⟩) (World.block_lt_of_cell? _ _ hx0)).trans hx0
  have HR2 := Lib.hid (HR1.out.below b2)
  clear d0 d1 d2 d3
  clear hx0 bs br HB1 HBs HBr HR1 b2
  rw [Nat.add_zero] at hx2
  by_cases hz : z0 = 82
  · have hz' : (z0 != 82) = false := by simpa using hz
    cases my
    · have he : E = 4 := by have := HE.out; rw [if_pos (.inr rfl)] at this; exact this
      have Hp := Lib.hid he
      have d0 := bs2.c0; have d1 := bs2.c1; have d2 := bs2.c2; have d3 := bs2.c3
      clear HE he
      go_wp2_with fail
      refine (hMy.out _).mono ?_; rintro e w3 ⟨rfl, b3⟩
      have HB3 := Lib.hid (below_size HB2.out b3)
      have br3 := br2.below b3
      have HB := Lib.hid br3
      clear d0 d1 d2 d3
      have c0 := br3.box.c0; have c1 := br3.box.c1; have c2 := br3.box.c2; have c3 := br3.box.c3; have c4 := br3.c4; have f0 := br3.box.f0; have f1 := br3.box.f1; have f2 := br3.box.f2; have f3 := br3.box.f3; have f4 := br3.f4
      clear bs2 br2 b3 br3
      go_wp2_with fail
      refine bodyPost_ret (results_ras rfl _ _ _ rfl (HB.out.set 0 0 0 0 Option.none 0 0)) rfl ?_
      rw [Hp.out]
      exact retRas_err (((((HB3.out.setCell (by simp) _).setCell (by simp) _).setCell (by simp) _).setCell (by simp) _).setCell (by simp) _)
    · have d0 := bs2.c0; have d1 := bs2.c1; have d2 := bs2.c2; have d3 := bs2.c3
      go_wp2_with fail
      refine (hMy.out _).mono ?_; rintro e w3 ⟨rfl, b3⟩
      have HB3 := Lib.hid (below_size HB2.out b3)
      have br3 := br2.below b3
      have bs3 := bs2.below b3
      have HR3 := Lib.hid (HR2.out.below b3)
      have HBr := Lib.hid br3
      have HBs := Lib.hid bs3
      clear d0 d1 d2 d3
      have Hgs := Lib.hid bs3.lt
      clear bs2 br2 b3 HR2 HB2 hx2
      have he : E = if (n : Int) - 7 < sz then 2 else if sz < (n : Int) - 7 then 3 else 0 := by have := HE.out; rw [if_neg (by simp [hz])] at this; exact this
      clear HE
      by_cases c1 : (n : Int) - 7 < sz
      · rw [if_pos c1] at he
        have Hp := Lib.hid he
        have c0 := br3.box.c0; have c1 := br3.box.c1; have c2 := br3.box.c2; have c3 := br3.box.c3; have c4 := br3.c4; have f0 := br3.box.f0; have f1 := br3.box.f1; have f2 := br3.box.f2; have f3 := br3.box.f3; have f4 := br3.f4
        clear he bs3
        go_wp2_with fail
        refine bodyPost_ret (results_ras rfl _ _ _ rfl (HBr.out.set 0 0 0 0 Option.none 0 0)) rfl ?_
        rw [Hp.out]
        exact retRas_err (((((HB3.out.setCell (by simp) _).setCell (by simp) _).setCell (by simp) _).setCell (by simp) _).setCell (by simp) _)
      · rw [if_neg c1] at he
        by_cases c2 : sz < (n : Int) - 7
        · rw [if_pos c2] at he
          have Hp := Lib.hid he
          have c0 := br3.box.c0; have c1 := br3.box.c1; have c2 := br3.box.c2; have c3 := br3.box.c3; have c4 := br3.c4; have f0 := br3.box.f0; have f1 := br3.box.f1; have f2 := br3.box.f2; have f3 := br3.box.f3; have f4 := br3.f4
          clear he bs3
          go_wp2_with fail
          refine bodyPost_ret (results_ras rfl _ _ _ rfl (HBr.out.set 0 0 0 0 Option.none 0 0)) rfl ?_
          rw [Hp.out]
          exact retRas_err (((((HB3.out.setCell (by simp) _).setCell (by simp) _).setCell (by simp) _).setCell (by simp) _).setCell (by simp) _)
        · rw [if_neg c2] at he
          exact absurd he Hne.out
  · have hz' : (z0 != 82) = true := by simpa using hz
    have he : E = 4 := by have := HE.out; rw [if_pos (.inl hz)] at this; exact this
    subst he
    have HB := Lib.hid br2
    have c0 := br2.box.c0; have c1 := br2.box.c1; have c2 := br2.box.c2; have c3 := br2.box.c3; have c4 := br2.c4; have f0 := br2.box.f0; have f1 := br2.box.f1; have f2 := br2.box.f2; have f3 := br2.box.f3; have f4 := br2.f4
    clear bs2 br2 HE
    go_wp2_with fail
    refine bodyPost_ret (results_ras rfl _ _ _ rfl (HB.out.set 0 0 0 0 Option.none 0 0)) rfl ?_
    exact retRas_err (((((HB2.out.setCell (by simp) _).setCell (by simp) _).setCell (by simp) _).setCell (by simp) _).setCell (by simp) _)
end Go.Proofs.Ytdlmcjcdmjkhhaa
