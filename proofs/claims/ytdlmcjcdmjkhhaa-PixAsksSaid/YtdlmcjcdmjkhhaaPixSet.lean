/-
  pix.Set.
-/
import Derived.Test.YtdlmcjcdmjkhhaaAt
import Derived.Test.YtdlmcjcdmjkhhaaBig
import Derived.Test.YtdlmcjcdmjkhhaaClone
import Derived.Test.YtdlmcjcdmjkhhaaCopyAt
namespace Go.Proofs.Ytdlmcjcdmjkhhaa
open Go.RowKit

theorem RBox.set {w : World} {g : Nat} {W H C D : Int} {a : Option Addr} {n cap : Nat} (h : RBox w g W H C D a n cap) (p q r s : Int) (b : Option Addr) (m k : Nat) :
    RBox (((((w.setCell ⟨g, 0, Option.none⟩ (.int .i64 p)).setCell ⟨g, 1, Option.none⟩ (.int .i64 q)).setCell ⟨g, 2, Option.none⟩ (.int .i64 r)).setCell ⟨g, 3, Option.none⟩ (.int .i64 s)).setCell ⟨g, 4, Option.none⟩ (.slice b m k)) g p q r s b m k := by
  have hb := h.box.set p q r s
  have h4 : ((((w.setCell ⟨g, 0, Option.none⟩ (.int .i64 p)).setCell ⟨g, 1, Option.none⟩ (.int .i64 q)).setCell ⟨g, 2, Option.none⟩ (.int .i64 r)).setCell ⟨g, 3, Option.none⟩ (.int .i64 s)).cell? ⟨g, 4, Option.none⟩ = some (.slice a n cap) := by
    rw [World.cell?_setCell_other _ _ _ _ (by simp), World.cell?_setCell_other _ _ _ _ (by simp), World.cell?_setCell_other _ _ _ _ (by simp), World.cell?_setCell_other _ _ _ _ (by simp), h.c4]
  refine ⟨⟨by simpa using hb.lt, ?_, ?_, ?_, ?_, ?_, ?_, ?_, ?_⟩, World.cell?_setCell_same _ _ _ h4, by simpa [World.frozen?_setCell] using h.f4⟩
  · rw [World.cell?_setCell_other _ _ _ _ (by simp)]; exact hb.c0
  · rw [World.cell?_setCell_other _ _ _ _ (by simp)]; exact hb.c1
  · rw [World.cell?_setCell_other _ _ _ _ (by simp)]; exact hb.c2
  · rw [World.cell?_setCell_other _ _ _ _ (by simp)]; exact hb.c3
  · rw [World.frozen?_setCell]; exact hb.f0
  · rw [World.frozen?_setCell]; exact hb.f1
  · rw [World.frozen?_setCell]; exact hb.f2
  · rw [World.frozen?_setCell]; exact hb.f3

theorem owns_far {w : World} {base T g n cap : Nat} {ws : List Value} (h : w.ownsRow base T 1 (.slice (some ⟨g, 0, Option.none⟩) n cap) n ws) (b i : Nat) (v : Value) (hb : b ≠ g) : (w.setCell ⟨b, i, Option.none⟩ v).ownsRow base T 1 (.slice (some ⟨g, 0, Option.none⟩) n cap) n ws :=
  h.kept (row := some b) ⟨rfl, rfl, rfl, by simp, fun k _ hne => Below.heap_setCell w ⟨b, i, Option.none⟩ v k (fun h => hne (by rw [h]))⟩ (.inr (by simp [Value.ownBlock]; omega))
theorem rasInfo : (Try.prog.info? 26).map (·.size) = some 5 := by kernel_rfl
theorem results_ras {fn : Func} {p u : Tmp} (h : fn.results = #[.cell p 26, .tmp u]) (tmps : Array Value) (w : World) (g : Nat) {W H C D : Int} {a : Option Addr} {n cap : Nat} (hp : tmps.getD p undef = .pointer (some ⟨g, 0, Option.none⟩)) (hb : RBox w g W H C D a n cap) :
    (results fn tmps).run Try.prog w = .ok (.tuple #[ras W H C D a n cap, tmps.getD u undef]) w := by
  have hl := run_loadVar_mid (P := Try.prog) w g 0 26 [.int .i64 W, .int .i64 H, .int .i64 C, .int .i64 D, .slice a n cap] _ (by
    intro j v hv
    match j, hv with
    | 0, hv => simp at hv; subst hv; exact hb.box.c0
    | 1, hv => simp at hv; subst hv; exact hb.box.c1
    | 2, hv => simp at hv; subst hv; exact hb.box.c2
    | 3, hv => simp at hv; subst hv; exact hb.box.c3
    | 4, hv => simp at hv; subst hv; exact hb.c4) Try.underlying26 rfl rasInfo
  rw [results_cell_tmp h, hp]
  simp [asAddr, hl]

/-- What pix.Set answers: the error. -/
def setErr (W H C D : Int) (n : Nat) (x y c v : Int) : Int := if mayR W H C D n = true then (if InR W H C x y c then (if fit v (D / 8) = true then 0 else 1) else 1) else 4
/-- The bytes behind it. -/
def setList (W H C D : Int) (xs : List Int) (x y c v : Int) : List Int :=
  xs.take (plAt W H C D x y c).toNat ++ (big v (D / 8).toNat ++ xs.drop ((plAt W H C D x y c).toNat + (D / 8).toNat))

set_option maxRecDepth 100000 in
set_option maxHeartbeats 1000000 in
theorem set_not (W H C D : Int) (a : Option Addr) (n cap : Nat) (x y c v : Int) (w : World) (hH : -9223372036854775808 ≤ H ∧ H ≤ 9223372036854775807) (hv : -9223372036854775808 ≤ v ∧ v ≤ 9223372036854775807) (he : setErr W H C D n x y c v ≠ 0) :
    Calls Try.prog 13 #[ras W H C D a n cap, .int .i64 x, .int .i64 y, .int .i64 c, .int .i64 v] w fun e w' => e = .returned (.tuple #[ras 0 0 0 0 Option.none 0 0, .int .i64 (setErr W H C D n x y c v)]) ∧ Below w.heap.size w w' := by
  have hb1 : Below w.heap.size w ((w.alloc (.cells #[.int .i64 W, .int .i64 H, .int .i64 C, .int .i64 D, .slice a n cap] 26)).alloc (.cells #[.int .i64 0, .int .i64 0, .int .i64 0, .int .i64 0, .slice Option.none 0 0] 26)) := ((Below.refl _ _).alloc (Nat.le_refl _) _).alloc (by simp) _
  have bx0 := (rbox_alloc w W H C D a n cap 26).below (w' := (w.alloc (.cells #[.int .i64 W, .int .i64 H, .int .i64 C, .int .i64 D, .slice a n cap] 26)).alloc (.cells #[.int .i64 0, .int .i64 0, .int .i64 0, .int .i64 0, .slice Option.none 0 0] 26)) ((Below.refl _ _).alloc (Nat.le_refl _) _)
  have by0 := rbox_alloc (w.alloc (.cells #[.int .i64 W, .int .i64 H, .int .i64 C, .int .i64 D, .slice a n cap] 26)) 0 0 0 0 Option.none 0 0 26
  rw [World.size_alloc] at by0
  have Hb1 := Lib.hid hb1; have Bx0 := Lib.hid bx0; have By0 := Lib.hid by0
  clear hb1 bx0 by0
  unfold setErr at *
  cases hm : mayR W H C D n
  · simp only [Bool.false_eq_true, if_false]
    have HP := Lib.hid (fun w' => place_not W H C D a n cap x y c w' hH hm)
    clear he hm
    go_enter Try.func13, Try.ntmps13
    go_wp2_with fail
    refine (HP.out _).mono ?_; rintro e w1 ⟨rfl, b1⟩
    have hby := By0.out.below b1
    have hB := below_size Hb1.out b1
    clear b1
    have HY := Lib.hid hby; have HB := Lib.hid hB
    have c0 := hby.box.c0; have c1 := hby.box.c1; have c2 := hby.box.c2; have c3 := hby.box.c3; have c4 := hby.c4; have f0 := hby.box.f0; have f1 := hby.box.f1; have f2 := hby.box.f2; have f3 := hby.box.f3; have f4 := hby.f4
    clear hby hB
    go_wp2_with fail
    refine bodyPost_ret (results_ras rfl _ _ _ rfl (HY.out.set 0 0 0 0 Option.none 0 0)) rfl ?_
    exact ⟨rfl, ((((HB.out.setCell (by simp) _).setCell (by simp) _).setCell (by simp) _).setCell (by simp) _).setCell (by simp) _⟩
  · rw [hm] at he
    rw [if_pos rfl]
    rw [if_pos rfl] at he
    by_cases hi : InR W H C x y c
    · have hb := (mayR_spec hm).1
      have hD := hb.2.2.2.2.2.2
      rw [if_pos hi]
      rw [if_pos hi] at he
      have hf : fit v (D / 8) = false := by
        cases h : fit v (D / 8)
        · rfl
        · rw [h] at he; simp at he
      rw [hf]
      simp only [Bool.false_eq_true, if_false]
      have HP := Lib.hid (fun w' => place_yes W H C D a n cap x y c w' hm hi)
      have HG := Lib.hid (fun w' => big_no v (D / 8) w' hv hf)
      have hD1 : 8 ≤ D ∧ D ≤ 16 := by omega
      clear he hm hi hb hD hf
      go_enter Try.func13, Try.ntmps13
      go_wp2_with fail
      refine (HP.out _).mono ?_; rintro e w1 ⟨rfl, b1⟩
      have hby := By0.out.below b1
      have hbx := Bx0.out.below b1
      have hB := below_size Hb1.out b1
      clear b1
      have HY := Lib.hid hby; have HB := Lib.hid hB
      have c0 := hbx.box.c0; have c1 := hbx.box.c1; have c2 := hbx.box.c2; have c3 := hbx.box.c3; have c4 := hbx.c4
      have d0 := hby.box.c0; have d1 := hby.box.c1; have d2 := hby.box.c2; have d3 := hby.box.c3; have d4 := hby.c4; have f0 := hby.box.f0; have f1 := hby.box.f1; have f2 := hby.box.f2; have f3 := hby.box.f3; have f4 := hby.f4
      clear hby hB hbx
      go_wp2_with fail
      refine (HG.out _).mono ?_; rintro e w2 ⟨rfl, rfl⟩
      go_wp2_with fail
      refine bodyPost_ret (results_ras rfl _ _ _ rfl (HY.out.set 0 0 0 0 Option.none 0 0)) rfl ?_
      exact ⟨rfl, ((((HB.out.setCell (by simp) _).setCell (by simp) _).setCell (by simp) _).setCell (by simp) _).setCell (by simp) _⟩
    · rw [if_neg hi]
      have HP := Lib.hid (fun w' => place_out W H C D a n cap x y c w' hm hi)
      clear he hm hi
      go_enter Try.func13, Try.ntmps13
      go_wp2_with fail
      refine (HP.out _).mono ?_; rintro e w1 ⟨rfl, b1⟩
      have hby := By0.out.below b1
      have hB := below_size Hb1.out b1
      clear b1
      have HY := Lib.hid hby; have HB := Lib.hid hB
      have c0 := hby.box.c0; have c1 := hby.box.c1; have c2 := hby.box.c2; have c3 := hby.box.c3; have c4 := hby.c4; have f0 := hby.box.f0; have f1 := hby.box.f1; have f2 := hby.box.f2; have f3 := hby.box.f3; have f4 := hby.f4
      clear hby hB
      go_wp2_with fail
      refine bodyPost_ret (results_ras rfl _ _ _ rfl (HY.out.set 0 0 0 0 Option.none 0 0)) rfl ?_
      exact ⟨rfl, ((((HB.out.setCell (by simp) _).setCell (by simp) _).setCell (by simp) _).setCell (by simp) _).setCell (by simp) _⟩

set_option maxRecDepth 100000 in
set_option maxHeartbeats 2000000 in
theorem set_yes (W H C D : Int) (a : Option Addr) (n cap : Nat) (xs : List Int) (x y c v : Int) (w : World) (hr : Reads .u8 w a n cap xs) (hv : -9223372036854775808 ≤ v ∧ v ≤ 9223372036854775807) (hm : mayR W H C D n = true) (hi : InR W H C x y c) (hf : fit v (D / 8) = true) :
    Calls Try.prog 13 #[ras W H C D a n cap, .int .i64 x, .int .i64 y, .int .i64 c, .int .i64 v] w fun e w' => ∃ g k, e = .returned (.tuple #[ras W H C D (some ⟨g, 0, Option.none⟩) n k, .int .i64 0]) ∧ w'.ownsRow w.heap.size 5 1 (.slice (some ⟨g, 0, Option.none⟩) n k) n ((setList W H C D xs x y c v).map (Value.int .u8)) ∧ Below w.heap.size w w' := by
  have hb1 : Below w.heap.size w ((w.alloc (.cells #[.int .i64 W, .int .i64 H, .int .i64 C, .int .i64 D, .slice a n cap] 26)).alloc (.cells #[.int .i64 0, .int .i64 0, .int .i64 0, .int .i64 0, .slice Option.none 0 0] 26)) := ((Below.refl _ _).alloc (Nat.le_refl _) _).alloc (by simp) _
  have bx0 := (rbox_alloc w W H C D a n cap 26).below (w' := (w.alloc (.cells #[.int .i64 W, .int .i64 H, .int .i64 C, .int .i64 D, .slice a n cap] 26)).alloc (.cells #[.int .i64 0, .int .i64 0, .int .i64 0, .int .i64 0, .slice Option.none 0 0] 26)) ((Below.refl _ _).alloc (Nat.le_refl _) _)
  have by0 := rbox_alloc (w.alloc (.cells #[.int .i64 W, .int .i64 H, .int .i64 C, .int .i64 D, .slice a n cap] 26)) 0 0 0 0 Option.none 0 0 26
  rw [World.size_alloc] at by0
  have Hb1 := Lib.hid hb1; have Bx0 := Lib.hid bx0; have By0 := Lib.hid by0
  have hb := (mayR_spec hm).1
  have hs := (mayR_spec hm).2
  have hq := plAt_in hb hi
  have hD := hb.2.2.2.2.2.2
  have HP := Lib.hid (fun w' => place_yes W H C D a n cap x y c w' hm hi)
  have hSL : setList W H C D xs x y c v = xs.take (plAt W H C D x y c).toNat ++ (big v (D / 8).toNat ++ xs.drop ((plAt W H C D x y c).toNat + (D / 8).toNat)) := rfl
  rw [hSL]
  clear hSL
  generalize plAt W H C D x y c = pl at *
  obtain ⟨p, rfl⟩ : ∃ p : Nat, pl = p := ⟨pl.toNat, by omega⟩
  obtain ⟨m, hmm, hm1⟩ : ∃ m : Nat, D / 8 = m ∧ 1 ≤ m ∧ m ≤ 2 := ⟨(D / 8).toNat, by omega, by omega⟩
  rw [hmm] at hf
  have hD1 : 8 ≤ D ∧ D ≤ 16 := by omega
  have hpm : p + m ≤ n := by omega
  have hn : n ≤ 16384 := by omega
  have HG := Lib.hid (fun w' => big_yes v m w' hv hf)
  have HM := Lib.hid hmm
  have HR := Lib.hid hr
  have Hl := Lib.hid hr.len
  clear hb1 bx0 by0 hm hi hb hs hq hD hf hr
  go_enter Try.func13, Try.ntmps13
  go_wp2_with fail
  refine (HP.out _).mono ?_; rintro e w1 ⟨rfl, b1⟩
  have hby := By0.out.below b1
  have hbx := Bx0.out.below b1
  have hB := below_size Hb1.out b1
  clear b1
  have c0 := hbx.box.c0; have c1 := hbx.box.c1; have c2 := hbx.box.c2; have c3 := hbx.box.c3; have c4 := hbx.c4
  go_wp2_with fail
  rw [hmm]
  refine (HG.out _).mono ?_
  rintro e w2 ⟨gb, kb, rfl, ob, b2⟩
  rw [big_len] at ob
  rw [big_len]
  have hby2 := hby.below b2
  have hbx2 := hbx.below b2
  have hB2 := below_size hB b2
  have HB2 := Lib.hid hB2
  have Hbyy := Lib.hid hby2; have Hbxx := Lib.hid hbx2
  have Hlt2 := Lib.hid hby2.lt
  clear c0 c1 c2 c3 c4
  have c0 := hbx2.box.c0; have c1 := hbx2.box.c1; have c2 := hbx2.box.c2; have c3 := hbx2.box.c3; have c4 := hbx2.c4
  clear hby hbx hB b2
  go_wp2_with fail
  refine (clone_any a n cap xs _ (HR.out.below hB2) (by omega)).mono ?_
  rintro e w3 ⟨a3, k3, rfl, o3, b3⟩
  rw [Hl.out] at o3
  rw [Hl.out]
  have rb := Lib.hid ((reads_of_owns ob).below b3)
  have hby3 := hby2.below b3
  have hbx3 := hbx2.below b3
  have hB3 := below_size hB2 b3
  obtain ⟨g3, rfl, hg3⟩ := owns_addr o3 (by omega)
  have hk3 : n ≤ k3 := (reads_of_owns o3).le
  have hg2 := hB2.size
  have hsz1 : (Try.prog.info? 5).map (·.size) = some 1 := by kernel_rfl
  have Hsz1 := Lib.hid hsz1
  clear c0 c1 c2 c3 c4
  clear hby2 hbx2 hsz1
  have HO3 := Lib.hid o3
  clear o3
  have Hby := Lib.hid hby3; have Hbx := Lib.hid hbx3; have HB3 := Lib.hid hB3
  clear hby3 hbx3 hB2
  have hlt2 : w.heap.size + 1 < w2.heap.size := Hlt2.out
  go_wp2_with (refine wpList_copy_reads rfl _ _ 24 rfl w2.heap.size 5 Try.underlying24 Hsz1.out .u8 g3 p n k3 (n - p) (k3 - p) xs HO3.out rfl (some ⟨gb, 0, Option.none⟩) m kb (big v m) rfl rb.out (by omega) (by omega) w2.heap.size w2 b3 (Nat.le_refl _) ?_)
  intro w4 o4 b4
  have hby4 := Hbyy.out.below b4
  have hbx4 := Hbxx.out.below b4
  have hB4 := below_size HB2.out b4
  have c0 := hbx4.box.c0; have c1 := hbx4.box.c1; have c2 := hbx4.box.c2; have c3 := hbx4.box.c3; have c4 := hbx4.c4
  have d0 := hby4.box.c0; have d1 := hby4.box.c1; have d2 := hby4.box.c2; have d3 := hby4.box.c3; have d4 := hby4.c4; have f0 := hby4.box.f0; have f1 := hby4.box.f1; have f2 := hby4.box.f2; have f3 := hby4.box.f3; have f4 := hby4.f4
  have HY := Lib.hid hby4; have HB := Lib.hid hB4; have HO4 := Lib.hid o4
  clear hby4 hB4 hbx4 o4 b4 b3 HO3 rb
  go_wp2_with fail
  refine bodyPost_ret (results_ras rfl _ _ _ rfl (HY.out.set W H C D (some ⟨g3, 0, Option.none⟩) n k3)) rfl ?_
  refine ⟨g3, k3, rfl, ?_, ((((HB.out.setCell (by simp) _).setCell (by simp) _).setCell (by simp) _).setCell (by simp) _).setCell (by simp) _⟩
  rw [HM.out]
  simp only [Int.toNat_natCast]
  have hne : w.heap.size + 1 ≠ g3 := by omega
  rw [List.map_append, List.map_append, List.map_take, List.map_drop]
  exact owns_far (owns_far (owns_far (owns_far (owns_far (owns_base HO4.out (by omega)) _ _ _ hne) _ _ _ hne) _ _ _ hne) _ _ _ hne) _ _ _ hne
end Go.Proofs.Ytdlmcjcdmjkhhaa
