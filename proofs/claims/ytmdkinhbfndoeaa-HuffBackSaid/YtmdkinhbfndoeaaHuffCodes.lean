/-
  huff.Codes.
-/
import Derived.Test.YtmdkinhbfndoeaaHuffTally
namespace Go.Proofs.Ytmdkinhbfndoeaa
open Go.RowKit

/-- A list of codes of the call's own: c: what stands at each place. -/
def CRow (w : World) (base : Nat) (T : TypeId) (g n cap : Nat) (c : Nat → Int × Int) : Prop :=
  ∃ vs, w.ownsRow base T 2 (.slice (some ⟨g, 0, Option.none⟩) n cap) n vs ∧ ∀ j, j < n → vs[j * 2]? = some (.int .u32 (c j).1) ∧ vs[j * 2 + 1]? = some (.int .i64 (c j).2)
section
variable {w w' : World} {B g n cap : Nat} {T : TypeId} {c : Nat → Int × Int}
theorem CRow.c0 (h : CRow w B T g n cap c) (j : Nat) (hj : j < n) : w.cell? ⟨g, j * 2, Option.none⟩ = some (.int .u32 (c j).1) := by
  obtain ⟨vs, ho, hv⟩ := h
  rw [ho.cellAt (j * 2) (by omega)]
  exact (hv j hj).1
theorem CRow.c1 (h : CRow w B T g n cap c) (j : Nat) (hj : j < n) : w.cell? ⟨g, j * 2 + 1, Option.none⟩ = some (.int .i64 (c j).2) := by
  obtain ⟨vs, ho, hv⟩ := h
  rw [ho.cellAt (j * 2 + 1) (by omega)]
  exact (hv j hj).2
theorem CRow.f (h : CRow w B T g n cap c) (j : Nat) : w.frozen? ⟨g, j, Option.none⟩ = false := by
  obtain ⟨vs, ho, hv⟩ := h
  exact ho.frozenAt j
theorem CRow.set (h : CRow w B T g n cap c) (j : Nat) (x y : Int) (hj : j < n) :
    CRow ((w.setCell ⟨g, j * 2, Option.none⟩ (.int .u32 x)).setCell ⟨g, j * 2 + 1, Option.none⟩ (.int .i64 y)) B T g n cap (fun i => if i = j then (x, y) else c i) := by
  obtain ⟨vs, ho, hv⟩ := h
  have hl := ho.1
  refine ⟨_, ((ho.stored (j * 2) (.int .u32 x)).1.stored (j * 2 + 1) (.int .i64 y)).1, fun i hi => ?_⟩
  obtain ⟨a, b⟩ := hv i hi
  have l0 : i * 2 < vs.length := by omega
  have l1 : i * 2 + 1 < vs.length := by omega
  by_cases e : i = j
  · subst e
    simp only [if_true]
    refine ⟨?_, ?_⟩
    · rw [List.getElem?_set_ne (by omega), List.getElem?_set_self (by omega)]
    · rw [List.getElem?_set_self (by simp; omega)]
  · simp only [e, if_false]
    refine ⟨?_, ?_⟩
    · rw [List.getElem?_set_ne (by omega), List.getElem?_set_ne (by omega), a]
    · rw [List.getElem?_set_ne (by omega), List.getElem?_set_ne (by omega), b]
theorem CRow.congr {c' : Nat → Int × Int} (h : CRow w B T g n cap c) (e : ∀ j, j < n → c j = c' j) : CRow w B T g n cap c' := by
  obtain ⟨vs, ho, hv⟩ := h
  exact ⟨vs, ho, fun j hj => by rw [← e j hj]; exact hv j hj⟩
theorem CRow.below (h : CRow w B T g n cap c) (hb : Below w.heap.size w w') : CRow w' B T g n cap c := by
  obtain ⟨vs, ho, hv⟩ := h
  exact ⟨vs, ho.kept (row := .none) ⟨hb.os, hb.tape, hb.output, hb.size, fun k hk _ => hb.block k hk⟩ (by cases hv : (Value.slice (some ⟨g, 0, Option.none⟩) n cap).ownBlock <;> simp), hv⟩
theorem grownBy_setCell (w : World) (p : Addr) (v : Value) : w.grownBy (w.setCell p v) (some p.block) :=
  ⟨rfl, rfl, rfl, by simp, fun k hk hne => Below.heap_setCell w p v k (fun e => hne (by rw [e]))⟩
theorem CRow.far (h : CRow w B T g n cap c) (b i : Nat) (v : Value) (hb : b ≠ g) : CRow (w.setCell ⟨b, i, Option.none⟩ v) B T g n cap c := by
  obtain ⟨vs, ho, hv⟩ := h
  refine ⟨vs, ho.kept (row := some b) (grownBy_setCell w ⟨b, i, Option.none⟩ v) (.inr (by simpa [Value.ownBlock] using fun e => hb e.symm)), hv⟩
theorem CRow.lt (h : CRow w B T g n cap c) : B ≤ g ∧ g < w.heap.size := by
  obtain ⟨vs, ho, hv⟩ := h
  exact ho.lt g rfl
theorem CRow.le (h : CRow w B T g n cap c) : n ≤ cap := by
  obtain ⟨vs, ho, hv⟩ := h
  rcases ho.2 with h | ⟨g', c', cur, e, _, _, h3, _⟩
  · simp at h
  · simp at e; omega
end
def nextL (ls : List Int) (k : Nat) : List Int := (List.range 16).map fun m => if m ≤ k then ((base ls m : Nat) : Int) else 0
theorem nextL_len (ls : List Int) (k : Nat) : (nextL ls k).length = 16 := by simp [nextL]
theorem nextL_getD (ls : List Int) (k m : Nat) (h : m < 16) : (nextL ls k).getD m 0 = if m ≤ k then ((base ls m : Nat) : Int) else 0 := by unfold nextL; rw [getD_map_range, if_pos h]
theorem nextL_set (ls : List Int) (k : Nat) (h : k + 1 < 16) : nextL ls (k + 1) = (nextL ls k).set (k + 1) ((base ls (k + 1) : Nat) : Int) := by
  refine ext_getD (by rw [List.length_set, nextL_len, nextL_len]) fun m hm => ?_
  rw [nextL_len] at hm
  rw [getD_set, nextL_getD _ _ _ hm, nextL_getD _ _ _ hm, nextL_len]
  by_cases e : k + 1 = m
  · rw [if_pos (show m ≤ k + 1 by omega), if_pos (show k + 1 = m ∧ k + 1 < 16 from ⟨e, h⟩), e]
  · rw [if_neg (show ¬ (k + 1 = m ∧ k + 1 < 16) from fun h => e h.1)]
    by_cases h2 : m ≤ k
    · rw [if_pos h2, if_pos (by omega)]
    · rw [if_neg h2, if_neg (by omega)]
/-- The next codes behind so many places. -/
def nowL (ls : List Int) (i : Nat) : List Int := (List.range 16).map fun m => if m = 0 then 0 else ((base ls m + cnt (ls.take i) m : Nat) : Int)
theorem nowL_len (ls : List Int) (i : Nat) : (nowL ls i).length = 16 := by simp [nowL]
theorem nowL_getD (ls : List Int) (i m : Nat) (h : m < 16) : (nowL ls i).getD m 0 = if m = 0 then 0 else ((base ls m + cnt (ls.take i) m : Nat) : Int) := by unfold nowL; rw [getD_map_range, if_pos h]
theorem nowL_zero (ls : List Int) : nowL ls 0 = nextL ls 15 := by
  refine ext_getD (by rw [nowL_len, nextL_len]) fun m hm => ?_
  rw [nowL_len] at hm
  rw [nowL_getD _ _ _ hm, nextL_getD _ _ _ hm, if_pos (show m ≤ 15 by omega)]
  by_cases h : m = 0
  · rw [if_pos h, h]; rfl
  · rw [if_neg h]; simp [cnt]
theorem nowL_no (ls : List Int) (i : Nat) (hi : i < ls.length) (h : ¬ 0 < ls.getD i 0) : nowL ls (i + 1) = nowL ls i := by
  refine ext_getD (by rw [nowL_len, nowL_len]) fun m hm => ?_
  rw [nowL_len] at hm
  rw [nowL_getD _ _ _ hm, nowL_getD _ _ _ hm]
  by_cases h0 : m = 0
  · rw [if_pos h0, if_pos h0]
  · rw [if_neg h0, if_neg h0, take_getD ls i hi, cnt_snoc, if_neg (show ¬ ls.getD i 0 = (m : Int) by omega), Nat.add_zero]
theorem nowL_set (ls : List Int) (i y : Nat) (hi : i < ls.length) (hy : ls.getD i 0 = (y : Int)) (h0 : 0 < y) (h15 : y < 16) : nowL ls (i + 1) = (nowL ls i).set y ((nowL ls i).getD y 0 + 1) := by
  refine ext_getD (by rw [List.length_set, nowL_len, nowL_len]) fun m hm => ?_
  rw [nowL_len] at hm
  rw [getD_set, nowL_getD _ _ _ hm, nowL_getD _ _ _ hm, nowL_getD _ _ _ h15, nowL_len, take_getD ls i hi, cnt_snoc, hy]
  by_cases hm0 : m = 0
  · rw [if_pos hm0, if_neg (show ¬ (y = m ∧ y < 16) by omega), if_pos hm0]
  · by_cases e : y = m
    · subst e
      rw [if_neg hm0, if_pos (show y = y ∧ y < 16 from ⟨rfl, h15⟩), if_neg hm0, if_pos rfl]
      omega
    · rw [if_neg hm0, if_neg (show ¬ (y = m ∧ y < 16) from fun h => e h.1), if_neg hm0, if_neg (show ¬ (y : Int) = (m : Int) by omega), Nat.add_zero]
theorem nowL_at (ls : List Int) (i y : Nat) (hy : ls.getD i 0 = (y : Int)) (h0 : 0 < y) (h15 : y < 16) : (nowL ls i).getD y 0 = ((codeN ls i : Nat) : Int) := by
  rw [nowL_getD _ _ _ h15, if_neg (by omega)]
  unfold codeN
  rw [hy, Int.toNat_natCast]
/-- Codes and an error's number. -/
def RetC (T : TypeId) (w : World) (ls : List Int) (e : Ending) (w' : World) : Prop :=
  ∃ g cap, e = .returned (.tuple #[.slice (some ⟨g, 0, Option.none⟩) ls.length cap, .int .i64 0]) ∧ CRow w' w.heap.size T g ls.length cap (codeAt ls) ∧ Below w.heap.size w w'
theorem getD_rep (m j : Nat) : (List.replicate m (0 : Int)).getD j 0 = 0 := by
  by_cases h : j < m <;> simp [List.getD, h]
theorem infoCode : (Try.prog.info? 40).map (fun i => (i.zero, i.size, i.bytes)) = some (some (.agg #[.int .u32 0, .int .i64 0]), 2, 16) := by kernel_rfl
theorem arrU16 : (Try.prog.info? 81).map (·.size) = some 16 := by kernel_rfl

theorem codes_no1 (a : Option Addr) (n cap : Nat) (ls : List Int) (w : World) (hr : Reads .i64 w a n cap ls) (h64 : is64 ls) (hk : ¬ lensOk ls) :
    Calls Try.prog 18 #[.slice a n cap] w fun e w' => e = .returned (.tuple #[.slice Option.none 0 0, .int .i64 1]) ∧ w' = w := by
  have HK := Lib.hid (krR_no hk)
  go_enter Try.func18, Try.ntmps18
  go_wp2_with fail
  refine (kraft_any a n cap ls _ hr h64).mono ?_; rintro e w1 ⟨rfl, rfl⟩
  rw [HK.out]
  go_wp2_with fail
  go_ret2
  exact ⟨rfl, rfl⟩
theorem codes_no4 (a : Option Addr) (n cap : Nat) (ls : List Int) (w : World) (hr : Reads .i64 w a n cap ls) (h64 : is64 ls) (hk : lensOk ls) (hf : 32768 < krS ls) :
    Calls Try.prog 18 #[.slice a n cap] w fun e w' => e = .returned (.tuple #[.slice Option.none 0 0, .int .i64 4]) ∧ w' = w := by
  have HK := Lib.hid (krR_ok hk)
  generalize krS ls = S at *
  go_enter Try.func18, Try.ntmps18
  go_wp2_with fail
  refine (kraft_any a n cap ls _ hr h64).mono ?_; rintro e w1 ⟨rfl, rfl⟩
  rw [HK.out]
  go_wp2_with fail
  go_ret2
  exact ⟨rfl, rfl⟩

set_option maxRecDepth 100000 in
set_option maxHeartbeats 4000000 in
theorem codes_yes (a : Option Addr) (n cap : Nat) (ls : List Int) (w : World) (hr : Reads .i64 w a n cap ls) (h64 : is64 ls) (hk : lensOk ls) (hf : krS ls ≤ 32768) :
    Calls Try.prog 18 #[.slice a n cap] w (RetC 40 w ls) := by
  have HK := Lib.hid (krR_ok hk); have HKO := Lib.hid hk; have HR := Lib.hid hr; have HL := Lib.hid hr.len
  have hn : n ≤ 300 := by have := hk.1; have := hr.len; omega
  have hn63 := hr.n63.1
  have hncap := hr.le
  obtain ⟨i0, hi, hz0, hz1, hz2⟩ := info_parts infoCode
  have Hi := Lib.hid hi; have Hz0 := Lib.hid hz0; have Hz1 := Lib.hid hz1; have Hz2 := Lib.hid hz2
  clear hr hk hi hz0 hz1 hz2
  have HS : Hid (krS ls ≤ 32768) := Lib.hid hf
  have hS0 := (krS_bd ls (fun x hx => (HKO.out.2 x hx).1)).1
  generalize krS ls = S at *
  go_enter Try.func18, Try.ntmps18
  go_wp2_with fail
  refine (kraft_any a n cap ls _ HR.out h64).mono ?_; rintro e w1 ⟨rfl, rfl⟩
  rw [HK.out]
  clear h64
  go_upto_region 6 with (fail)
  go_upto_region 7 with (first
    | (go_at_call 35; refine (tally_any a n cap ls _ HR.out HKO.out).mono ?_; rintro e w2 ⟨rfl, B2⟩)
    | (refine wpList_store_arrK .i64 rfl 79 _ _ rfl w2.heap.size rfl (tallyL ls) rfl (List.replicate 16 0) 79 (KBox.new .i64 w2 79 (List.replicate 16 0) #[.int .i64 0, .int .i64 0, .int .i64 0, .int .i64 0, .int .i64 0, .int .i64 0, .int .i64 0, .int .i64 0, .int .i64 0, .int .i64 0, .int .i64 0, .int .i64 0, .int .i64 0, .int .i64 0, .int .i64 0, .int .i64 0] rfl) (by rw [tallyL_len]; exact arrI16) (by rw [tallyL_len]; rfl) ?_))
  have T3 := Lib.hid ((KBox.new .i64 w2 79 (List.replicate 16 0) #[.int .i64 0, .int .i64 0, .int .i64 0, .int .i64 0, .int .i64 0, .int .i64 0, .int .i64 0, .int .i64 0, .int .i64 0, .int .i64 0, .int .i64 0, .int .i64 0, .int .i64 0, .int .i64 0, .int .i64 0, .int .i64 0] rfl).row (tallyL ls))
  have B3 : Hid (Below w1.heap.size w1 ((w2.alloc (.cells #[.int .i64 0, .int .i64 0, .int .i64 0, .int .i64 0, .int .i64 0, .int .i64 0, .int .i64 0, .int .i64 0, .int .i64 0, .int .i64 0, .int .i64 0, .int .i64 0, .int .i64 0, .int .i64 0, .int .i64 0, .int .i64 0] 79)).setRow w2.heap.size ((tallyL ls).map (Value.int .i64)).toArray)) := Lib.hid (below_setRow (B2.alloc B2.size _) B2.size _)
  have hg1 := B2.size
  have hgs : ((w2.alloc (.cells #[.int .i64 0, .int .i64 0, .int .i64 0, .int .i64 0, .int .i64 0, .int .i64 0, .int .i64 0, .int .i64 0, .int .i64 0, .int .i64 0, .int .i64 0, .int .i64 0, .int .i64 0, .int .i64 0, .int .i64 0, .int .i64 0] 79)).setRow w2.heap.size ((tallyL ls).map (Value.int .i64)).toArray).heap.size = w2.heap.size + 1 := by simp [World.setRow]
  clear B2
  generalize (w2.alloc (.cells #[.int .i64 0, .int .i64 0, .int .i64 0, .int .i64 0, .int .i64 0, .int .i64 0, .int .i64 0, .int .i64 0, .int .i64 0, .int .i64 0, .int .i64 0, .int .i64 0, .int .i64 0, .int .i64 0, .int .i64 0, .int .i64 0] 79)).setRow w2.heap.size ((tallyL ls).map (Value.int .i64)).toArray = w3 at *
  generalize w2.heap.size = g at *
  go_upto_region 8 with (fail)
  have T4 := Lib.hid (T3.out.below ((Below.refl _ _).alloc (Nat.le_refl _) (.cells #[.int .u32 0, .int .u32 0, .int .u32 0, .int .u32 0, .int .u32 0, .int .u32 0, .int .u32 0, .int .u32 0, .int .u32 0, .int .u32 0, .int .u32 0, .int .u32 0, .int .u32 0, .int .u32 0, .int .u32 0, .int .u32 0] 81)))
  have X4 := Lib.hid (KBox.new .u32 w3 81 (List.replicate 16 0) #[.int .u32 0, .int .u32 0, .int .u32 0, .int .u32 0, .int .u32 0, .int .u32 0, .int .u32 0, .int .u32 0, .int .u32 0, .int .u32 0, .int .u32 0, .int .u32 0, .int .u32 0, .int .u32 0, .int .u32 0, .int .u32 0] rfl)
  have B4 := Lib.hid (B3.out.alloc B3.out.size (.cells #[.int .u32 0, .int .u32 0, .int .u32 0, .int .u32 0, .int .u32 0, .int .u32 0, .int .u32 0, .int .u32 0, .int .u32 0, .int .u32 0, .int .u32 0, .int .u32 0, .int .u32 0, .int .u32 0, .int .u32 0, .int .u32 0] 81))
  rw [hgs] at X4
  have hgs4 : (w3.alloc (.cells #[.int .u32 0, .int .u32 0, .int .u32 0, .int .u32 0, .int .u32 0, .int .u32 0, .int .u32 0, .int .u32 0, .int .u32 0, .int .u32 0, .int .u32 0, .int .u32 0, .int .u32 0, .int .u32 0, .int .u32 0, .int .u32 0] 81)).heap.size = g + 1 + 1 := by rw [World.size_alloc, hgs]
  clear T3 B3
  generalize w3.alloc (.cells #[.int .u32 0, .int .u32 0, .int .u32 0, .int .u32 0, .int .u32 0, .int .u32 0, .int .u32 0, .int .u32 0, .int .u32 0, .int .u32 0, .int .u32 0, .int .u32 0, .int .u32 0, .int .u32 0, .int .u32 0, .int .u32 0] 81) = w4 at *
  rw [show decide ((32768 : Int) < S) = false from decide_eq_false (by omega)]
  clear hgs
  go_wp2_with fail
  have hx0 : List.replicate 16 (0 : Int) = nextL ls 1 := by
    refine ext_getD (by rw [nextL_len]; rfl) fun m hm => ?_
    rw [List.length_replicate] at hm
    rw [nextL_getD _ _ _ hm]
    rw [getD_rep]
    split
    · have : m = 0 ∨ m = 1 := by omega
      rcases this with rfl | rfl <;> rfl
    · rfl
  rw [hx0] at X4
  go_loopw [8] (fun vi wr => ∃ i : Nat, 1 ≤ i ∧ i ≤ 15 ∧ vi = .int .i64 i ∧ Hid (KBox .u32 wr (g + 1) 81 (nextL ls i)) ∧ Hid (KBox .i64 wr g 79 (tallyL ls)) ∧ Hid (Below w1.heap.size w1 wr)) (fun vi _ => 15 - (intOf vi).toNat)
  case atStart => exact ⟨1, Nat.le_refl _, by decide, rfl, X4, T4, B4⟩
  case round =>
    obtain ⟨i, hi1, hi, rfl, X, T, B⟩ := hrel
    clear X4 T4 B4 hx0
    by_cases hlt : i < 15
    · have d0 := fun x : GrownW wr => x.cell X.out.lt (X.out.cell i (by rw [nextL_len]; omega))
      have d1 := fun x : GrownW wr => x.cell T.out.lt (T.out.cell i (by rw [tallyL_len]; omega))
      have hbl := base_le ls HKO.out.1 i
      have hp : (2 : Nat) ^ i ≤ 2 ^ 15 := Nat.pow_le_pow_right (by decide) (by omega)
      have hcl := cnt_le ls i
      rw [HL.out] at hcl
      have HB := Lib.hid (base_succ ls i hi1)
      have HSt := Lib.hid (nextL_set ls i (by omega))
      rw [nextL_getD _ _ _ (by omega), if_pos (Nat.le_refl _)] at d0
      rw [tallyL_getD _ _ (by omega), if_neg (by omega)] at d1
      have hb2 : base ls i ≤ 20000000 := by omega
      generalize base ls i = bs at *
      generalize cnt ls i = ct at *
      have i9 : (i : Int) < 15 := by omega
      have i16 : (i : Int) < 16 := by omega
      have i17 : (i : Int) + 1 < 16 := by omega
      have i8 : (0 : Int) ≤ i := by omega
      have i7 : (0 : Int) ≤ (i : Int) + 1 := by omega
      have t1 : ((i : Int) + 1).toNat = i + 1 := by omega
      have z1 : IntKind.i64.wrap ((i : Int) + 1) = i + 1 := Go.IntWalk.i64_in _ (by omega)
      have z2 : IntKind.u32.wrap (ct : Int) = ct := by rw [IntKind.wrap_u32]; omega
      clear hbl hp
      go_wp2_with fail
      refine wp_region_any (by kernel_rfl) ?_
      change wpAny _ _ _ _ _ _ _ (World.drew _)
      refine wpAny_grow_tail [0, 1, 2, 3, 4, 5, 6, 7, 8, 9, 10] [11, 12] (by kernel_rfl) ?_
      simp only [pickOps, List.getElem?_toArray, List.getElem?_cons_zero, List.getElem?_cons_succ, Option.toList_some, List.cons_append, List.nil_append]
      repeat (go_big_quiet_step (fail))
      refine wpQuiet_nil ?_
      intro wg hw'
      obtain ⟨⟨wz, hbg⟩, hw''⟩ := hw'
      subst hw''
      have X2 := X.out.below hbg
      have c := X2.cell (i + 1) (by rw [nextL_len]; omega)
      have f := X2.frozen (i + 1)
      clear d0 d1
      go_wp2_with fail
      go_roundw
      case rel =>
        refine ⟨i + 1, by omega, by omega, by go_num, Lib.hid ?_, Lib.hid ((T.out.below hbg).far _ _ _ (by omega)), Lib.hid ((below_size B.out hbg).setCell (by simp; omega) _)⟩
        rw [HSt.out, HB.out]
        rw [show ((bs : Int) + ct) * 2 = (((bs + ct) * 2 : Nat) : Int) by omega]
        exact X2.set (i + 1) (((bs + ct) * 2 : Nat) : Int)
      case measure => simp [intOf]; omega
    · have hi15 : i = 15 := by omega
      have hnl : ¬ (i : Int) < 15 := by omega
      rw [hi15, ← nowL_zero] at X
      have hTl := T.out.lt; have hXl := X.out.lt
      go_upto_region 12 with (fail)
      clear hnl hlt hi15 hi hi1
      go_wp2_with (at_make; refine wpList_make_full _ rfl _ _ 32 rfl wr.heap.size 40 i0 _ 2 Try.underlying32 Hi.out Hz0.out Hz1.out _ _ _ _ n rfl rfl (by first | rfl | omega) (by first | rfl | omega) (by rw [Hz2.out]; omega) (by unfold maxLen; omega) (Nat.le_refl _) ?_)
      intro w5 hown hgrow
      have hb5 : Below wr.heap.size wr w5 := (Below.refl _ _).grown hgrow (Nat.le_refl _) (fun k h => nomatch h)
      clear hgrow
      have C5 : Hid (CRow w5 wr.heap.size 40 wr.heap.size n n (fun _ => (0, 0))) := Lib.hid ⟨_, hown, fun j hj => by
        have e0 : j * 2 < n * 2 := by omega
        have e1 : j * 2 + 1 < n * 2 := by omega
        have e2 : (j * 2 + 1) % 2 = 1 := by omega
        simp [madeCells, e0, e1, e2]⟩
      have X5 := Lib.hid (X.out.below hb5); have T5 := Lib.hid (T.out.below hb5); have B5 := Lib.hid (below_size B.out hb5)
      clear hown
      generalize wr.heap.size = gc at *
      go_wp2_with fail
      go_loopw [45] (fun vi wr => ∃ i : Nat, i ≤ n ∧ vi = .int .i64 i ∧ Hid (KBox .u32 wr (g + 1) 81 (nowL ls i)) ∧ Hid (CRow wr gc 40 gc n n (fun j => if j < i then codeAt ls j else (0, 0))) ∧ Hid (Below w1.heap.size w1 wr)) (fun vi _ => n - (intOf vi).toNat)
      case atStart => exact ⟨0, Nat.zero_le _, rfl, X5, Lib.hid (C5.out.congr fun j _ => by simp), B5⟩
      case round =>
        obtain ⟨i, hi, rfl, X, C, B⟩ := hrel
        clear X5 C5 B5 T5
        by_cases hlt : i < n
        · obtain ⟨b, off, rfl, hc⟩ := (HR.out.below B.out).cellAt i hlt
          have hx := HKO.out.2 (ls.getD i 0) (by simp [List.getD, HL.out, hlt])
          have hlt' : (i : Int) < n := by omega
          have hi0 : (0 : Int) ≤ i := by omega
          have hil : i < ls.length := by rw [HL.out]; exact hlt
          by_cases hp : (0 : Int) < ls.getD i 0
          · obtain ⟨y, hy⟩ := Int.eq_ofNat_of_zero_le hx.1
            have hy15 : y < 16 := by omega
            have hy0 : 0 < y := by omega
            have HNX := Lib.hid (nowL_set ls i y hil hy hy0 hy15)
            have HAT := Lib.hid (nowL_at ls i y hy hy0 hy15)
            have hcl := codeN_le ls i HKO.out hil
            have HCA := Lib.hid (show codeAt ls i = ((codeN ls i : Int), (y : Int)) by unfold codeAt; rw [if_pos hp, hy])
            rw [hy] at hc
            have k := X.out.cell y (by rw [nowL_len]; exact hy15)
            rw [HAT.out] at k
            have f := X.out.frozen y
            have e0 := C.out.c0 i hlt; have e1 := C.out.c1 i hlt
            have f0 := C.out.f (i * 2); have f1 := C.out.f (i * 2 + 1)
            have hy2 : (y : Int) < 16 := by omega
            have hy3 : (0 : Int) ≤ y := by omega
            have hy4 : (0 : Int) < y := by omega
            have hgne : ¬ gc = g + 1 := by omega
            generalize codeN ls i = cd at *
            clear hp hx hy hil
            go_wp2_with fail
            go_roundw
            case rel =>
              refine ⟨i + 1, by omega, by go_num, Lib.hid ?_, Lib.hid ?_, Lib.hid ?_⟩
              · rw [HNX.out, HAT.out]
                exact ((X.out.far gc (i * 2) _ hgne).far gc (i * 2 + 1) _ hgne).set y ((cd : Int) + 1)
              · refine ((C.out.set i cd y hlt).far (g + 1) y _ (by omega)).congr fun j hj => ?_
                by_cases e2 : j = i
                · rw [if_pos e2, if_pos (by omega), e2, HCA.out]
                · rw [if_neg e2]
                  by_cases e : j < i
                  · rw [if_pos e, if_pos (by omega)]
                  · rw [if_neg e, if_neg (by omega)]
              · exact ((B.out.setCell (p := ⟨gc, i * 2, Option.none⟩) (by show w1.heap.size ≤ gc; omega) _).setCell (p := ⟨gc, i * 2 + 1, Option.none⟩) (by show w1.heap.size ≤ gc; omega) _).setCell (p := ⟨g + 1, y, Option.none⟩) (by show w1.heap.size ≤ g + 1; omega) _
            case measure => simp [intOf]; omega
          · have HNX := Lib.hid (nowL_no ls i hil hp)
            have HCA := Lib.hid (show codeAt ls i = (0, 0) by unfold codeAt; rw [if_neg hp])
            generalize ls.getD i 0 = x at *
            go_wp2_with fail
            go_roundw
            case rel =>
              refine ⟨i + 1, by omega, by go_num, by rw [HNX.out]; exact X, Lib.hid (C.out.congr fun j hj => ?_), B⟩
              by_cases e : j < i
              · rw [if_pos e, if_pos (by omega)]
              · rw [if_neg e]
                by_cases e2 : j = i
                · rw [if_pos (by omega), e2, HCA.out]
                · rw [if_neg (by omega)]
            case measure => simp [intOf]; omega
        · have hin : i = n := by omega
          have hnl : ¬ (i : Int) < n := by omega
          go_wp2_with fail
          go_ret2
          unfold RetC
          rw [HL.out]
          refine ⟨gc, n, rfl, ?_, B.out⟩
          obtain ⟨vs, ho, hv⟩ := C.out
          obtain ⟨hl, h | ⟨g', c', cur, e1, e2, e3⟩⟩ := ho
          · simp at h
          · refine ⟨vs, ⟨hl, .inr ⟨g', c', cur, e1, by simp at e1; omega, e3⟩⟩, fun j hj => ?_⟩
            have := hv j hj
            have h9 : j < i := by omega
            simpa only [h9, if_true] using this
end Go.Proofs.Ytmdkinhbfndoeaa
