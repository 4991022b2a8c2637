/-
  The reference's Find; tokens carried over and held against one another.
-/
import Derived.Test.YtfolhckhedinhaaLzRef
import Derived.Test.YtfolhckhedinhaaLzFirst
import Derived.Deep.RegionHeld3
import Derived.Laws.StructEq
namespace Go.Proofs.Ytfolhckhedinhaa
open Go.RowKit

theorem infoU : (Try.prog.info? 53).map (fun i => (i.zero, i.size, i.bytes)) = some (some (.agg #[.int .i64 0, .int .i64 0, .int .i64 0]), 3, 24) := by kernel_rfl
/-- New tokens of the reference and an error's number. -/
def RetU (w : World) (ts : List Tok) (E : Int) (e : Ending) (w' : World) : Prop := ∃ a cap, e = .returned (.tuple #[.slice a ts.length cap, .int .i64 E]) ∧ w'.ownsRow w.heap.size 53 3 (.slice a ts.length cap) ts.length (flatT ts) ∧ Below w.heap.size w w'

theorem rfind_no (b : Option Addr) (n cap : Nat) (w : World) (hn : 40000 < n) (h63 : n ≤ 9223372036854775807) :
    Calls Try.prog 12 #[.slice b n cap] w (RetU w [] 10) := by
  have h1 : (40000 : Int) < n := by omega
  go_enter Try.func12, Try.ntmps12
  go_wp2
  go_ret2
  exact ⟨Option.none, 0, rfl, World.ownsRow_nil _ _ _ _, Below.refl _ _⟩

set_option maxRecDepth 100000 in
set_option maxHeartbeats 1000000 in
theorem rfind_yes (b : Option Addr) (n cap : Nat) (xs : List Int) (w : World) (hr : Reads .u8 w b n cap xs) (hx : isB xs) (hn : n ≤ 40000) :
    Calls Try.prog 12 #[.slice b n cap] w (RetU w (findL xs) 0) := by
  obtain ⟨i0, hi, hz0, hz1, hz2⟩ := info_parts infoU
  have Hi := Lib.hid hi; have Hz0 := Lib.hid hz0; have Hz1 := Lib.hid hz1; have Hz2 := Lib.hid hz2
  have HR := Lib.hid hr; have HX := Lib.hid hx; have HL := Lib.hid hr.len
  have h1 : decide ((40000 : Int) < n) = false := by simp; omega
  clear hi hz0 hz1 hz2 hr hx
  go_enter Try.func12, Try.ntmps12
  go_wp2_with fail
  have HO := Lib.hid (show w.ownsRow w.heap.size 53 3 (.slice Option.none 0 0) 0 (flatT []) from World.ownsRow_nil _ _ _ _)
  go_loopw [4, 5] (fun vo vi wr => ∃ (k : Nat) (a : Option Addr) (ca : Nat), vo = .slice a (iter xs k).1.length ca ∧ vi = .int .i64 ((iter xs k).2 : Nat) ∧ wr.ownsRow w.heap.size 53 3 (.slice a (iter xs k).1.length ca) (iter xs k).1.length (flatT (iter xs k).1) ∧ Below w.heap.size w wr) (fun _ vi _ => n - (intOf vi).toNat)
  case atStart => exact ⟨0, _, _, rfl, rfl, HO.out, Below.refl _ _⟩
  case round =>
    obtain ⟨k, a, ca, rfl, rfl, ho, hbel⟩ := hrel
    have HIL := Lib.hid (iter_le xs k)
    have hil := iter_len xs k
    clear HO
    obtain ⟨ts, at0, hit⟩ : ∃ ts at0, iter xs k = (ts, at0) := ⟨_, _, rfl⟩
    have HIT := Lib.hid hit
    rw [hit] at ho hil ⊢
    dsimp only at ho hil ⊢
    have hle : at0 ≤ n := by have := HIL.out; rw [hit, HL.out] at this; exact this
    clear hit HIL
    have HO := Lib.hid ho; have HB := Lib.hid hbel
    clear ho hbel
    by_cases hlt : at0 < n
    · have hcall := rmatch_any b n cap xs at0 wr (HR.out.below HB.out) HX.out hlt (by omega)
      have hml := mtch_le xs at0
      have hmd := mtch_dist xs at0
      have HTA := Lib.hid (show tokAt xs at0 = (if (mtch xs at0).1 = 0 then ((0, 0, xs.getD at0 0) : Tok) else ((((mtch xs at0).1 : Nat) : Int), (((mtch xs at0).2 : Nat) : Int), (0 : Int))) from rfl)
      have HSA := Lib.hid (show stepAt xs at0 = if (mtch xs at0).1 = 0 then 1 else (mtch xs at0).1 from rfl)
      unfold mostOf at hml
      rw [HL.out] at hml
      have HC := Lib.hid hcall
      clear hcall
      generalize (mtch xs at0).1 = l at *
      generalize (mtch xs at0).2 = d at *
      obtain ⟨b0, off, rfl, hx0⟩ := HR.out.cellAt at0 hlt
      have hb0 : b0 < w.heap.size := by
        obtain ⟨b', off', e', hb', _⟩ := HR.out.cells (by omega)
        obtain ⟨rfl, rfl⟩ : b0 = b' ∧ off = off' := by simpa using e'
        exact hb'
      have hx1 := HX.out.get at0 (by rw [HL.out]; exact hlt)
      have HNX := Lib.hid (show iter xs (k + 1) = (ts ++ [tokAt xs at0], at0 + stepAt xs at0) by rw [iter, HIT.out, if_pos (by rw [HL.out]; exact hlt)])
      go_wp2_with fail
      refine HC.out.mono ?_; rintro e w6 ⟨rfl, q, rfl⟩
      replace HO := Lib.hid (show (wr.drewN q).ownsRow w.heap.size 53 3 (.slice a ts.length ca) ts.length (flatT ts) from HO.out)
      replace HB := Lib.hid (below_drewN HB.out q)
      have hx2 : (wr.drewN q).cell? ⟨b0, off + at0, Option.none⟩ = some (.int .u8 (xs.getD at0 0)) := (HB.out.cell (p := ⟨b0, off + at0, Option.none⟩) hb0).trans hx0
      generalize xs.getD at0 0 = xv at *
      generalize wr.drewN q = W at *
      clear HC hx0
      by_cases hl0 : l = 0
      · subst hl0
        have i0' : (at0 : Int) < n := by omega
        go_wp2_with (at_builtin; refine wpList_append_any _ rfl _ _ 29 rfl w.heap.size 53 i0 _ 3 24 Try.underlying29 Hi.out Hz0.out Hz1.out Hz2.out rfl (by decide) a ts.length ca (flatT ts) rfl (World.ownsRow.alloc HO.out _) _ 1 1 _ rfl rfl (cells_alloc3 _ _ _ _ _ _) (by simp [Value.oneCell']) (by decide) (by unfold maxLen; omega) (by omega) (by have := HB.out.size; simp; omega) ?_; intro a2 c2 w5 r5 g5 f5)
        have B5 := Lib.hid ((HB.out.alloc HB.out.size (.cells #[.int .i64 0, .int .i64 0, .int .i64 xv] 53)).grown g5 (by have := HB.out.size; simp; omega) (fun j hj => (HO.out.lt j hj).1))
        have R5 := Lib.hid r5
        clear r5 g5 f5 hx2
        go_wp2_with fail
        go_roundw
        case rel =>
          have e1 : tokAt xs at0 = (0, 0, xv) := by rw [HTA.out]; simp
          have e2 : stepAt xs at0 = 1 := by rw [HSA.out]; simp
          refine ⟨k + 1, a2, c2, ?_, ?_, ?_, B5.out⟩
          · rw [HNX.out]; simp
          · rw [HNX.out, e2]; simp
          · rw [HNX.out, e1]
            simpa [flatT_append, flatT] using R5.out
        case measure => simp [intOf]; omega
      · have hl1 : ((l : Int) == 0) = false := by simp; omega
        go_wp2_with (at_builtin; refine wpList_append_any _ rfl _ _ 29 rfl w.heap.size 53 i0 _ 3 24 Try.underlying29 Hi.out Hz0.out Hz1.out Hz2.out rfl (by decide) a ts.length ca (flatT ts) rfl (World.ownsRow.alloc HO.out _) _ 1 1 _ rfl rfl (cells_alloc3 _ _ _ _ _ _) (by simp [Value.oneCell']) (by decide) (by unfold maxLen; omega) (by omega) (by have := HB.out.size; simp; omega) ?_; intro a2 c2 w5 r5 g5 f5)
        have B5 := Lib.hid ((HB.out.alloc HB.out.size (.cells #[.int .i64 l, .int .i64 d, .int .i64 0] 53)).grown g5 (by have := HB.out.size; simp; omega) (fun j hj => (HO.out.lt j hj).1))
        have R5 := Lib.hid r5
        clear r5 g5 f5 hx2
        go_wp2_with fail
        go_roundw
        case rel =>
          have e1 : tokAt xs at0 = ((l : Int), (d : Int), (0 : Int)) := by rw [HTA.out, if_neg hl0]
          have e2 : stepAt xs at0 = l := by rw [HSA.out, if_neg hl0]
          refine ⟨k + 1, a2, c2, ?_, ?_, ?_, B5.out⟩
          · rw [HNX.out]; simp
          · rw [HNX.out, e2]; simp
          · rw [HNX.out, e1]
            simpa [flatT_append, flatT] using R5.out
        case measure => simp [intOf]; omega
    · have hend : ts = findL xs := by
        have := iter_end xs k (by rw [HIT.out, HL.out]; exact hlt)
        rw [HIT.out] at this
        exact this
      subst hend
      go_wp2
      go_ret2
      exact ⟨a, ca, rfl, HO.out, HB.out⟩

set_option maxRecDepth 100000 in
set_option maxHeartbeats 1000000 in
theorem tokens_any (a : Option Addr) (n cap : Nat) (ts : List Tok) (w : World) (ht : Toks w a n cap ts) (hn : n ≤ 100000) :
    Calls Try.prog 14 #[.slice a n cap] w fun e w' => ∃ a' cap', e = .returned (.slice a' n cap') ∧ w'.ownsRow w.heap.size 53 3 (.slice a' n cap') n (flatT ts) ∧ Below w.heap.size w w' := by
  obtain ⟨i0, hi, hz0, hz1, hz2⟩ := info_parts infoU
  have Hi := Lib.hid hi; have Hz0 := Lib.hid hz0; have Hz1 := Lib.hid hz1; have Hz2 := Lib.hid hz2
  have HT := Lib.hid ht; have HL := Lib.hid ht.len
  clear hi hz0 hz1 hz2 ht
  go_enter Try.func14, Try.ntmps14
  go_wp2_with fail
  go_loopw [3, 4] (fun vo vi wr => ∃ (i : Nat) (a' : Option Addr) (ca : Nat), i ≤ n ∧ vo = .slice a' i ca ∧ vi = .int .i64 i ∧ wr.ownsRow w.heap.size 53 3 (.slice a' i ca) i (flatT (ts.take i)) ∧ Below w.heap.size w wr) (fun _ vi _ => n - (intOf vi).toNat)
  case atStart => exact ⟨0, _, _, Nat.zero_le _, rfl, rfl, World.ownsRow_nil _ _ _ _, Below.refl _ _⟩
  case round =>
    obtain ⟨i, a', ca, hi, rfl, rfl, ho, hbel⟩ := hrel
    have HO := Lib.hid ho; have HB := Lib.hid hbel
    clear ho hbel
    by_cases hlt : i < n
    · obtain ⟨ga, off, t, rfl, hg, htt, _, _, _⟩ := (HT.out.below HB.out).at i hlt
      have Keep : Hid (∀ w', Below w.heap.size w w' → w'.cell? ⟨ga, off + i * 3, Option.none⟩ = some (.int .i64 t.1) ∧ w'.cell? ⟨ga, off + i * 3 + 1, Option.none⟩ = some (.int .i64 t.2.1) ∧ w'.cell? ⟨ga, off + i * 3 + 2, Option.none⟩ = some (.int .i64 t.2.2)) := by
        refine Lib.hid (fun w' hb' => ?_)
        obtain ⟨b, off', t', e, _, ht', j0, j1, j2⟩ := (HT.out.below hb').at i hlt
        obtain ⟨rfl, rfl⟩ : ga = b ∧ off = off' := by simpa using e
        rw [htt] at ht'
        cases ht'
        exact ⟨j0, j1, j2⟩
      have HTT := Lib.hid htt
      clear htt hg
      obtain ⟨t0, t1, t2⟩ := t
      dsimp only at Keep
      go_wp2_with fail
      go_region_held3 (fun w' => w'.cell? ⟨ga, off + i * 3, Option.none⟩ = some (.int .i64 t0) ∧ w'.cell? ⟨ga, off + i * 3 + 1, Option.none⟩ = some (.int .i64 t1) ∧ w'.cell? ⟨ga, off + i * 3 + 2, Option.none⟩ = some (.int .i64 t2))
        (first | exact Keep.out _ HB.out.drew | exact Keep.out _ (HB.out.drew.alloc HB.out.drew.size _) | exact Keep.out _ B3)
        (first
        | (refine step_append_any rfl _ _ 29 rfl w.heap.size 53 i0 _ 3 24 Try.underlying29 Hi.out Hz0.out Hz1.out Hz2.out rfl (by decide) a' i ca (flatT (ts.take i)) rfl (World.ownsRow.alloc (owns_keep HO.out (fun r e => rfl)) _) _ 1 1 _ rfl rfl (cells_alloc3 _ _ _ _ _ _) (by simp [Value.oneCell']) (by decide) (by unfold maxLen; omega) (by omega) (by have := HB.out.size; simp; omega) ?_; intro a2 cap2 x3 r3 g3 f3; have B3 : Below w.heap.size w x3 := (HB.out.drew.alloc HB.out.drew.size _).grown g3 (by have := HB.out.size; simp; omega) (fun k hk => (HO.out.lt k hk).1)))
      have HB3 := Lib.hid B3; have R3 := Lib.hid r3
      clear r3 g3 f3 B3 Keep
      go_wp2_with fail
      go_roundw
      case rel =>
        refine ⟨i + 1, a2, cap2, by omega, rfl, by go_num, ?_, HB3.out⟩
        have e : ts.take (i + 1) = ts.take i ++ [(t0, t1, t2)] := by rw [List.take_add_one, HTT.out]; rfl
        rw [e, flatT_append]
        exact R3.out
      case measure => simp [intOf]; omega
    · obtain rfl : i = n := by omega
      go_wp2
      go_ret
      have e : ts.take i = ts := List.take_of_length_le (by have := HL.out; omega)
      rw [e] at HO
      exact ⟨a', ca, rfl, HO.out, HB.out⟩

theorem neqU (x y z : Int) (w : World) : (binOp .neq 53 (.agg #[.int .i64 x, .int .i64 y, .int .i64 z]) (.agg #[.int .i64 x, .int .i64 y, .int .i64 z])).run Try.prog w = .ok (.bool false) w := by
  simp [go_sem]

set_option maxRecDepth 100000 in
set_option maxHeartbeats 1000000 in
theorem same_any (a b : Option Addr) (n ca cb : Nat) (ts : List Tok) (w : World) (ha : Toks w a n ca ts) (hb : Toks w b n cb ts) :
    Calls Try.prog 13 #[.slice a n ca, .slice b n cb] w fun e w' => e = .returned (.bool true) ∧ ∃ q, w' = w.drewN q := by
  have hnq := neqU
  have n63 := ha.n63
  have HA := Lib.hid ha; have HB := Lib.hid hb
  clear ha hb
  go_enter Try.func13, Try.ntmps13
  go_wp2_with fail
  go_loopw [5] (fun vi wr => ∃ i q : Nat, i ≤ n ∧ vi = .int .i64 i ∧ wr = w.drewN q) (fun vi _ => n - (intOf vi).toNat)
  case atStart => exact ⟨0, 0, Nat.zero_le _, rfl, rfl⟩
  case round =>
    obtain ⟨i, q, hi, rfl, rfl⟩ := hrel
    by_cases hlt : i < n
    · obtain ⟨ga, off, t, rfl, hg, htt, k0, k1, k2⟩ := (HA.out.drewN q).at i hlt
      obtain ⟨gb, of2, t', rfl, hg', htt', l0, l1, l2⟩ := (HB.out.drewN q).at i hlt
      rw [htt] at htt'
      cases htt'
      obtain ⟨t0, t1, t2⟩ := t
      dsimp only at k0 k1 k2 l0 l1 l2
      clear htt hg hg'
      generalize hW : w.drewN q = W at *
      have HW := Lib.hid hW
      clear hW
      have K0 : ∀ j, (W.drewN j).cell? ⟨ga, off + i * 3, Option.none⟩ = some (.int .i64 t0) := fun j => k0
      have K1 : ∀ j, (W.drewN j).cell? ⟨ga, off + i * 3 + 1, Option.none⟩ = some (.int .i64 t1) := fun j => k1
      have K2 : ∀ j, (W.drewN j).cell? ⟨ga, off + i * 3 + 2, Option.none⟩ = some (.int .i64 t2) := fun j => k2
      have L0 : ∀ j, (W.drewN j).cell? ⟨gb, of2 + i * 3, Option.none⟩ = some (.int .i64 t0) := fun j => l0
      have L1 : ∀ j, (W.drewN j).cell? ⟨gb, of2 + i * 3 + 1, Option.none⟩ = some (.int .i64 t1) := fun j => l1
      have L2 : ∀ j, (W.drewN j).cell? ⟨gb, of2 + i * 3 + 2, Option.none⟩ = some (.int .i64 t2) := fun j => l2
      clear k0 k1 k2 l0 l1 l2
      go_wp2_with fail
      go_quiet (fail)
      clear K0 K1 K2 L0 L1 L2
      go_wp2_with fail
      go_roundw
      case rel => exact ⟨i + 1, q + nq, by omega, by go_num, by rw [← HW.out, drewN_drewN]⟩
      case measure => simp [intOf]; omega
    · go_wp2
      go_ret
      exact ⟨rfl, q, rfl⟩
end Go.Proofs.Ytfolhckhedinhaa
