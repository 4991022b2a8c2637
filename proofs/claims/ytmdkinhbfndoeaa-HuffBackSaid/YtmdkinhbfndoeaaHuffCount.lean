/-
  huff.count.
-/
import Derived.Test.YtmdkinhbfndoeaaHuffLists
namespace Go.Proofs.Ytmdkinhbfndoeaa
open Go.RowKit

abbrev CSt := List Int × Nat × Nat
def countStep (its : List (Int × Int)) (r : CSt) (m : Mem) : CSt :=
  if m.2 then (r.1, r.2.1, r.2.2 + 1)
  else (r.1.set (its.getD r.2.1 (0, 0)).2.toNat (IntKind.i64.wrap (r.1.getD (its.getD r.2.1 (0, 0)).2.toNat 0 + 1)), r.2.1 + 1, r.2.2)
def countRow (its : List (Int × Int)) (ys : List Int) (ms : List Mem) : CSt := ms.foldl (countStep its) (ys, 0, 0)
def countP (its : List (Int × Int)) : Nat → Nat → List Int → List Int
  | 0, _, ys => ys
  | i + 1, front, ys => countP its i (2 * (countRow its ys ((listP its i).take front)).2.2) (countRow its ys ((listP its i).take front)).1
def packs (ms : List Mem) : Nat := (ms.filter fun m => m.2).length
def singles (ms : List Mem) : Nat := (ms.filter fun m => !m.2).length
def countOk (its : List (Int × Int)) : Nat → Nat → Bool
  | 0, _ => true
  | i + 1, front => decide (front ≤ (listP its i).length) && decide (singles ((listP its i).take front) ≤ its.length) && countOk its i (2 * packs ((listP its i).take front))
theorem countRow_snoc (its : List (Int × Int)) (ys : List Int) (ms : List Mem) (m : Mem) : countRow its ys (ms ++ [m]) = countStep its (countRow its ys ms) m := by
  simp [countRow]
theorem foldl_counts (its : List (Int × Int)) (ms : List Mem) : ∀ r : CSt, (ms.foldl (countStep its) r).1.length = r.1.length ∧ (ms.foldl (countStep its) r).2.1 = r.2.1 + singles ms ∧ (ms.foldl (countStep its) r).2.2 = r.2.2 + packs ms := by
  induction ms with
  | nil => intro r; simp [singles, packs]
  | cons m ms ih =>
    intro r
    rw [List.foldl_cons]
    obtain ⟨h1, h2, h3⟩ := ih (countStep its r m)
    rw [h1, h2, h3]
    obtain ⟨a, b⟩ := m
    cases b
    · simp [countStep, singles, packs]; omega
    · simp [countStep, singles, packs]; omega
theorem countRow_len (its : List (Int × Int)) (ys : List Int) (ms : List Mem) : (countRow its ys ms).1.length = ys.length := (foldl_counts its ms (ys, 0, 0)).1
theorem countRow_singles (its : List (Int × Int)) (ys : List Int) (ms : List Mem) : (countRow its ys ms).2.1 = singles ms := by have := (foldl_counts its ms (ys, 0, 0)).2.1; simpa [countRow] using this
theorem countRow_packs (its : List (Int × Int)) (ys : List Int) (ms : List Mem) : (countRow its ys ms).2.2 = packs ms := by have := (foldl_counts its ms (ys, 0, 0)).2.2; simpa [countRow] using this
theorem singles_take_lt {ms : List Mem} {j f : Nat} (h : j < f) (hf : f ≤ ms.length) (hm : (ms.getD j (0, false)).2 = false) : singles (ms.take j) + 1 ≤ singles (ms.take f) := by
  have e : ms.take f = ms.take j ++ (ms.getD j (0, false) :: (ms.take f).drop (j + 1)) := by
    have h1 : (ms.take f).take j = ms.take j := by rw [List.take_take, Nat.min_eq_left (by omega)]
    conv => lhs; rw [← List.take_append_drop j (ms.take f), h1]
    rw [List.drop_eq_getElem_cons (show j < (ms.take f).length by rw [List.length_take]; omega)]
    simp [List.getD, show j < ms.length by omega]
  rw [e]
  simp only [singles, List.filter_append, List.length_append, List.filter_cons, hm, Bool.not_false, if_true, List.length_cons]
  omega
theorem getD_wrap (ys : List Int) (k : Nat) : (ys.map (Value.int .i64)).getD k (.int .i64 0) = .int .i64 (ys.getD k 0) := by
  simp only [List.getD, List.getElem?_map]
  cases ys[k]? <;> rfl

/-! What one block's change leaves -/
theorem ItemsAt.keep {w w' : World} {g n : Nat} {its : List (Int × Int)} (h : ItemsAt w g n its) (hs : w.heap.size ≤ w'.heap.size) (hb : w'.heap[g]? = w.heap[g]?) : ItemsAt w' g n its := by
  refine ⟨h.len, Nat.lt_of_lt_of_le h.lt hs, fun j hj => ?_, fun j hj => ?_⟩
  · rw [← h.c0 j hj]; unfold World.cell?; rw [hb]
  · rw [← h.c1 j hj]; unfold World.cell?; rw [hb]
theorem grownBy_refl (w : World) (o : Option Nat) : w.grownBy w o := ⟨rfl, rfl, rfl, Nat.le_refl _, fun _ _ _ => rfl⟩
theorem grownBy_below {w w1 w2 : World} {o : Option Nat} (h : w.grownBy w1 o) (hb : Below w1.heap.size w1 w2) : w.grownBy w2 o :=
  ⟨hb.os.trans h.os, hb.tape.trans h.tape, hb.output.trans h.output, Nat.le_trans h.size hb.size, fun k hk hne => (hb.block k (Nat.lt_of_lt_of_le hk h.size)).trans (h.block k hk hne)⟩

theorem grownBy_then {w w1 w2 : World} {o : Option Nat} (h : w.grownBy w1 o) (h2 : w1.grownBy w2 o) : w.grownBy w2 o :=
  ⟨h2.os.trans h.os, h2.tape.trans h.tape, h2.output.trans h.output, Nat.le_trans h.size h2.size, fun k hk hne => (h2.block k (Nat.lt_of_lt_of_le hk h.size) hne).trans (h.block k hk hne)⟩
theorem sizeMemB : (Try.prog.info? 99).map (·.size) = some 2 := by kernel_rfl
theorem slice_mems (g n cap hi : Nat) (h1 : hi ≤ cap) (h2 : cap ≠ 0) (w : World) : (Instr.slice 97 (.slice (some ⟨g, 0, Option.none⟩) n cap) Option.none (some (.int .i64 (hi : Int))) Option.none).run Try.prog w = .ok (.slice (some ⟨g, 0, Option.none⟩) hi cap) w := by
  obtain ⟨i, hi', hz⟩ := Option.map_eq_some_iff.1 sizeMemB
  simp [Instr.slice, run_underlying Try.underlying97, Instr.sliceBounds, run_sliceBound, sizeOf, typeInfo, hi', hz, h1, h2, Addr.add_lit]

set_option maxRecDepth 100000 in
set_option maxHeartbeats 2000000 in
theorem count_any (gl L cl : Nat) (ys : List Int) (g n ca : Nat) (its : List (Int × Int)) (a : Option Addr) (most c : Nat) (vs : List Value) (B : Nat) (w : World) (hK : KBox .i64 w gl 3 ys) (hL : ys.length = L) (hI : ItemsAt w g n its) (hgi : g ≠ gl) (hn : n ≤ 300) (hn1 : 1 ≤ n) (hca : n ≤ ca ∧ ca ≤ maxLen)
    (hcl : L ≤ cl ∧ cl ≤ maxLen) (hm : most ≤ 15) (hO : w.ownsRow B 97 1 (.slice a most c) most vs) (hV : ∀ k, k < most → ∃ v, vs[k]? = some v ∧ SlM w B v (listP its k)) (hB : gl < B) (hp : ∀ x ∈ its, 0 ≤ x.2 ∧ x.2 < L) (hok : countOk its most (2 * n - 2) = true) :
    Calls Try.prog 32 #[.slice (some ⟨gl, 0, Option.none⟩) L cl, .slice (some ⟨g, 0, Option.none⟩) n ca, .slice a most c] w fun e w' =>
      (∃ v, e = .returned v) ∧ KBox .i64 w' gl 3 (countP its most (2 * n - 2) ys) ∧ w.grownBy w' (some gl) := by
  have HK := Lib.hid hK; have HI := Lib.hid hI; have HO := Lib.hid hO; have HV := Lib.hid hV; have HP := Lib.hid hp; have HOK := Lib.hid hok; have HL := Lib.hid hL
  have e2 : 2 * (n : Int) - 2 = ((2 * n - 2 : Nat) : Int) := by omega
  clear hK hI hO hV hp hok hL
  generalize hT : countP its most (2 * n - 2) ys = T at *
  have HT := Lib.hid hT
  clear hT
  go_enter Try.func32, Try.ntmps32
  go_wp2_with fail
  clear e2
  have HF := Lib.hid (show 2 * n - 2 ≤ 2000 by omega)
  generalize 2 * n - 2 = f at *
  go_loopw [6, 7] (fun vf vi wr => ∃ (f i : Nat) (ys : List Int), i ≤ most ∧ f ≤ 2000 ∧ vf = .int .i64 f ∧ vi = .int .i64 ((i : Int) - 1) ∧ Hid (countP its i f ys = T) ∧ Hid (countOk its i f = true) ∧ Hid (ys.length = L) ∧ Hid (KBox .i64 wr gl 3 ys) ∧ Hid (w.grownBy wr (some gl))) (fun _ vi _ => (intOf vi + 1).toNat)
  case atStart => exact ⟨f, most, ys, Nat.le_refl _, HF.out, rfl, rfl, HT, HOK, HL, HK, Lib.hid (grownBy_refl _ _)⟩
  case round =>
    obtain ⟨f, i, ys, hi, hf, rfl, rfl, HT, HOK, HL, HK, HG⟩ := hrel
    cases i with
    | zero =>
      have hlt : ¬ (0 : Int) ≤ ((0 : Nat) : Int) - 1 := by omega
      go_wp2_with fail
      go_end0
      exact ⟨⟨_, rfl⟩, by rw [← HT.out]; exact HK.out, HG.out⟩
    | succ i =>
      have e1 : ((i + 1 : Nat) : Int) - 1 = i := by omega
      rw [e1]
      have hge : (0 : Int) ≤ i := by omega
      have him : i < most := by omega
      obtain ⟨ga, rfl, hga⟩ := owns_addr HO.out (by omega)
      obtain ⟨v, hv, gm, cm, rfl, mm, hc1, hc2, hbm⟩ := HV.out i him
      have q0 := HO.out.cells (g := ga) rfl _ _ hv
      rw [Addr.add_lit, Nat.zero_add] at q0
      have qa : wr.cell? ⟨ga, i, Option.none⟩ = _ := (World.cell?_of_block (HG.out.block ga (HO.out.lt ga rfl).2 (fun e => by simp at e; omega))).trans q0
      have hok := HOK.out
      simp only [countOk, Bool.and_eq_true, decide_eq_true_eq] at hok
      obtain ⟨⟨hfl, hsi⟩, hok⟩ := hok
      have hll := (listP_len its i).1
      rw [HI.out.len] at hll hsi
      have hS := slice_mems gm (listP its i).length cm f (by omega) (by omega)
      have HMM := Lib.hid mm
      have HT2 := Lib.hid (show countP its i (2 * (countRow its ys ((listP its i).take f)).2.2) (countRow its ys ((listP its i).take f)).1 = T from HT.out)
      have hok2 := hok
      rw [← countRow_packs its ys] at hok2
      have HOK2 := Lib.hid hok2
      have hll2 := (listP_len its i).2
      rw [HI.out.len] at hll2
      clear q0 hok hok2 HT HOK hv mm
      generalize listP its i = ms at *
      have hmf : f ≤ ms.length := hfl
      go_wp2_with fail
      go_loopw [8, 9, 30] (fun vs vp vj wz => ∃ j : Nat, j ≤ f ∧ vs = .int .i64 ((countRow its ys (ms.take j)).2.1 : Nat) ∧ vp = .int .i64 ((countRow its ys (ms.take j)).2.2 : Nat) ∧ vj = .int .i64 j ∧ Hid (KBox .i64 wz gl 3 (countRow its ys (ms.take j)).1) ∧ Hid (w.grownBy wz (some gl))) (fun _ _ vj _ => f - (intOf vj).toNat)
      case atStart => exact ⟨0, Nat.zero_le _, rfl, rfl, rfl, HK, HG⟩
      case round =>
        clear HK HG qa
        obtain ⟨j, hj, rfl, rfl, rfl, HK, HG⟩ := hrel
        by_cases hjf : j < f
        · have M := HMM.out.keep HG.out.size (HG.out.block gm HMM.out.lt (fun e => by simp at e; omega))
          have m0 := M.c0 j (by omega)
          have m1 := M.c1 j (by omega)
          have hjf' : (j : Int) < f := by omega
          have hcs := countRow_singles its ys (ms.take j)
          have hcl := countRow_len its ys (ms.take j)
          have hcp := countRow_packs its ys (ms.take j)
          have hpk : packs (ms.take j) ≤ j := Nat.le_trans (List.length_filter_le _ _) (by rw [List.length_take]; omega)
          have HNX := Lib.hid (show countRow its ys (ms.take (j + 1)) = countStep its (countRow its ys (ms.take j)) (ms.getD j (0, false)) by rw [take_getDV ms j (by omega) (0, false), countRow_snoc])
          cases hb : (ms.getD j (0, false)).2 with
          | true =>
            rw [hb] at m1
            generalize (ms.getD j (0, false)).1 = x at *
            have HB := Lib.hid hb
            clear hb M
            have hp63 : ((countRow its ys (ms.take j)).2.2 : Int) < 9223372036854775807 := by omega
            go_wp2_with fail
            have e : countRow its ys (ms.take (j + 1)) = ((countRow its ys (ms.take j)).1, (countRow its ys (ms.take j)).2.1, (countRow its ys (ms.take j)).2.2 + 1) := by
              rw [HNX.out]; unfold countStep; rw [if_pos HB.out]
            refine ⟨⟨j + 1, by omega, by rw [e], by rw [e, ← hcp]; go_num, by go_num, Lib.hid (by rw [e]; exact HK.out.below ((Below.refl _ _).alloc (Nat.le_refl _) _)), Lib.hid (grownBy_below HG.out ((Below.refl _ _).alloc (Nat.le_refl _) _))⟩, ?_⟩
            simp [intOf]; omega
          | false =>
            rw [hb] at m1
            have hsl := singles_take_lt (show j < f from hjf) hmf hb
            have HB := Lib.hid hb
            have e : countRow its ys (ms.take (j + 1)) = ((countRow its ys (ms.take j)).1.set (its.getD (countRow its ys (ms.take j)).2.1 (0, 0)).2.toNat (IntKind.i64.wrap ((countRow its ys (ms.take j)).1.getD (its.getD (countRow its ys (ms.take j)).2.1 (0, 0)).2.toNat 0 + 1)), (countRow its ys (ms.take j)).2.1 + 1, (countRow its ys (ms.take j)).2.2) := by
              rw [HNX.out]; unfold countStep; rw [if_neg (by rw [HB.out]; decide)]
            generalize (ms.getD j (0, false)).1 = x at *
            generalize countRow its ys (ms.take j) = r at *
            obtain ⟨zs, s, p⟩ := r
            simp only at hcs hcl hcp HK e ⊢
            have hsn : s < n := by omega
            have I := HI.out.keep HG.out.size (HG.out.block g HI.out.lt (fun e => by simp at e; omega))
            have hpl := HP.out (its.getD s (0, 0)) (by simp [List.getD, show s < its.length by rw [HI.out.len]; exact hsn])
            have q1 := I.c1 s hsn
            obtain ⟨pl, hpp⟩ : ∃ pl : Nat, (its.getD s (0, 0)).2 = pl := ⟨(its.getD s (0, 0)).2.toNat, by omega⟩
            rw [hpp] at q1 hpl e
            have hplL : pl < L := by omega
            rw [Int.toNat_natCast] at e
            have q2 := HK.out.cell pl (by rw [hcl, HL.out]; exact hplL)
            have hwb := IntKind.i64
            clear hb M hcs hcp hpk hsl hpp
            have HE := Lib.hid e
            clear e
            have hs63 : (s : Int) < 9223372036854775807 := by omega
            have hsn' : (s : Int) < n := by omega
            have hpl' : (pl : Int) < L := by omega
            have Ilt := I.lt
            have Klt := HK.out.lt
            clear I hpl hwb
            go_upto_region 10 with (fail)
            have ba : Below wr.heap.size wr (wr.alloc (.cells #[.int .i64 x, .bool false] 99)) := (Below.refl _ _).alloc (Nat.le_refl _) _
            replace HK := Lib.hid (HK.out.below ba); replace HG := Lib.hid (grownBy_below HG.out ba)
            replace q1 := (ba.cell (p := ⟨g, s * 2 + 1, Option.none⟩) Ilt).trans q1
            replace q2 := (ba.cell (p := ⟨gl, pl, Option.none⟩) Klt).trans q2
            replace Ilt := Nat.lt_of_lt_of_le Ilt ba.size; replace Klt := Nat.lt_of_lt_of_le Klt ba.size
            clear ba m0 m1
            generalize wr.alloc (.cells #[.int .i64 x, .bool false] 99) = W2 at *
            have d1 := fun z : GrownW W2 => z.cell Ilt q1
            have d2 := fun z : GrownW W2 => z.cell Klt q2
            generalize hzz : zs.getD pl 0 = zv at *
            have HZZ := Lib.hid hzz
            clear hzz
            have f2 := HK.out.frozen pl
            clear d1 d2
            go_wp2_with fail
            refine ⟨⟨j + 1, by omega, by rw [HE.out]; go_num, by rw [HE.out], by go_num, Lib.hid (by rw [HE.out, Go.IntWalk.i64_left]; exact HK.out.set pl _), Lib.hid (grownBy_then HG.out (grownBy_setCell W2 ⟨gl, pl, Option.none⟩ _))⟩, ?_⟩
            simp [intOf]; omega
        · obtain rfl : j = f := by omega
          have hjf' : ¬ (j : Int) < j := by omega
          have hcl := countRow_len its ys (ms.take j)
          have hcp := countRow_packs its ys (ms.take j)
          have hpk : packs (ms.take j) ≤ ms.length := Nat.le_trans (List.length_filter_le _ _) (by rw [List.length_take]; omega)
          have hp1 : (countRow its ys (ms.take j)).2.2 ≤ 600 := by omega
          have HCL := Lib.hid hcl
          clear hcl hcp hpk
          generalize countRow its ys (ms.take j) = r at *
          obtain ⟨zs, s, p⟩ := r
          simp only at hp1 HK HCL HT2 HOK2 ⊢
          have hp2 : (p : Int) ≤ 600 := by omega
          go_wp2_with fail
          refine ⟨⟨2 * p, i, zs, by omega, by omega, by go_num, rfl, HT2, HOK2, Lib.hid (HCL.out.trans HL.out), HK, HG⟩, ?_⟩
          simp [intOf]; try omega
end Go.Proofs.Ytmdkinhbfndoeaa
