/-
  huff.lists: the lists one after another (pure), and its contract.
-/
import Derived.Test.YtmdkinhbfndoeaaHuffMerge
namespace Go.Proofs.Ytmdkinhbfndoeaa
open Go.RowKit

def listP (its : List (Int × Int)) : Nat → List Mem
  | 0 => its.map single
  | k + 1 => mergeP its (listP its k)
theorem listP_len (its : List (Int × Int)) : ∀ k, its.length ≤ (listP its k).length ∧ (listP its k).length ≤ 2 * its.length
  | 0 => by simp [listP]; omega
  | k + 1 => by
    have := listP_len its k
    rw [listP, mergeP_len _ _ _ (Nat.le_refl _)]
    omega
theorem mergeP_mem (ms : List Mem) : ∀ (n : Nat) (its : List (Int × Int)), ms.length ≤ n → ∀ m ∈ mergeP its ms, (∃ x ∈ its, m = single x) ∨ (∃ a ∈ ms, ∃ b ∈ ms, m.1 = a.1 + b.1) := by
  intro n
  induction n generalizing ms with
  | zero =>
    intro its h m hm
    have e : ms = [] := List.eq_nil_of_length_eq_zero (by omega)
    subst e
    simp only [mergeP, List.mem_map] at hm
    obtain ⟨x, hx, rfl⟩ := hm
    exact .inl ⟨x, hx, rfl⟩
  | succ n ih =>
    intro its h m hm
    match ms with
    | [] =>
      simp only [mergeP, List.mem_map] at hm
      obtain ⟨x, hx, rfl⟩ := hm
      exact .inl ⟨x, hx, rfl⟩
    | [_] =>
      simp only [mergeP, List.mem_map] at hm
      obtain ⟨x, hx, rfl⟩ := hm
      exact .inl ⟨x, hx, rfl⟩
    | m1 :: m2 :: ms =>
      simp only [mergeP, List.mem_append, List.mem_map, List.mem_cons] at hm
      rcases hm with ⟨x, hx, rfl⟩ | rfl | hm
      · exact .inl ⟨x, (List.takeWhile_sublist _).mem hx, rfl⟩
      · exact .inr ⟨m1, by simp, m2, by simp, rfl⟩
      · rcases ih ms (its.dropWhile fun x => decide (x.1 ≤ m1.1 + m2.1)) (by simp at h; omega) m hm with ⟨x, hx, rfl⟩ | ⟨a, ha, b, hb, e⟩
        · exact .inl ⟨x, (List.dropWhile_sublist _).mem hx, rfl⟩
        · exact .inr ⟨a, by simp [ha], b, by simp [hb], e⟩
theorem listP_bd (its : List (Int × Int)) (B : Int) (hB : 0 ≤ B) (hb : ∀ x ∈ its, 0 ≤ x.1 ∧ x.1 ≤ B) : ∀ k, ∀ m ∈ listP its k, 0 ≤ m.1 ∧ m.1 ≤ B * 2 ^ k
  | 0 => by
    intro m hm
    simp only [listP, List.mem_map] at hm
    obtain ⟨x, hx, rfl⟩ := hm
    have := hb x hx
    simpa [single] using this
  | k + 1 => by
    intro m hm
    have h1 : (1 : Int) ≤ 2 ^ k := Int.add_one_le_of_lt (Int.pow_pos (by decide))
    have h2 : B ≤ B * 2 ^ k := by
      have := Int.mul_le_mul_of_nonneg_left h1 hB
      simpa using this
    rw [listP] at hm
    rw [Int.pow_succ, ← Int.mul_assoc]
    rcases mergeP_mem _ _ _ (Nat.le_refl _) m hm with ⟨x, hx, rfl⟩ | ⟨a, ha, b, hb', e⟩
    · have := hb x hx
      simp only [single]
      omega
    · have := listP_bd its B hB hb k a ha
      have := listP_bd its B hB hb k b hb'
      omega
theorem getD_bd {ms : List Mem} {B : Int} (hB : 0 ≤ B) (h : ∀ m ∈ ms, 0 ≤ m.1 ∧ m.1 ≤ B) (j : Nat) : 0 ≤ (ms.getD j (0, false)).1 ∧ (ms.getD j (0, false)).1 ≤ B := by
  by_cases hj : j < ms.length
  · have : ms.getD j (0, false) ∈ ms := by simp [List.getD, hj]
    exact h _ this
  · simp [List.getD, List.getElem?_eq_none (show ms.length ≤ j by omega)]
    exact hB

/-- A list's value in a list of lists. -/
def SlM (w : World) (B : Nat) (v : Value) (ms : List Mem) : Prop := ∃ g cap, v = .slice (some ⟨g, 0, Option.none⟩) ms.length cap ∧ MemsAt w g ms.length ms ∧ ms.length ≤ cap ∧ cap ≤ maxLen ∧ B ≤ g
theorem SlM.below {w w' : World} {B : Nat} {v : Value} {ms : List Mem} (h : SlM w B v ms) (hb : Below w.heap.size w w') : SlM w' B v ms := by
  obtain ⟨g, cap, e, m, r⟩ := h
  exact ⟨g, cap, e, m.below hb, r⟩
theorem MemsAt.keep {w w' : World} {g n : Nat} {ms : List Mem} (h : MemsAt w g n ms) (hs : w.heap.size ≤ w'.heap.size) (hb : w'.heap[g]? = w.heap[g]?) : MemsAt w' g n ms := by
  refine ⟨h.len, Nat.lt_of_lt_of_le h.lt hs, fun j hj => ?_, fun j hj => ?_⟩
  · rw [← h.c0 j hj]; unfold World.cell?; rw [hb]
  · rw [← h.c1 j hj]; unfold World.cell?; rw [hb]
/-- The same, its block not r. -/
def SlN (w : World) (B : Nat) (o : Option Nat) (v : Value) (ms : List Mem) : Prop := ∃ g cap, v = .slice (some ⟨g, 0, Option.none⟩) ms.length cap ∧ MemsAt w g ms.length ms ∧ ms.length ≤ cap ∧ cap ≤ maxLen ∧ B ≤ g ∧ o ≠ some g
theorem SlN.slm {w : World} {B : Nat} {o : Option Nat} {v : Value} {ms : List Mem} (h : SlN w B o v ms) : SlM w B v ms := by
  obtain ⟨g, cap, e, m, h1, h2, h3, _⟩ := h
  exact ⟨g, cap, e, m, h1, h2, h3⟩
theorem SlN.grown {w w' : World} {B : Nat} {o o' : Option Nat} {v : Value} {ms : List Mem} (h : SlN w B o v ms) (hg : w.grownBy w' o) (ho : ∀ r, o' = some r → o = some r ∨ w.heap.size ≤ r) : SlN w' B o' v ms := by
  obtain ⟨g, cap, e, m, h1, h2, h3, h4⟩ := h
  refine ⟨g, cap, e, m.keep hg.size (hg.block g m.lt h4.symm), h1, h2, h3, fun hr => ?_⟩
  rcases ho g hr with h5 | h5
  · exact h4 h5
  · have := m.lt; omega
theorem SlN.below {w w' : World} {B : Nat} {o : Option Nat} {v : Value} {ms : List Mem} (h : SlN w B o v ms) (hb : Below w.heap.size w w') : SlN w' B o v ms := by
  obtain ⟨g, cap, e, m, r⟩ := h
  exact ⟨g, cap, e, m.below hb, r⟩
theorem cells_alloc1 (w : World) (x : Value) (t : TypeId) (fr : Nat × Nat) : ∀ j u, [x][j]? = some u → (w.alloc (.cells #[x] t fr)).cell? ((⟨w.heap.size, 0, Option.none⟩ : Addr).add j) = some u := by
  intro j u hu
  have hh : (w.alloc (.cells #[x] t fr)).heap[w.heap.size]? = some (.cells #[x] t fr) := by
    show (w.heap.push _)[w.heap.size]? = _
    simp
  rw [Addr.add_lit]
  unfold World.cell?
  rw [hh]
  simpa using hu
theorem mems_addr {w : World} {base T : Nat} {a : Option Addr} {n cap : Nat} {ms : List Mem} (h : w.ownsRow base T 2 (.slice a n cap) n (flatM ms)) (hl : ms.length = n) (hn : 0 < n) : ∃ g, a = some ⟨g, 0, Option.none⟩ ∧ base ≤ g ∧ MemsAt w g n ms ∧ n ≤ cap ∧ cap ≤ maxLen := by
  rcases id h.2 with ⟨e1, h0⟩ | ⟨g, c', cur, e1, hb, hh, hc, hm, _⟩
  · omega
  · obtain ⟨rfl, rfl⟩ : a = some ⟨g, 0, Option.none⟩ ∧ cap = c' := by simpa using e1
    exact ⟨g, rfl, hb, mems_of_owns h hl, hc, hm⟩
theorem sizeMem1 : (Try.prog.info? 97).map (fun i => (i.zero, i.size, i.bytes)) = some (some (.slice Option.none 0 0), 1, 24) := by kernel_rfl

set_option maxRecDepth 100000 in
set_option maxHeartbeats 2000000 in
theorem lists_any (g n ca : Nat) (its : List (Int × Int)) (most : Nat) (w : World) (hI : ItemsAt w g n its) (hn : n ≤ 300) (hn1 : 1 ≤ n) (hca : n ≤ ca ∧ ca ≤ maxLen) (hm : 1 ≤ most ∧ most ≤ 15) (hw : ∀ x ∈ its, 0 ≤ x.1 ∧ x.1 ≤ 1073741824) :
    Calls Try.prog 33 #[.slice (some ⟨g, 0, Option.none⟩) n ca, .int .i64 most] w fun e w' =>
      ∃ a c vs, e = .returned (.slice a most c) ∧ w'.ownsRow w.heap.size 97 1 (.slice a most c) most vs ∧ (∀ k, k < most → ∃ v, vs[k]? = some v ∧ SlM w' w.heap.size v (listP its k)) ∧ Below w.heap.size w w' := by
  obtain ⟨i0, hi, hz0, hz1, hz2⟩ := info_parts infoMem
  have Hi := Lib.hid hi; have Hz0 := Lib.hid hz0; have Hz1 := Lib.hid hz1; have Hz2 := Lib.hid hz2
  obtain ⟨i1, ki, kz0, kz1, kz2⟩ := info_parts sizeMem1
  have Ki := Lib.hid ki; have Kz0 := Lib.hid kz0; have Kz1 := Lib.hid kz1; have Kz2 := Lib.hid kz2
  have HI := Lib.hid hI; have HW := Lib.hid hw
  clear hi hz0 hz1 hz2 hI hw ki kz0 kz1 kz2
  go_enter Try.func33, Try.ntmps33
  go_wp2_with (at_make; go_loud (refine wpList_make_full _ rfl _ _ 97 rfl w.heap.size 99 i0 _ 2 Try.underlying97 Hi.out Hz0.out Hz1.out _ _ _ _ n rfl rfl (by first | rfl | omega) (by first | rfl | omega) (by rw [Hz2.out]; omega) (by unfold maxLen; omega) (Nat.le_refl _) ?_))
  intro w1 o1 g1
  have b1 : Below w.heap.size w w1 := (Below.refl _ _).grown g1 (Nat.le_refl _) (fun k h => nomatch h)
  have O1 := Lib.hid o1; have B1 := Lib.hid b1
  clear o1 g1 b1
  generalize hgw : w.heap.size = gw at *
  have HG := Lib.hid hgw
  clear hgw
  go_wp2_with fail
  go_loopw [14] (fun vi wr => ∃ (i : Nat) (Z : List Value), i ≤ n ∧ vi = .int .i64 i ∧ wr.ownsRow gw 99 2 (.slice (some ⟨gw, 0, Option.none⟩) n n) n Z ∧ Hid (∀ j, j < i → Z[j * 2]? = some (.int .i64 (its.getD j (0, 0)).1) ∧ Z[j * 2 + 1]? = some (.bool false)) ∧ Below gw w wr) (fun vi _ => n - (intOf vi).toNat)
  case atStart => exact ⟨0, _, Nat.zero_le _, rfl, O1.out, Lib.hid (fun j hj => absurd hj (by omega)), B1.out⟩
  case round =>
    obtain ⟨i, Z, hi, rfl, own, HZ, bel⟩ := hrel
    clear O1 B1
    have HO := Lib.hid own; have HB := Lib.hid bel
    clear own bel
    by_cases hlt : i < n
    · have I := HI.out.below (by rw [HG.out]; exact HB.out)
      have m0 := I.c0 i hlt
      have m1 := I.c1 i hlt
      have HZ1 := Lib.hid (show (its.getD i (0, 0)).1 = (its.getD i (0, 0)).1 from rfl)
      have hlt' : (i : Int) < n := by omega
      clear I
      generalize hz1 : (its.getD i (0, 0)).1 = z1 at *
      generalize (its.getD i (0, 0)).2 = z2 at *
      have HZ2 := Lib.hid hz1
      clear hz1 HZ1
      go_upto_region 5 with (fail)
      have HO2 := Lib.hid (World.ownsRow.alloc HO.out (.cells #[.int .i64 z1, .int .i64 z2] 68))
      have HB2 := Lib.hid (HB.out.alloc (by have := HB.out.size; rw [HG.out] at this; exact this) (.cells #[.int .i64 z1, .int .i64 z2] 68))
      have hc0 : (wr.alloc (.cells #[.int .i64 z1, .int .i64 z2] 68)).cell? ⟨wr.heap.size, 0, Option.none⟩ = some (.int .i64 z1) := by
        have := cells_alloc2 wr (.int .i64 z1) (.int .i64 z2) 68 (0, 0) 0 _ rfl
        rwa [Addr.add_lit, Nat.zero_add] at this
      have hZl : Z.length = n * 2 := HO.out.1
      obtain ⟨v0, hv0⟩ : ∃ v, Z[i * 2]? = some v := ⟨_, List.getElem?_eq_getElem (by omega)⟩
      obtain ⟨v1, hv1⟩ : ∃ v, Z[i * 2 + 1]? = some v := ⟨_, List.getElem?_eq_getElem (by omega)⟩
      have q0 := HO2.out.cells (g := gw) rfl _ _ hv0
      have q1 := HO2.out.cells (g := gw) rfl _ _ hv1
      rw [Addr.add_lit, Nat.zero_add] at q0 q1
      have f0 := HO2.out.frozenAt (i * 2)
      have f1 := HO2.out.frozenAt (i * 2 + 1)
      have HV0 := Lib.hid hv0; have HV1 := Lib.hid hv1; have HZL := Lib.hid hZl
      clear hv0 hv1 hZl
      generalize wr.alloc (.cells #[.int .i64 z1, .int .i64 z2] 68) = W2 at *
      generalize wr.heap.size = gx at *
      clear HO HB m0 m1
      go_wp2_with fail
      refine ⟨⟨i + 1, (Z.set (i * 2) (.int .i64 z1)).set (i * 2 + 1) (.bool false), by omega, by go_num, ((HO2.out.stored (i * 2) _).1.stored (i * 2 + 1) _).1, Lib.hid ?_, (HB2.out.setCell (p := ⟨gw, i * 2, Option.none⟩) (Nat.le_refl _) _).setCell (p := ⟨gw, i * 2 + 1, Option.none⟩) (Nat.le_refl _) _⟩, ?_⟩
      · intro j hj
        have hZl := HZL.out
        by_cases e : j = i
        · subst e
          rw [HZ2.out, List.getElem?_set_ne (by omega), List.getElem?_set_self (by omega), List.getElem?_set_self (by rw [List.length_set]; omega)]
          exact ⟨rfl, rfl⟩
        · rw [List.getElem?_set_ne (by omega), List.getElem?_set_ne (by omega), List.getElem?_set_ne (by omega), List.getElem?_set_ne (by omega)]
          exact HZ.out j (by omega)
      · simp [intOf]; omega
    · obtain rfl : i = n := by omega
      have hlt' : ¬ (i : Int) < i := by omega
      have MF : MemsAt wr gw i (its.map single) := by
        refine ⟨by rw [List.length_map, HI.out.len], (HO.out.lt gw rfl).2, fun j hj => ?_, fun j hj => ?_⟩
        · have := HO.out.cells (g := gw) rfl _ _ (HZ.out j hj).1
          rw [Addr.add_lit, Nat.zero_add] at this
          rw [this]
          simp [List.getD, show j < its.length by rw [HI.out.len]; exact hj, single]
        · have := HO.out.cells (g := gw) rfl _ _ (HZ.out j hj).2
          rw [Addr.add_lit, Nat.zero_add] at this
          rw [this]
          simp [List.getD, show j < its.length by rw [HI.out.len]; exact hj, single]
      have HM := Lib.hid MF
      have HK := Lib.hid (HO.out.lt gw rfl).2
      clear HO HZ MF
      have hL0 := World.ownsRow_lit (base := gw) (e := 97) (size := 1) wr #[Value.slice (some ⟨gw, 0, Option.none⟩) i i] 1 (Nat.le_of_lt HK.out) (by unfold maxLen; omega) (by simp)
      have hB0 := HB.out.alloc (Nat.le_of_lt HK.out) (.cells #[Value.slice (some ⟨gw, 0, Option.none⟩) i i] 97)
      have hN0 : SlN (wr.alloc (.cells #[Value.slice (some ⟨gw, 0, Option.none⟩) i i] 97)) gw (some wr.heap.size) (.slice (some ⟨gw, 0, Option.none⟩) i i) (listP its 0) := by
        have hl : (listP its 0).length = i := by rw [listP, List.length_map, HI.out.len]
        refine ⟨gw, i, by rw [hl], ?_, by omega, by omega, Nat.le_refl _, fun e => ?_⟩
        · rw [hl]
          exact HM.out.below ((Below.refl _ _).alloc (Nat.le_refl _) _)
        · have := HK.out
          simp at e; omega
      have hM1 : most = (most - 1) + 1 := by omega
      generalize most - 1 = mo at *
      subst hM1
      have HL0 := Lib.hid hL0; have HB0 := Lib.hid hB0; have HN0 := Lib.hid hN0
      clear hL0 hB0 hN0 HM HK HB
      go_wp2_with fail
      generalize wr.alloc (.cells #[Value.slice (some ⟨gw, 0, Option.none⟩) i i] 97) = W3 at *
      go_loopw [8] (fun va wz => ∃ (k : Nat) (a : Option Addr) (c : Nat) (vs : List Value), k ≤ mo ∧ va = .slice a (k + 1) c ∧ wz.ownsRow gw 97 1 (.slice a (k + 1) c) (k + 1) vs ∧ Hid (∀ j, j ≤ k → ∃ v, vs[j]? = some v ∧ SlN wz gw (Value.slice a (k + 1) c).ownBlock v (listP its j)) ∧ Below gw w wz) (fun va _ => mo + 1 - (match va with | .slice _ m _ => m | _ => 0))
      case atStart =>
        refine ⟨0, _, _, _, Nat.zero_le _, rfl, HL0.out, Lib.hid (fun j hj => ?_), HB0.out⟩
        obtain rfl : j = 0 := by omega
        exact ⟨_, rfl, HN0.out⟩
      case round =>
        obtain ⟨k, a, c, vs, hk, rfl, own, HV, bel⟩ := hrel
        clear HL0 HB0 HN0
        have HO := Lib.hid own; have HB := Lib.hid bel
        clear own bel
        by_cases hlt : k < mo
        · obtain ⟨ga, rfl, hga⟩ := owns_addr HO.out (by omega)
          obtain ⟨v, hv, hs⟩ := HV.out k (Nat.le_refl _)
          have q0 := HO.out.cells (g := ga) rfl _ _ hv
          rw [Addr.add_lit, Nat.zero_add] at q0
          obtain ⟨gl, cl, rfl, ml, hl1, hl2, hl3, hl4⟩ := hs
          have hlen := listP_len its k
          rw [HI.out.len] at hlen
          have hbd := getD_bd (ms := listP its k) (B := 1073741824 * 2 ^ k) (by have : (0 : Int) < 2 ^ k := Int.pow_pos (by decide); omega) (listP_bd its 1073741824 (by decide) HW.out k)
          have h15 : (2 : Int) ^ k ≤ 2 ^ 14 := by
            have : (2 : Nat) ^ k ≤ 2 ^ 14 := Nat.pow_le_pow_right (by decide) (by omega)
            exact_mod_cast this
          have hbd2 : ∀ j, 0 ≤ ((listP its k).getD j (0, false)).1 ∧ ((listP its k).getD j (0, false)).1 ≤ 1000000000000000000 := fun j => ⟨(hbd j).1, by have := (hbd j).2; omega⟩
          have HMG := Lib.hid (merge_any g i ca its gl (listP its k).length cl (listP its k) wr (HI.out.below (by rw [HG.out]; exact HB.out)) ml hn (by omega) ⟨hl1, hl2⟩ hca hbd2)
          have HNX := Lib.hid (show mergeP its (listP its k) = listP its (k + 1) from rfl)
          rw [HNX.out] at HMG
          have hlt' : (k : Int) + 1 < (mo : Int) + 1 := by omega
          have HML := Lib.hid (listP_len its (k + 1))
          clear hbd hbd2 h15 ml hv
          go_wp2_with fail
          refine HMG.out.mono ?_; rintro e w4 ⟨a4, c4, rfl, o4, b4⟩
          have hml := HML.out
          rw [HI.out.len] at hml
          obtain ⟨g4, rfl, hg4, m4, hc4, hc5⟩ := mems_addr o4 rfl (by omega)
          have HO4 := Lib.hid (owns_below HO.out b4)
          have hgw4 : gw ≤ wr.heap.size := by have := HB.out.size; rw [HG.out] at this; exact this
          have HB4 := Lib.hid (HB.out.trans (b4.mono hgw4))
          have HV4 : Hid (∀ j, j ≤ k → ∃ v, vs[j]? = some v ∧ SlN w4 gw (some ga) v (listP its j)) := Lib.hid (fun j hj => (HV.out j hj).imp fun v h => And.intro h.1 (h.2.below b4))
          have HS4 := Lib.hid b4.size
          have HM4 := Lib.hid m4
          have hgaw := (HO.out.lt ga rfl).2
          clear o4 b4 m4 q0 HMG HO HB HV
          generalize hl4 : (listP its (k + 1)).length = l4 at *
          have HL4 := Lib.hid hl4
          clear hl4
          go_wp2_with (at_builtin; go_loud (refine wpList_append_any _ rfl _ _ 73 rfl gw 97 i1 _ 1 24 Try.underlying73 Ki.out Kz0.out Kz1.out Kz2.out rfl (by decide) (some ⟨ga, 0, Option.none⟩) (k + 1) c vs rfl (World.ownsRow.alloc HO4.out _) _ 1 1 _ rfl rfl (cells_alloc1 _ _ _ _) (by simp [Value.oneCell']) (by decide) (by unfold maxLen; omega) (by omega) (by have := HS4.out; simp; omega) ?_); intro a5 c5 w5 r5 g5 f5)
          have hs4 := HS4.out
          have hvl : vs.length = k + 1 := by have := HO4.out.1; omega
          have hba : Below w4.heap.size w4 (w4.alloc (.cells #[Value.slice (some ⟨g4, 0, Option.none⟩) l4 c4] 97)) := (Below.refl _ _).alloc (Nat.le_refl _) _
          have hbz : Below gw w w5 := (HB4.out.alloc (by omega) _).grown g5 (by simp; omega) (fun r hr => (HO4.out.lt r hr).1)
          refine ⟨⟨k + 1, a5, c5, vs ++ [Value.slice (some ⟨g4, 0, Option.none⟩) l4 c4], by omega, rfl, r5, Lib.hid ?_, hbz⟩, ?_⟩
          · intro j hj
            by_cases hjk : j ≤ k
            · obtain ⟨v, hv, hs⟩ := HV4.out j hjk
              exact ⟨v, by rw [List.getElem?_append_left (by omega)]; exact hv, (hs.below hba).grown g5 f5⟩
            · obtain rfl : j = k + 1 := by omega
              refine ⟨_, by rw [List.getElem?_append_right (by omega), hvl, Nat.sub_self]; rfl, ?_⟩
              have hN : SlN w4 gw (some ga) (Value.slice (some ⟨g4, 0, Option.none⟩) l4 c4) (listP its (k + 1)) := by
                refine ⟨g4, c4, by rw [HL4.out], by rw [HL4.out]; exact HM4.out, by rw [HL4.out]; exact hc4, hc5, by omega, fun e => ?_⟩
                simp at e; omega
              exact (hN.below hba).grown g5 f5
          · show mo + 1 - (k + 1 + 1) < mo + 1 - (k + 1)
            omega
        · obtain rfl : k = mo := by omega
          have hlt' : ¬ (k : Int) + 1 < (k : Int) + 1 := by omega
          go_wp2_with fail
          go_ret
          rw [HG.out]
          exact ⟨a, c, rfl, vs, HO.out, fun j hj => (HV.out j (by omega)).imp fun v h => And.intro h.1 h.2.slm, HB.out⟩
end Go.Proofs.Ytmdkinhbfndoeaa
