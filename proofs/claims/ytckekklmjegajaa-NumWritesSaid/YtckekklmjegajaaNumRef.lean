/-
  Contracts of the statements' own aquref1.Big, aquref1.Little, aquref1.ReadBig, aquref1.ReadLittle.
-/
import Derived.Test.YtckekklmjegajaaNum
import Derived.BigRegion
namespace Go.Proofs.Ytckekklmjegajaa
open Go.RowKit

theorem rreadBig_no (a : Option Addr) (n cap : Nat) (p m : Int) (w : World) (_hn : n ≤ 9223372036854775807) (h0 : -9223372036854775808 ≤ p ∧ p ≤ 9223372036854775807) (h1 : -9223372036854775808 ≤ m ∧ m ≤ 9223372036854775807) (h : rdErr n p m ≠ 0) :
    Calls Try.prog 15 #[.slice a n cap, .int .i64 p, .int .i64 m] w fun e w' => e = .returned (.tuple #[.int .i64 0, .int .i64 (rdErr n p m)]) ∧ w' = w := by
  unfold rdErr at h ⊢
  by_cases c1 : m < 1
  · rw [if_pos (.inl c1)]
    go_enter Try.func15, Try.ntmps15
    go_wp2
    go_ret2
    exact ⟨rfl, rfl⟩
  · by_cases c2 : 6 < m
    · rw [if_pos (.inr (.inl c2))]
      go_enter Try.func15, Try.ntmps15
      go_wp2
      go_ret2
      exact ⟨rfl, rfl⟩
    · by_cases c3 : p < 0
      · rw [if_pos (.inr (.inr (.inl c3)))]
        go_enter Try.func15, Try.ntmps15
        go_wp2
        go_ret2
        exact ⟨rfl, rfl⟩
      · by_cases c4 : (n : Int) < p
        · rw [if_pos (.inr (.inr (.inr c4)))]
          go_enter Try.func15, Try.ntmps15
          go_wp2
          go_ret2
          exact ⟨rfl, rfl⟩
        · rw [if_neg (by omega)] at h ⊢
          by_cases c5 : (n : Int) - p < m
          · rw [if_pos c5]
            go_enter Try.func15, Try.ntmps15
            go_wp2
            go_ret2
            exact ⟨rfl, rfl⟩
          · rw [if_neg c5] at h
            exact absurd rfl h

set_option maxHeartbeats 400000 in
theorem rreadBig_yes (a : Option Addr) (n cap : Nat) (xs : List Int) (p m : Nat) (w : World) (hr : Reads .u8 w a n cap xs) (hb : isB xs) (h : rdErr n p m = 0) :
    Calls Try.prog 15 #[.slice a n cap, .int .i64 p, .int .i64 m] w fun e w' => e = .returned (.tuple #[.int .i64 (rbig ((xs.drop p).take m)), .int .i64 0]) ∧ w' = w := by
  have hf := rdErr_zero h
  have hl := hr.n63
  have hxl := hr.len
  obtain ⟨b, off, rfl, hlt, hc⟩ := hr.cells (by omega)
  have Hl : Hid (xs.length = n) := hxl
  have Hc := Lib.hid hc
  clear hxl hr hc hlt
  have hf1 := hf.1; have hf2 := hf.2.1; have hf4 := hf.2.2.2
  have hl1 := hl.1; have hl2 := hl.2
  clear hf hl
  go_enter Try.func15, Try.ntmps15
  have Hh := Lib.hid h
  clear h
  go_wp2
  go_loop [8, 9] (fun v i => ∃ k : Nat, k ≤ m ∧ i = .int .i64 k ∧ v = .int .i64 (rbig ((xs.drop p).take k))) (fun _ i => m - (intOf i).toNat)
  case atStart => exact ⟨0, Nat.zero_le _, rfl, rfl⟩
  case round =>
    obtain ⟨k, hk, rfl, rfl⟩ := hrel
    by_cases hlt : k < m
    · have hcell := Hc.out (p + k) (by omega)
      have hx := hb.get (p + k) (by have := Hl.out; omega)
      have HS : Hid (rbig ((xs.drop p).take (k + 1)) = rbig ((xs.drop p).take k) * 256 + xs.getD (p + k) 0) := by
        rw [sub_take _ _ _ (by have := Hl.out; omega), rbig_snoc]; rfl
      have hv := rbig_bd ((xs.drop p).take k) ((hb.drop p).take k)
      have hlen : ((xs.drop p).take k).length = k := by have := Hl.out; simp; omega
      rw [hlen] at hv
      have h48 := pow256_le k (by omega)
      have hv5 : rbig ((xs.drop p).take k) < 281474976710656 := by omega
      have hv0 := hv.1
      clear hv hlen h48
      generalize rbig ((xs.drop p).take k) = v at *
      generalize xs.getD (p + k) 0 = x at *
      have hor : bits BinOp.or IntKind.i64 (v * 256) x = v * 256 + x := or_join_i64 8 _ _ (by omega) (by omega) (by omega) (by omega) (by omega) (by omega)
      clear hb
      go_wp2
      go_round
      case rel => exact ⟨k + 1, by omega, by go_num, by rw [HS.out]⟩
      case measure => simp [intOf]; omega
    · obtain rfl : k = m := by omega
      go_wp2
      go_ret2
      exact ⟨rfl, rfl⟩
theorem rreadLittle_no (a : Option Addr) (n cap : Nat) (p m : Int) (w : World) (hn : n ≤ 9223372036854775807) (h0 : -9223372036854775808 ≤ p ∧ p ≤ 9223372036854775807) (h1 : -9223372036854775808 ≤ m ∧ m ≤ 9223372036854775807) (h : rdErr n p m ≠ 0) :
    Calls Try.prog 17 #[.slice a n cap, .int .i64 p, .int .i64 m] w fun e w' => e = .returned (.tuple #[.int .i64 0, .int .i64 (rdErr n p m)]) ∧ w' = w := by
  have hb : (rdErr n p m != 0) = true := by simpa using h
  go_enter Try.func17, Try.ntmps17
  go_wp2_with fail
  refine (rreadBig_no a n cap p m w hn h0 h1 h).mono ?_; rintro e w1 ⟨rfl, rfl⟩
  go_wp2
  go_ret2
  exact ⟨rfl, rfl⟩

set_option maxHeartbeats 400000 in
theorem rreadLittle_yes (a : Option Addr) (n cap : Nat) (xs : List Int) (p m : Nat) (w : World) (hr : Reads .u8 w a n cap xs) (hb : isB xs) (h : rdErr n p m = 0) :
    Calls Try.prog 17 #[.slice a n cap, .int .i64 p, .int .i64 m] w fun e w' => e = .returned (.tuple #[.int .i64 (rlit ((xs.drop p).take m)), .int .i64 0]) ∧ w' = w := by
  have hf := rdErr_zero h
  have hcall := rreadBig_yes a n cap xs p m w hr hb h
  have HC := Lib.hid hcall; clear hcall
  have hl := hr.n63
  have hxl := hr.len
  obtain ⟨b, off, rfl, hlt, hc⟩ := hr.cells (by omega)
  have Hl : Hid (xs.length = n) := hxl
  have Hc := Lib.hid hc
  clear hxl hr hc hlt
  have hf1 := hf.1; have hf2 := hf.2.1; have hf4 := hf.2.2.2
  have hl1 := hl.1; have hl2 := hl.2
  clear hf hl
  go_enter Try.func17, Try.ntmps17
  have Hh := Lib.hid h
  clear h
  go_wp2_with fail
  refine HC.out.mono ?_; rintro e w1 ⟨rfl, rfl⟩
  go_wp2
  go_loop [10, 11] (fun v i => ∃ k : Nat, k ≤ m ∧ i = .int .i64 k ∧ v = .int .i64 (rlit ((xs.drop p).take k))) (fun _ i => m - (intOf i).toNat)
  case atStart => exact ⟨0, Nat.zero_le _, rfl, rfl⟩
  case round =>
    obtain ⟨k, hk, rfl, rfl⟩ := hrel
    by_cases hlt : k < m
    · have hcell := Hc.out (p + k) (by omega)
      have hx := hb.get (p + k) (by have := Hl.out; omega)
      have hlen : ((xs.drop p).take k).length = k := by have := Hl.out; simp; omega
      have HS : Hid (rlit ((xs.drop p).take (k + 1)) = rlit ((xs.drop p).take k) + xs.getD (p + k) 0 * 2 ^ (8 * k)) := by
        rw [sub_take _ _ _ (by have := Hl.out; omega), rlit_snoc, hlen, pow256_two, Int.mul_comm]; rfl
      have hv := rlit_bd ((xs.drop p).take k) ((hb.drop p).take k)
      rw [hlen] at hv
      have hv0 := hv.1
      have hv1 := hv.2
      rw [pow256_two] at hv1
      have h40 := pow256_le (k + 1) (by omega)
      rw [Int.pow_succ, pow256_two] at h40
      clear hv hlen
      generalize rlit ((xs.drop p).take k) = v at *
      generalize xs.getD (p + k) 0 = x at *
      have hp0 : (0 : Int) < 2 ^ (8 * k) := Int.pow_pos (by decide)
      have hxp : x * 2 ^ (8 * k) ≤ 281474976710655 := by
        have : x * 2 ^ (8 * k) ≤ 255 * 2 ^ (8 * k) := Int.mul_le_mul_of_nonneg_right (by omega) (by omega)
        omega
      have hxp0 : 0 ≤ x * 2 ^ (8 * k) := Int.mul_nonneg (by omega) (by omega)
      have hor : bits BinOp.or IntKind.i64 v (x * 2 ^ (8 * k)) = v + x * 2 ^ (8 * k) := by
        rw [bits_or_comm, or_join_i64 (8 * k) _ _ hxp0 (Int.mul_emod_left _ _) (by omega) (by omega) hv1 (by omega), Int.add_comm]
      clear hb
      go_wp2
      go_round
      case rel =>
        exact ⟨k + 1, by omega, by go_num, by rw [HS.out]⟩
      case measure => simp [intOf]; omega
    · obtain rfl : k = m := by omega
      go_wp2
      go_ret2
      exact ⟨rfl, rfl⟩


theorem rbig_no (n m : Int) (w : World) (h0 : -9223372036854775808 ≤ n ∧ n ≤ 9223372036854775807) (h : fit n m = false) :
    Calls Try.prog 11 #[.int .i64 n, .int .i64 m] w fun e w' => e = .returned (.tuple #[.slice Option.none 0 0, .int .i64 1]) ∧ w' = w := by
  have hf : ¬ (1 ≤ m ∧ m ≤ 6 ∧ 0 ≤ n ∧ n / 2 ^ (8 * m).toNat = 0) := of_decide_eq_false h
  by_cases c1 : m < 1
  · clear h hf
    go_enter Try.func11, Try.ntmps11
    go_wp2
    go_ret2
    exact ⟨rfl, rfl⟩
  · by_cases c2 : 6 < m
    · clear h hf
      go_enter Try.func11, Try.ntmps11
      go_wp2
      go_ret2
      exact ⟨rfl, rfl⟩
    · by_cases c3 : n < 0
      · clear h hf
        go_enter Try.func11, Try.ntmps11
        go_wp2
        go_ret2
        exact ⟨rfl, rfl⟩
      · have c4 : 0 < n / 2 ^ (8 * m).toNat := by
          have hp : (0 : Int) < 2 ^ (8 * m).toNat := Int.pow_pos (by decide)
          have := Int.ediv_nonneg (show 0 ≤ n by omega) (Int.le_of_lt hp)
          rcases Int.lt_or_eq_of_le this with h | h
          · exact h
          · exact absurd ⟨by omega, by omega, by omega, h.symm⟩ hf
        clear h hf
        go_enter Try.func11, Try.ntmps11
        go_wp2
        go_ret2
        exact ⟨rfl, rfl⟩

theorem big_take (n : Int) (m k : Nat) (h : k < m) : (big n m).take (k + 1) = (big n m).take k ++ [n / 2 ^ (8 * (m - 1 - k)) % 256] := by
  rw [take_getD _ _ (by rw [big_len]; exact h), big_getD _ _ _ h]

set_option maxHeartbeats 400000 in
theorem rbig_yes (n : Int) (m : Nat) (w : World) (h0 : -9223372036854775808 ≤ n ∧ n ≤ 9223372036854775807) (h : fit n m = true) :
    Calls Try.prog 11 #[.int .i64 n, .int .i64 m] w (RetB w (big n m) 0) := by
  have hf : 1 ≤ (m : Int) ∧ (m : Int) ≤ 6 ∧ 0 ≤ n ∧ n / 2 ^ (8 * (m : Int)).toNat = 0 := of_decide_eq_true h
  have hm1 := hf.1
  have hm2 := hf.2.1
  have hn := hf.2.2.1
  have hz : ¬ 0 < n / 2 ^ (8 * m) := by have := hf.2.2.2; rw [show (8 * (m : Int)).toNat = 8 * m by omega] at this; omega
  clear hf h
  have hn1 := h0.1
  have hn2 := h0.2
  obtain ⟨i0, hi, hz0, hz1, hz2⟩ := info_parts infoB
  have Hi := Lib.hid hi; have Hz0 := Lib.hid hz0; have Hz1 := Lib.hid hz1; have Hz2 := Lib.hid hz2
  clear hi hz0 hz1 hz2 h0
  go_enter Try.func11, Try.ntmps11
  have hown := World.ownsRow_nil w w.heap.size 5 1
  have hb0 := Below.refl w.heap.size w
  generalize hg : w.heap.size = g at hown hb0
  have HG := Lib.hid hg; clear hg
  go_wp2
  go_loopw [6, 7] (fun v i wr => ∃ (k : Nat) (a' : Option Addr) (c' : Nat), k ≤ m ∧ i = .int .i64 ((m : Int) - 1 - k) ∧ v = .slice a' k c' ∧ Hid (0 < k → a' ≠ Option.none) ∧ wr.ownsRow g 5 1 (.slice a' k c') k (((big n m).take k).map (Value.int .u8)) ∧ Below g w wr) (fun _ i _ => (intOf i + 1).toNat)
  case atStart => exact ⟨0, Option.none, 0, Nat.zero_le _, by simp, rfl, fun h => absurd h (by decide), hown, hb0⟩
  case round =>
    obtain ⟨k, a', c', hk, rfl, rfl, Hne, ho, hbel⟩ := hrel
    clear hown hb0
    have hgs : g ≤ wr.heap.size := by have := hbel.size; have := HG.out; omega
    by_cases hlt : k < m
    · have e1 : ((m : Int) - 1 - k) = ((m - 1 - k : Nat) : Int) := by omega
      rw [e1]
      clear e1
      have HX : Hid ((big n m).take (k + 1) = (big n m).take k ++ [n / 2 ^ (8 * (m - 1 - k)) % 256]) := big_take n m k hlt
      have hj : m - 1 - k < 6 := by omega
      have Hj : Hid (m - 1 - k + 1 + k = m) := by unfold Hid; omega
      generalize m - 1 - k = j at *
      go_wp2_with (at_builtin; refine wpList_append_reads _ rfl _ _ 22 rfl g 5 i0 (.int .u8 0) 1 Try.underlying22 Hi.out Hz0.out Hz1.out Hz2.out rfl .u8 a' k c' _ rfl (World.ownsRow.alloc ho _) _ 1 1 [n / 2 ^ (8 * j) % 256] rfl (by exact reads_alloc _ [n / 2 ^ (8 * j) % 256] _ _ _ rfl (by unfold maxLen; simp) _ rfl) (by unfold maxLen; omega) (by omega) (by simp; omega) ?_)
      intro a2 c2 w3 ho3 hg3 hn3
      have hb3 : Below g w w3 := below_grown (hbel.alloc hgs _) (World.ownsRow.alloc ho _) hg3 (Nat.le_refl _) (by simp; omega)
      have ho4 : w3.ownsRow g 5 1 (.slice a2 (k + 1) c2) (k + 1) (((big n m).take (k + 1)).map (Value.int .u8)) := by rw [HX.out]; simpa using ho3
      have Hn3 : Hid (a2 ≠ Option.none) := by unfold Hid; simpa using hn3
      clear hg3 ho3 ho hbel hn3
      go_wp2
      go_roundw
      case rel => exact ⟨k + 1, a2, c2, by omega, by have := Hj.out; first | omega | (congr 1; done) | (congr 1; omega), rfl, fun _ => Hn3.out, ho4, hb3⟩
      case measure => simp [intOf]
    · obtain rfl : k = m := by omega
      have hneg : ¬ 0 ≤ (k : Int) - 1 - k := by omega
      go_wp2
      go_ret2
      rw [List.take_of_length_le (by rw [big_len]; exact Nat.le_refl _)] at ho
      obtain ⟨hl, h⟩ := ho
      rcases h with ⟨e, _⟩ | ⟨g', c, cur, e, r⟩
      · simp at e; exact absurd e.1 (Hne.out (by omega))
      · cases e
        unfold RetB
        rw [big_len, HG.out]
        exact ⟨g', c', rfl, ⟨hl, .inr ⟨g', c', cur, rfl, r⟩⟩, hbel⟩

theorem rlittle_no (n m : Int) (w : World) (h0 : -9223372036854775808 ≤ n ∧ n ≤ 9223372036854775807) (h : fit n m = false) :
    Calls Try.prog 13 #[.int .i64 n, .int .i64 m] w fun e w' => e = .returned (.tuple #[.slice Option.none 0 0, .int .i64 1]) ∧ w' = w := by
  go_enter Try.func13, Try.ntmps13
  go_wp2_with fail
  refine (rbig_no n m w h0 h).mono ?_; rintro e w1 ⟨rfl, rfl⟩
  go_wp2_with fail
  refine wp_loop_once ?_
  go_wp2
  go_ret2
  exact ⟨rfl, rfl⟩

set_option maxHeartbeats 400000 in
theorem rlittle_yes (n : Int) (m : Nat) (w : World) (h0 : -9223372036854775808 ≤ n ∧ n ≤ 9223372036854775807) (h : fit n m = true) :
    Calls Try.prog 13 #[.int .i64 n, .int .i64 m] w (RetB w (lit n m) 0) := by
  have hf : 1 ≤ (m : Int) ∧ (m : Int) ≤ 6 ∧ 0 ≤ n ∧ n / 2 ^ (8 * (m : Int)).toNat = 0 := of_decide_eq_true h
  have hm1 := hf.1
  have hm2 := hf.2.1
  clear hf
  have Hh := Lib.hid h
  clear h
  go_enter Try.func13, Try.ntmps13
  go_wp2_with fail
  refine (rbig_yes n m w h0 Hh.out).mono ?_; rintro e w1 ⟨g, c, rfl, ho, hb⟩
  rw [big_len] at ho
  rw [big_len]
  generalize hB : w.heap.size = B at ho hb
  have HB := Lib.hid hB; clear hB h0 Hh
  have hgB := (ho.lt g rfl).1
  go_wp2_with fail
  go_loopw [8] (fun i wr => ∃ (k : Nat) (ys : List Int), 2 * k ≤ m ∧ i = .int .i64 k ∧ wr.ownsRow B 5 1 (.slice (some ⟨g, 0, Option.none⟩) m c) m (ys.map (Value.int .u8)) ∧ Below B w wr ∧ Hid (ys.length = m ∧ ∀ j, j < m → ys.getD j 0 = if j < k ∨ m - 1 - j < k then (lit n m).getD j 0 else (big n m).getD j 0)) (fun i _ => m - (intOf i).toNat)
  case atStart => exact ⟨0, big n m, Nat.zero_le _, rfl, ho, hb, by simp [big_len], fun j hj => by rw [if_neg (by omega)]⟩
  case round =>
    obtain ⟨k, ys, hk, rfl, ho', hbel, Hy⟩ := hrel
    clear ho hb
    have hq : (m : Int) / 2 = ((m / 2 : Nat) : Int) := by omega
    by_cases hlt : (k : Int) < (m : Int) / 2
    · have c1 := owns_cell ho' k (by omega)
      have c2 := owns_cell ho' (m - 1 - k) (by omega)
      have f1 := ho'.frozenAt k
      have f2 := ho'.frozenAt (m - 1 - k)
      have HO := Lib.hid ho'
      clear hq
      have HX : Hid (ys.getD k 0 = (lit n m).getD (m - 1 - k) 0) := by
        rw [Hy.out.2 k (by omega), if_neg (by omega), big_getD _ _ _ (by omega), lit_getD _ _ _ (by omega)]; rfl
      have HY : Hid (ys.getD (m - 1 - k) 0 = (lit n m).getD k 0) := by
        rw [Hy.out.2 (m - 1 - k) (by omega), if_neg (by omega), big_getD _ _ _ (by omega), lit_getD _ _ _ (by omega), show m - 1 - (m - 1 - k) = k by omega]; rfl
      generalize ys.getD k 0 = x at *
      generalize ys.getD (m - 1 - k) 0 = y at *
      go_wp2_with fail
      go_region
      all_goals
        go_wp2
        go_roundw
        case rel =>
          obtain ⟨hyl, hyj⟩ := Hy.out
          refine ⟨k + 1, (ys.set k y).set (m - 1 - k) x, by omega, by go_num, ?_, ?_, by simpa using hyl, fun j hj => ?_⟩
          · exact owns_set (owns_set HO.out k y) (m - 1 - k) x
          · exact ((hbel.setCell (p := ⟨g, k, Option.none⟩) hgB _).setCell (p := ⟨g, m - 1 - k, Option.none⟩) hgB _).drew
          · rw [getD_set, getD_set, hyj j hj]
            by_cases e1 : m - 1 - k = j
            · rw [if_pos ⟨e1, by simp; omega⟩, if_pos (by omega), HX.out, e1]
            · rw [if_neg (fun h => e1 h.1)]
              by_cases e2 : k = j
              · rw [if_pos ⟨e2, by omega⟩, if_pos (by omega), HY.out, e2]
              · rw [if_neg (fun h => e2 h.1)]
                by_cases e3 : j < k ∨ m - 1 - j < k
                · rw [if_pos e3, if_pos (by omega)]
                · rw [if_neg e3, if_neg (by omega)]
        case measure => simp [intOf]; omega
    · have e : ys = lit n m := ext_getD (by rw [Hy.out.1, lit_len]) fun j hj => by
        rw [Hy.out.2 j (by rw [← Hy.out.1]; exact hj)]
        split
        · rfl
        · have : j < m := by rw [← Hy.out.1]; exact hj
          rw [big_getD _ _ _ this, lit_getD _ _ _ this, show m - 1 - j = j by omega]
      subst e
      clear Hy hq
      go_wp2_with fail
      go_ret2
      unfold RetB
      rw [lit_len, HB.out]
      exact ⟨g, c, rfl, ho', hbel⟩
end Go.Proofs.Ytckekklmjegajaa
