/-
  The walk of the statement WordSigns.
-/
import Derived.Test.YtmajdgmbcgkelaaDoorWordFirst
import Derived.Test.YtmajdgmbcgkelaaDoorWordSignsP
namespace Go.Proofs.YtmajdgmbcgkelaaDoor
open Go.RowKit
open Go.Lib (decodeL validD encodeRune decodeL_width)

set_option maxRecDepth 100000 in
theorem signs_big (s : ByteArray) (n : Int) (w : World) (hT : Tabs w) (hs63 : (s.size : Int) ≤ 9223372036854775807) (h : 5000 < s.size ∨ n < 0 ∨ 5000 < n) :
    Calls Tryd.prog 6 #[.string s, .int .i64 n] w fun e w' => e = .returned (.bool true) ∧ Below w.heap.size w w' := by
  by_cases h1 : (5000 : Int) < s.size
  · clear h
    go_enter Tryd.func6, Tryd.ntmps6
    go_wp2_with fail
    refine (first_any w hT).mono ?_; rintro e w1 ⟨rfl, hb1⟩
    go_wp2_with fail
    refine (first_any w1 (hT.below hb1)).mono ?_; rintro e w2 ⟨rfl, hb2⟩
    go_wp2_with fail
    go_ret
    exact ⟨rfl, below_size hb1 hb2⟩
  · by_cases h2 : n < 0
    · clear h
      go_enter Tryd.func6, Tryd.ntmps6
      go_wp2_with fail
      refine (first_any w hT).mono ?_; rintro e w1 ⟨rfl, hb1⟩
      go_wp2_with fail
      refine (first_any w1 (hT.below hb1)).mono ?_; rintro e w2 ⟨rfl, hb2⟩
      go_wp2_with fail
      go_ret
      exact ⟨rfl, below_size hb1 hb2⟩
    · have h3 : 5000 < n := by omega
      clear h
      go_enter Tryd.func6, Tryd.ntmps6
      go_wp2_with fail
      refine (first_any w hT).mono ?_; rintro e w1 ⟨rfl, hb1⟩
      go_wp2_with fail
      refine (first_any w1 (hT.below hb1)).mono ?_; rintro e w2 ⟨rfl, hb2⟩
      go_wp2_with fail
      go_ret
      exact ⟨rfl, below_size hb1 hb2⟩

set_option maxRecDepth 100000 in
set_option maxHeartbeats 1000000 in
theorem signs_bad (s : ByteArray) (q : Nat) (w : World) (hT : Tabs w) (hs : s.size ≤ 5000) (hq : q ≤ 5000) (hv : validD s.data.toList = false) :
    Calls Tryd.prog 6 #[.string s, .int .i64 (q : Nat)] w fun e w' => e = .returned (.bool true) ∧ Below w.heap.size w w' := by
  have h1 : ¬ (5000 : Int) < s.size := by omega
  have h2 : ¬ (q : Int) < 0 := by omega
  have h3 : ¬ (5000 : Int) < (q : Int) := by omega
  have c1 := fun (w1 : World) (h : Tabs w1) => count_any s w1 (by omega) h
  have c2 := fun (w1 : World) (h : Tabs w1) => clip_any s (q : Int) w1 (by omega) (by omega) (by omega) h
  have c3 := fun (w1 : World) => name_any s w1
  have c4 := fun (w1 : World) (h : Tabs w1) => text_any s w1 (by omega) h
  simp only [name_bad _ hv] at c3
  simp only [text_bad _ hv] at c4
  simp only [hv, Bool.false_eq_true, false_and, false_or, true_and] at c1 c2
  clear hv hs hq
  go_enter Tryd.func6, Tryd.ntmps6
  go_wp2_with fail
  refine (first_any w hT).mono ?_; rintro e w1 ⟨rfl, hb1⟩
  go_wp2_with fail
  refine (c1 w1 (hT.below hb1)).mono ?_; rintro e w2 ⟨rfl, hb2⟩
  have hb12 := below_size hb1 hb2
  go_wp2_with fail
  refine (first_any w2 (hT.below hb12)).mono ?_; rintro e w3 ⟨rfl, hb3⟩
  have hb13 := below_size hb12 hb3
  go_wp2_with fail
  refine (c2 w3 (hT.below hb13)).mono ?_; rintro e w4 ⟨rfl, hb4⟩
  have hb14 := below_size hb13 hb4
  go_wp2_with fail
  refine (c3 w4).mono ?_; rintro e w5 ⟨rfl, hb5⟩
  have hb15 := below_size hb14 hb5
  go_wp2_with fail
  refine (c4 w5 (hT.below hb15)).mono ?_; rintro e w6 ⟨rfl, hb6⟩
  go_wp2_with fail
  go_ret
  exact ⟨rfl, below_size hb15 hb6⟩

theorem str_ne_self (a : ByteArray) : (!(a.toList == a.toList)) = false := by rw [str_eq]; rfl

set_option maxRecDepth 100000 in
set_option maxHeartbeats 4000000 in
theorem signs_good (s : ByteArray) (q : Nat) (w : World) (hT : Tabs w) (hs : s.size ≤ 5000) (hq : q ≤ 5000) (hv : validD s.data.toList = true) :
    Calls Tryd.prog 6 #[.string s, .int .i64 (q : Nat)] w fun e w' => e = .returned (.bool true) ∧ Below w.heap.size w w' := by
  have h1 : ¬ (5000 : Int) < s.size := by omega
  have h2 : ¬ (q : Int) < 0 := by omega
  have h3 : ¬ (5000 : Int) < (q : Int) := by omega
  obtain ⟨m, p, r, em, va, ep, vb, er, hpr, hpq, hN, hna, hte⟩ := signs_law s.data.toList q hv
  have hml := runes_le s.data.toList
  rw [em, ← Lib.size_eq] at hml
  have c1 := fun (w1 : World) (h : Tabs w1) => count_any s w1 (by omega) h
  have c2 := fun (w1 : World) (h : Tabs w1) => clip_any s (q : Int) w1 (by omega) (by omega) (by omega) h
  obtain ⟨a, ha⟩ : ∃ a, s.extract 0 (clipL (q : Int) s.data.toList) = a := ⟨_, rfl⟩
  have hal : a.data.toList = s.data.toList.take (clipL (q : Int) s.data.toList) := by rw [← ha, ext_toList]; simp
  have has : a.size = clipL (q : Int) s.data.toList := by rw [Lib.size_eq, hal, List.length_take]; omega
  have hle : a.size ≤ s.size := by rw [has, Lib.size_eq s]; exact hN
  obtain ⟨b, hb⟩ : ∃ b, s.extract a.size s.size = b := ⟨_, rfl⟩
  have hbl : b.data.toList = s.data.toList.drop (clipL (q : Int) s.data.toList) := by
    rw [← hb, ext_toList, has, List.take_of_length_le]
    rw [List.length_drop, ← Lib.size_eq]
    exact Nat.le_refl _
  have hbs : b.size ≤ 5000 := by rw [← hb]; simp; omega
  have c5 := fun (w1 : World) (h : Tabs w1) => count_any a w1 (by omega) h
  have c6 := fun (w1 : World) (h : Tabs w1) => count_any b w1 (by omega) h
  rw [hal] at c5
  rw [hbl] at c6
  rw [ha] at c2
  simp only [hv, em, true_and, Bool.true_eq_false, false_and, or_false] at c1 c2
  simp only [va, ep, true_and, Bool.true_eq_false, false_and, or_false] at c5
  simp only [vb, er, true_and, Bool.true_eq_false, false_and, or_false] at c6
  have kS : ∀ w, (Instr.slice 9 (.string s) none (some (.int .i64 (a.size : Int))) none).run Tryd.prog w = .ok (.string a) w := fun w => by
    rw [run_slice_str_hi (P := Tryd.prog) 9 Tryd.underlying9 s a.size hle w]
    rw [has, ha]
  have kT : ∀ w, (Instr.slice 9 (.string s) (some (.int .i64 (a.size : Int))) none none).run Tryd.prog w = .ok (.string b) w := fun w => by
    rw [run_slice_str_lo (P := Tryd.prog) 9 Tryd.underlying9 s a.size hle w, hb]
  have c3 := fun (w1 : World) => name_any s w1
  have c4 := fun (w1 : World) (h : Tabs w1) => text_any s w1 (by omega) h
  have hle' : ¬ (s.size : Int) < (a.size : Int) := by omega
  have hll : (runes (s.data.toList.drop 0)).length = m := by rw [List.drop_zero]; exact em
  have HN := Lib.hid hna
  have HX := Lib.hid hte
  have HLL := Lib.hid hll
  have HS := Lib.hid hs
  have hq1 := str_eq a
  have hmin : min (q : Int) (m : Int) = (p : Int) := by omega
  have hm1 : (m : Int) ≤ 5000 := by omega
  have hsum : (p : Int) + (r : Int) = (m : Int) := by omega
  generalize nameL s.data.toList = NB at *
  generalize textL s.data.toList = TB at *
  have HP := Lib.hid hpq
  have HP2 := Lib.hid hpr
  clear hv va vb hna hte hll em ep er ha hal has hb hbl hbs hN hml hs hq hle hpq hpr
  go_enter Tryd.func6, Tryd.ntmps6
  go_wp2_with fail
  refine (first_any w hT).mono ?_; rintro e w1 ⟨rfl, hb1⟩
  go_wp2_with fail
  refine (c1 w1 (hT.below hb1)).mono ?_; rintro e w2 ⟨rfl, hb2⟩
  have hb12 := Lib.hid (below_size hb1 hb2)
  have HT := Lib.hid hT
  clear hb1 hb2 hT c1
  have HI := Lib.hid (ItAt.new w2 s)
  go_wp2_with fail
  go_loopw [7] (fun vn wr => ∃ (pos n : Nat), vn = .int .i64 n ∧ Hid (ItAt w2.heap.size w2.heap.size w2 s pos wr) ∧ Hid (n + (runes (s.data.toList.drop pos)).length = m) ∧ Hid (n ≤ pos)) (fun _ wr => s.size - wr.iterPos w2.heap.size)
  case atStart => exact ⟨0, 0, rfl, HI, Lib.hid (by rw [HLL.out]; omega), Lib.hid (Nat.le_refl _)⟩
  case round =>
    obtain ⟨pos, n, rfl, IT, HN', HNP⟩ := hrel
    clear HI
    by_cases hp : pos < s.size
    · have hnx : ∀ ty, (Instr.next (.pointer (some ⟨w2.heap.size, 0, none⟩)) true ty).run Tryd.prog wr = _ := fun ty => Lib.run_next_any_at wr w2.heap.size s pos ty IT.out.it hp
      obtain ⟨d1, d2, d3, d4⟩ := dec_at s pos hp
      rw [d1] at hnx
      have hn := HN'.out
      rw [d4, List.length_cons] at hn
      have IT2 := Lib.hid (IT.out.move (Nat.le_refl _) (pos + (decodeL (s.data.toList.drop pos)).2))
      have HN2 : Hid (n + 1 + (runes (s.data.toList.drop (pos + (decodeL (s.data.toList.drop pos)).2))).length = m) := Lib.hid (by omega)
      have HNP2 : Hid (n + 1 ≤ pos + (decodeL (s.data.toList.drop pos)).2) := Lib.hid (by have := HNP.out; omega)
      have hn2 : (n : Int) + 1 ≤ 9223372036854775807 := by have := HNP.out; have := HS.out; omega
      have hP := IT.out.pos
      have hP2 := IT2.out.pos
      have hpos2 : Hid (s.size - (pos + (decodeL (s.data.toList.drop pos)).2) < s.size - pos) := Lib.hid (by omega)
      clear d4 hn d1 d2 d3 kS kT c2 c3 c4 c5 c6 hp
      generalize pos + (decodeL (s.data.toList.drop pos)).2 = pos2 at *
      generalize wr.iterAt w2.heap.size s pos2 = wr2 at *
      go_wp2
      go_roundw
      case rel => exact ⟨pos2, n + 1, by simp, IT2, HN2, HNP2⟩
      case measure => rw [hP, hP2]; exact hpos2.out
    · have hnx : ∀ ty, (Instr.next (.pointer (some ⟨w2.heap.size, 0, none⟩)) true ty).run Tryd.prog wr = _ := fun ty => Lib.run_next_end_at wr w2.heap.size s pos ty IT.out.it hp
      have hn := HN'.out
      rw [drop_end s pos hp, runes_nil, List.length_nil, Nat.add_zero] at hn
      subst hn
      have hB3 := below_size hb12.out IT.out.bel
      clear IT HN' HNP hp
      go_wp2_with fail
      refine (c2 wr (HT.out.below hB3)).mono ?_; rintro e w4 ⟨rfl, hb4⟩
      have hB4 := below_size hB3 hb4
      clear hB3 hb4 c2
      go_wp2_with fail
      refine (c5 w4 (HT.out.below hB4)).mono ?_; rintro e w5 ⟨rfl, hb5⟩
      have hB5 := below_size hB4 hb5
      clear hB4 hb5 c5
      go_wp2_with fail
      refine (c6 w5 (HT.out.below hB5)).mono ?_; rintro e w6 ⟨rfl, hb6⟩
      have hB6 := below_size hB5 hb6
      clear hB5 hb6 c6 kS kT hmin
      have hsum2 : (p : Int) + (r : Int) ≤ 5000 := by omega
      go_wp2_with fail
      refine (first_any w6 (HT.out.below hB6)).mono ?_; rintro e w7 ⟨rfl, hb7⟩
      have hB7 := below_size hB6 hb7
      clear hB6 hb7
      cases NB with
      | false =>
        go_wp2_with fail
        refine (c3 w7).mono ?_; rintro e w8 ⟨rfl, hb8⟩
        have hB8 := below_size hB7 hb8
        clear hB7 hb8 c3
        cases TB with
        | false =>
          go_wp2_with fail
          refine (c4 w8 (HT.out.below hB8)).mono ?_; rintro e w9 ⟨rfl, hb9⟩
          go_wp2_with fail
          go_ret
          exact ⟨rfl, below_size hB8 hb9⟩
        | true =>
          have k3 : (n : Int) ≤ 200 := by have := HX.out rfl; omega
          go_wp2_with fail
          refine (c4 w8 (HT.out.below hB8)).mono ?_; rintro e w9 ⟨rfl, hb9⟩
          go_wp2_with fail
          go_ret
          exact ⟨rfl, below_size hB8 hb9⟩
      | true =>
        have k0 : (1 : Int) ≤ n := by have := HN.out rfl; omega
        have k1 : (n : Int) ≤ 40 := by have := HN.out rfl; omega
        go_wp2_with fail
        refine (c3 w7).mono ?_; rintro e w8 ⟨rfl, hb8⟩
        have hB8 := below_size hB7 hb8
        clear hB7 hb8 c3
        cases TB with
        | false =>
          go_wp2_with fail
          refine (c4 w8 (HT.out.below hB8)).mono ?_; rintro e w9 ⟨rfl, hb9⟩
          go_wp2_with fail
          go_ret
          exact ⟨rfl, below_size hB8 hb9⟩
        | true =>
          have k3 : (n : Int) ≤ 200 := by omega
          go_wp2_with fail
          refine (c4 w8 (HT.out.below hB8)).mono ?_; rintro e w9 ⟨rfl, hb9⟩
          go_wp2_with fail
          go_ret
          exact ⟨rfl, below_size hB8 hb9⟩

theorem walk_WordSigns (s : ByteArray) (n : Int) (w : World) (hT : Tabs w) (hs : s.size ≤ maxLen) (hn : -9223372036854775808 ≤ n ∧ n ≤ 9223372036854775807) :
    Calls Tryd.prog 6 #[.string s, .int .i64 n] w fun e w' => e = .returned (.bool true) ∧ Below w.heap.size w w' := by
  have hs63 : (s.size : Int) ≤ 9223372036854775807 := by unfold maxLen at hs; omega
  by_cases h : 5000 < s.size ∨ n < 0 ∨ 5000 < n
  · exact signs_big s n w hT hs63 h
  · obtain ⟨q, rfl⟩ := Int.eq_ofNat_of_zero_le (show 0 ≤ n by omega)
    cases hv : validD s.data.toList with
    | true => exact signs_good s q w hT (by omega) (by omega) hv
    | false => exact signs_bad s q w hT (by omega) (by omega) hv
end Go.Proofs.YtmajdgmbcgkelaaDoor
