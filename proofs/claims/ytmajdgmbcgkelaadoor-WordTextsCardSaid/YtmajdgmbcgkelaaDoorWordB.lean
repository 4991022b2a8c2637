/-
  word.Count, Clip, Name, Text at every text.
-/
import Derived.Test.YtmajdgmbcgkelaaDoorWordA
import Derived.Lib.OthersKept
namespace Go.Proofs.YtmajdgmbcgkelaaDoor
open Go.RowKit
open Go.Lib (decodeL validD encodeRune decodeL_width)

/-- The iterator in block k stands at pos; all below B is as it was. -/
structure ItAt (k B : Nat) (w0 : World) (s : ByteArray) (pos : Nat) (w : World) : Prop where
  it : w.heap[k]? = some (.stringIter s pos)
  bel : Below B w0 w

theorem ItAt.new (w : World) (s : ByteArray) : ItAt w.heap.size w.heap.size w s 0 (w.alloc (.stringIter s 0)) :=
  ⟨World.iter_heap w s 0, (Below.refl _ _).alloc (Nat.le_refl _) _⟩
theorem ItAt.move {k B : Nat} {w0 w : World} {s : ByteArray} {pos : Nat} (h : ItAt k B w0 s pos w) (hB : B ≤ k) (pos' : Nat) : ItAt k B w0 s pos' (w.iterAt k s pos') :=
  ⟨Lib.iterAt_heap w k s pos pos' h.it, Lib.below_iterAt h.bel hB s pos'⟩
theorem ItAt.then {k B : Nat} {w0 w w' : World} {s : ByteArray} {pos : Nat} (h : ItAt k B w0 s pos w) (hB : B ≤ w.heap.size) (hb : Below w.heap.size w w') : ItAt k B w0 s pos w' :=
  ⟨by
    have hk : k < w.heap.size := (Array.getElem?_eq_some_iff.1 h.it).1
    rw [hb.block k hk]; exact h.it, h.bel.trans (hb.mono hB)⟩
theorem ItAt.pos {k B : Nat} {w0 w : World} {s : ByteArray} {pos : Nat} (h : ItAt k B w0 s pos w) : w.iterPos k = pos := by
  simp [World.iterPos, h.it]

theorem drop_ne (s : ByteArray) (pos : Nat) (h : pos < s.size) : s.data.toList.drop pos ≠ [] := by
  intro e
  have := congrArg List.length e
  rw [List.length_drop, List.length_nil, ← Lib.size_eq] at this
  omega
theorem drop_end (s : ByteArray) (pos : Nat) (h : ¬ pos < s.size) : s.data.toList.drop pos = [] := List.drop_eq_nil_of_le (by rw [← Lib.size_eq]; omega)
/-- What a range over a text meets at a place. -/
theorem dec_at (s : ByteArray) (pos : Nat) (h : pos < s.size) : Utf8.decode s pos = decodeL (s.data.toList.drop pos) ∧ 1 ≤ (decodeL (s.data.toList.drop pos)).2 ∧ pos + (decodeL (s.data.toList.drop pos)).2 ≤ s.size ∧
    runes (s.data.toList.drop pos) = (decodeL (s.data.toList.drop pos)).1 :: runes (s.data.toList.drop (pos + (decodeL (s.data.toList.drop pos)).2)) := by
  have hne := drop_ne s pos h
  have hle := dec_le _ hne
  rw [List.length_drop, ← Lib.size_eq] at hle
  exact ⟨(Lib.decodeL_drop s pos).symm, decodeL_width _, by omega, by rw [runes_step _ hne, List.drop_drop]⟩
theorem dec_max (l : List UInt8) : (decodeL l).1 ≤ 1114111 := Lib.decodeL_rune l

set_option maxRecDepth 100000 in
set_option maxHeartbeats 1000000 in
theorem count_any (s : ByteArray) (w : World) (hs : s.size ≤ 9223372036854775807) (hT : Tabs w) :
    Calls Tryd.prog 11 #[.string s] w fun e w' => (validD s.data.toList = true ∧ e = .returned (.tuple #[.int .i64 ((runes s.data.toList).length : Nat), .int .i64 0]) ∨ validD s.data.toList = false ∧ e = .returned (.tuple #[.int .i64 0, .int .i64 4])) ∧ Below w.heap.size w w' := by
  have cV := Tryd.utf8_ValidString s w hs hT.u8
  by_cases hv : validD s.data.toList = true
  · rw [hv] at cV
    have HV := Lib.hid hv
    clear hv
    have hL := runes_le s.data.toList
    rw [← Lib.size_eq] at hL
    go_enter Tryd.func11, Tryd.ntmps11
    go_wp2_with fail
    refine cV.mono ?_; rintro e w1 ⟨rfl, hb1⟩
    clear cV
    have HI := Lib.hid (ItAt.new w1 s)
    go_wp2
    go_loopw [4] (fun vn wr => ∃ (pos n : Nat), vn = .int .i64 n ∧ Hid (ItAt w1.heap.size w1.heap.size w1 s pos wr) ∧ Hid (n + (runes (s.data.toList.drop pos)).length = (runes s.data.toList).length)) (fun _ wr => s.size - wr.iterPos w1.heap.size)
    case atStart => exact ⟨0, 0, rfl, HI, Lib.hid (by simp)⟩
    case round =>
      obtain ⟨pos, n, rfl, IT, HN⟩ := hrel
      clear HI
      by_cases hp : pos < s.size
      · have hnx : ∀ ty, (Instr.next (.pointer (some ⟨w1.heap.size, 0, none⟩)) true ty).run Tryd.prog wr = _ := fun ty => Lib.run_next_any_at wr w1.heap.size s pos ty IT.out.it hp
        obtain ⟨d1, d2, d3, d4⟩ := dec_at s pos hp
        rw [d1] at hnx
        have hn := HN.out
        rw [d4, List.length_cons] at hn
        have IT2 := Lib.hid (IT.out.move (Nat.le_refl _) (pos + (decodeL (s.data.toList.drop pos)).2))
        have HN2 : Hid (n + 1 + (runes (s.data.toList.drop (pos + (decodeL (s.data.toList.drop pos)).2))).length = (runes s.data.toList).length) := Lib.hid (by omega)
        have hn2 : n + 1 ≤ 9223372036854775807 := by omega
        have hP := IT.out.pos
        have hP2 := IT2.out.pos
        have hpos2 : pos < pos + (decodeL (s.data.toList.drop pos)).2 := by omega
        clear d4 hn d1 d2
        generalize pos + (decodeL (s.data.toList.drop pos)).2 = pos2 at *
        generalize wr.iterAt w1.heap.size s pos2 = wr2 at *
        go_wp2
        go_roundw
        case rel => exact ⟨pos2, n + 1, by simp, IT2, HN2⟩
        case measure => rw [hP, hP2]; omega
      · have hnx : ∀ ty, (Instr.next (.pointer (some ⟨w1.heap.size, 0, none⟩)) true ty).run Tryd.prog wr = _ := fun ty => Lib.run_next_end_at wr w1.heap.size s pos ty IT.out.it hp
        have hn := HN.out
        rw [drop_end s pos hp, runes_nil, List.length_nil, Nat.add_zero] at hn
        have hbel := IT.out.bel
        go_wp2
        go_ret2
        exact ⟨.inl ⟨HV.out, by rw [hn]; rfl⟩, below_size hb1 hbel⟩
  · have hv' : validD s.data.toList = false := by simpa using hv
    rw [hv'] at cV
    have HV := Lib.hid hv'
    clear hv hv'
    go_enter Tryd.func11, Tryd.ntmps11
    go_wp2_with fail
    refine cV.mono ?_; rintro e w1 ⟨rfl, hb1⟩
    clear cV
    go_wp2
    go_ret2
    exact ⟨.inr ⟨HV.out, rfl⟩, hb1⟩

theorem run_slice_str_hi {P : Program} (t : TypeId) (ht : P.underlying t = some .string) (s : ByteArray) (k : Nat) (h : k ≤ s.size) (w : World) :
    (Instr.slice t (.string s) none (some (.int .i64 (k : Int))) none).run P w = .ok (.string (s.extract 0 k)) w := by
  simp [Instr.slice, run_underlying ht, Instr.sliceBounds, run_sliceBound, h]

set_option maxRecDepth 100000 in
set_option maxHeartbeats 1000000 in
theorem clip_any (s : ByteArray) (n : Int) (w : World) (hs : s.size ≤ 9223372036854775807) (hn0 : -9223372036854775808 ≤ n) (hn1 : n ≤ 9223372036854775807) (hT : Tabs w) :
    Calls Tryd.prog 15 #[.string s, .int .i64 n] w fun e w' => (validD s.data.toList = true ∧ e = .returned (.string (s.extract 0 (clipL n s.data.toList))) ∨ validD s.data.toList = false ∧ e = .returned (.string ⟨#[]⟩)) ∧ Below w.heap.size w w' := by
  have cV := Tryd.utf8_ValidString s w hs hT.u8
  by_cases hv : validD s.data.toList = true
  · rw [hv] at cV
    have HV := Lib.hid hv
    clear hv
    have hL := runes_le s.data.toList
    rw [← Lib.size_eq] at hL
    have kS := fun (k : Nat) (h : k ≤ s.size) (w : World) => run_slice_str_hi (P := Tryd.prog) 9 Tryd.underlying9 s k h w
    go_enter Tryd.func15, Tryd.ntmps15
    go_wp2_with fail
    refine cV.mono ?_; rintro e w1 ⟨rfl, hb1⟩
    clear cV
    have HI := Lib.hid (ItAt.new w1 s)
    go_wp2
    go_loopw [1] (fun vn wr => ∃ (pos : Nat) (m : Int), vn = .int .i64 m ∧ -9223372036854775808 ≤ m ∧ m ≤ 9223372036854775807 ∧ pos ≤ s.size ∧ Hid (ItAt w1.heap.size w1.heap.size w1 s pos wr) ∧ Hid (pos + clipL m (s.data.toList.drop pos) = clipL n s.data.toList)) (fun _ wr => s.size - wr.iterPos w1.heap.size)
    case atStart => exact ⟨0, n, rfl, hn0, hn1, Nat.zero_le _, HI, Lib.hid (by simp)⟩
    case round =>
      obtain ⟨pos, m, rfl, hm0, hm1, hps, IT, HN⟩ := hrel
      clear HI
      by_cases hp : pos < s.size
      · have hnx : ∀ ty, (Instr.next (.pointer (some ⟨w1.heap.size, 0, none⟩)) true ty).run Tryd.prog wr = _ := fun ty => Lib.run_next_any_at wr w1.heap.size s pos ty IT.out.it hp
        obtain ⟨d1, d2, d3, d4⟩ := dec_at s pos hp
        rw [d1] at hnx
        have IT2 := Lib.hid (IT.out.move (Nat.le_refl _) (pos + (decodeL (s.data.toList.drop pos)).2))
        have hP := IT.out.pos
        have hP2 := IT2.out.pos
        by_cases hm : m ≤ 0
        · have hn := HN.out
          rw [clip_none _ _ (.inr hm), Nat.add_zero] at hn
          have hbel := IT2.out.bel
          have hx := kS pos hps
          clear d4 d1 kS
          generalize wr.iterAt w1.heap.size s _ = wr2 at *
          go_wp2
          go_ret
          exact ⟨.inl ⟨HV.out, by rw [← hn]; rfl⟩, below_size hb1 hbel⟩
        · have HN2 : Hid ((pos + (decodeL (s.data.toList.drop pos)).2) + clipL (m - 1) (s.data.toList.drop (pos + (decodeL (s.data.toList.drop pos)).2)) = clipL n s.data.toList) := by
            have hn := HN.out
            rw [clip_step _ _ (drop_ne s pos hp) (by omega), List.drop_drop] at hn
            exact Lib.hid (by rw [← hn]; omega)
          have hpos2 : pos < pos + (decodeL (s.data.toList.drop pos)).2 := by omega
          clear d4 d1 d2 kS
          generalize pos + (decodeL (s.data.toList.drop pos)).2 = pos2 at *
          generalize wr.iterAt w1.heap.size s pos2 = wr2 at *
          have hw : wrap64 (m - 1) = m - 1 := by rw [wrap64]; omega
          go_wp2
          go_roundw
          case rel => exact ⟨pos2, m - 1, by simp [hw], by omega, by omega, d3, IT2, HN2⟩
          case measure => rw [hP, hP2]; omega
      · have hnx : ∀ ty, (Instr.next (.pointer (some ⟨w1.heap.size, 0, none⟩)) true ty).run Tryd.prog wr = _ := fun ty => Lib.run_next_end_at wr w1.heap.size s pos ty IT.out.it hp
        have hn := HN.out
        rw [drop_end s pos hp, clip_none _ _ (.inl rfl), Nat.add_zero] at hn
        have hbel := IT.out.bel
        clear kS
        go_wp2
        go_ret
        refine ⟨.inl ⟨HV.out, ?_⟩, below_size hb1 hbel⟩
        have e : s.extract 0 (clipL n s.data.toList) = s := by
          rw [← hn, show pos = s.size by omega]
          exact ByteArray.extract_zero_size
        rw [e]; rfl
  · have hv' : validD s.data.toList = false := by simpa using hv
    rw [hv'] at cV
    have HV := Lib.hid hv'
    clear hv hv'
    go_enter Tryd.func15, Tryd.ntmps15
    go_wp2_with fail
    refine cV.mono ?_; rintro e w1 ⟨rfl, hb1⟩
    clear cV
    go_wp2
    go_ret
    exact ⟨.inr ⟨HV.out, rfl⟩, hb1⟩
end Go.Proofs.YtmajdgmbcgkelaaDoor
