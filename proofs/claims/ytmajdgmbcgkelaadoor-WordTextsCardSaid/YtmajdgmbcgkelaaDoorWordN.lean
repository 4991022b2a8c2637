/-
  word.Name and word.Text at every text.
-/
import Derived.Test.YtmajdgmbcgkelaaDoorWordB
namespace Go.Proofs.YtmajdgmbcgkelaaDoor
open Go.RowKit
open Go.Lib (decodeL validD encodeRune decodeL_width)

theorem name_cons (cnt last r : Nat) (rs : List Nat) : nameGo cnt last (r :: rs) = if 40 < cnt + 1 ∨ letterP r = false then false else if cnt = 0 ∧ (r = 45 ∨ r = 46) then false else if r = 47 ∧ last = 47 then false else nameGo (cnt + 1) r rs := rfl

set_option maxRecDepth 100000 in
set_option maxHeartbeats 2000000 in
theorem name_any (s : ByteArray) (w : World) :
    Calls Tryd.prog 17 #[.string s] w fun e w' => e = .returned (.bool (nameL s.data.toList)) ∧ Below w.heap.size w w' := by
  have HI := Lib.hid (ItAt.new w s)
  go_enter Tryd.func17, Tryd.ntmps17
  go_wp2
  go_loopw [3, 4] (fun vn vl wr => ∃ (pos n last : Nat), vn = .int .i64 n ∧ vl = .int .i32 last ∧ n ≤ 40 ∧ last ≤ 1114111 ∧ Hid (ItAt w.heap.size w.heap.size w s pos wr) ∧ Hid (nameGo n last (runes (s.data.toList.drop pos)) = nameL s.data.toList)) (fun _ _ wr => s.size - wr.iterPos w.heap.size)
  case atStart => exact ⟨0, 0, 47, rfl, rfl, by omega, by omega, HI, Lib.hid (by rw [List.drop_zero]; rfl)⟩
  case round =>
    obtain ⟨pos, n, last, rfl, rfl, hn40, hlast, IT, HN⟩ := hrel
    clear HI
    by_cases hp : pos < s.size
    · have hnx : ∀ ty, (Instr.next (.pointer (some ⟨w.heap.size, 0, none⟩)) true ty).run Tryd.prog wr = _ := fun ty => Lib.run_next_any_at wr w.heap.size s pos ty IT.out.it hp
      obtain ⟨d1, d2, d3, d4⟩ := dec_at s pos hp
      rw [d1] at hnx
      have hmax := dec_max (s.data.toList.drop pos)
      have hn := HN.out
      rw [d4, name_cons] at hn
      have hpos2 : pos < pos + (decodeL (s.data.toList.drop pos)).2 := by omega
      have IT2 := Lib.hid (IT.out.move (Nat.le_refl _) (pos + (decodeL (s.data.toList.drop pos)).2))
      have hP := IT.out.pos
      have hP2 := IT2.out.pos
      have hbel := IT2.out.bel
      have hw1 : wrap64 ((n : Int) + 1) = (n : Int) + 1 := by rw [wrap64]; omega
      clear d4 d1 d2
      generalize pos + (decodeL (s.data.toList.drop pos)).2 = pos2 at *
      generalize wr.iterAt w.heap.size s pos2 = wr2 at *
      generalize (decodeL (s.data.toList.drop pos)).1 = r at *
      have HN2 := Lib.hid hn
      clear hn
      by_cases h40 : (40 : Int) < (n : Int) + 1
      · go_wp2
        go_ret
        have hn := HN2.out
        rw [if_pos (.inl (by omega))] at hn
        exact ⟨ret_bool hn, hbel⟩
      · by_cases hl : letterP r = false
        · go_wp2_with fail
          refine (nameSign_any r wr2).mono ?_; rintro e w3 ⟨rfl, rfl⟩
          rw [hl]
          go_wp2
          go_ret
          have hn := HN2.out
          rw [if_pos (.inr hl)] at hn
          exact ⟨ret_bool hn, hbel⟩
        · have hl' : letterP r = true := by simpa using hl
          by_cases hc : n = 0 ∧ (r = 45 ∨ r = 46)
          · obtain ⟨rfl, hr⟩ := hc
            rcases hr with rfl | rfl
            · go_wp2_with fail
              refine (nameSign_any 45 wr2).mono ?_; rintro e w3 ⟨rfl, rfl⟩
              rw [hl']
              go_wp2
              go_ret
              have hn := HN2.out
              rw [if_neg (by decide), if_pos (by simp)] at hn
              exact ⟨ret_bool hn, hbel⟩
            · go_wp2_with fail
              refine (nameSign_any 46 wr2).mono ?_; rintro e w3 ⟨rfl, rfl⟩
              rw [hl']
              go_wp2
              go_ret
              have hn := HN2.out
              rw [if_neg (by decide), if_pos (by simp)] at hn
              exact ⟨ret_bool hn, hbel⟩
          · by_cases hd : r = 47 ∧ last = 47
            · obtain ⟨rfl, rfl⟩ := hd
              by_cases hn0 : n = 0
              · subst hn0
                go_wp2_with fail
                refine (nameSign_any 47 wr2).mono ?_; rintro e w3 ⟨rfl, rfl⟩
                rw [hl']
                go_wp2
                go_ret
                have hn := HN2.out
                rw [if_neg (by first | (simp [hl']; done) | (simp [hl']; omega)), if_neg hc, if_pos (by simp)] at hn
                exact ⟨ret_bool hn, hbel⟩
              · have k0 : ((n : Int) + 1 == 1) = false := by simp; omega
                go_wp2_with fail
                refine (nameSign_any 47 wr2).mono ?_; rintro e w3 ⟨rfl, rfl⟩
                rw [hl']
                go_wp2
                go_ret
                have hn := HN2.out
                rw [if_neg (by first | (simp [hl']; done) | (simp [hl']; omega)), if_neg hc, if_pos (by simp)] at hn
                exact ⟨ret_bool hn, hbel⟩
            · have HN3 : Hid (nameGo (n + 1) r (runes (s.data.toList.drop pos2)) = nameL s.data.toList) := by
                have hn := HN2.out
                rw [if_neg (by simp [hl']; omega), if_neg hc, if_neg hd] at hn
                exact Lib.hid hn
              clear hl
              go_wp2_with fail
              refine (nameSign_any r wr2).mono ?_; rintro e w3 ⟨rfl, rfl⟩
              rw [hl']
              by_cases hn0 : n = 0
              · subst hn0
                have k1 : ((r : Int) == 45) = false := by simp; omega
                have k2 : ((r : Int) == 46) = false := by simp; omega
                by_cases hr : r = 47
                · subst hr
                  have k3 : ((last : Int) == 47) = false := by simp; omega
                  go_wp2
                  go_roundw
                  case rel => exact ⟨pos2, 0 + 1, 47, rfl, rfl, by omega, by omega, IT2, HN3⟩
                  case measure => rw [hP, hP2]; omega
                · have k3 : ((r : Int) == 47) = false := by simp; omega
                  go_wp2
                  go_roundw
                  case rel => exact ⟨pos2, 0 + 1, r, rfl, rfl, by omega, by omega, IT2, HN3⟩
                  case measure => rw [hP, hP2]; omega
              · have k0 : ((n : Int) + 1 == 1) = false := by simp; omega
                by_cases hr : r = 47
                · subst hr
                  have k3 : ((last : Int) == 47) = false := by simp; omega
                  go_wp2
                  go_roundw
                  case rel => exact ⟨pos2, n + 1, 47, by simp, rfl, by omega, by omega, IT2, HN3⟩
                  case measure => rw [hP, hP2]; omega
                · have k3 : ((r : Int) == 47) = false := by simp; omega
                  go_wp2
                  go_roundw
                  case rel => exact ⟨pos2, n + 1, r, by simp, rfl, by omega, by omega, IT2, HN3⟩
                  case measure => rw [hP, hP2]; omega
    · have hnx : ∀ ty, (Instr.next (.pointer (some ⟨w.heap.size, 0, none⟩)) true ty).run Tryd.prog wr = _ := fun ty => Lib.run_next_end_at wr w.heap.size s pos ty IT.out.it hp
      have hn := HN.out
      rw [drop_end s pos hp, runes_nil] at hn
      have hbel := IT.out.bel
      by_cases h0 : (0 : Int) < n
      · by_cases h46 : last = 46
        · subst h46
          have e : nameGo n 46 [] = false := by simp [nameGo]
          go_wp2
          go_ret
          exact ⟨ret_bool (by rw [← hn, e]), hbel⟩
        · have k46 : ((last : Int) != 46) = true := by simp; omega
          by_cases h47 : last = 47
          · subst h47
            have e : nameGo n 47 [] = false := by simp [nameGo]
            go_wp2
            go_ret
            exact ⟨ret_bool (by rw [← hn, e]), hbel⟩
          · have k47 : ((last : Int) != 47) = true := by simp; omega
            have e : nameGo n last [] = true := by simp [nameGo]; omega
            go_wp2
            go_ret
            exact ⟨ret_bool (by rw [← hn, e]), hbel⟩
      · have e : nameGo n last [] = false := by
          have : n = 0 := by omega
          subst this
          rfl
        go_wp2
        go_ret
        exact ⟨ret_bool (by rw [← hn, e]), hbel⟩

theorem text_cons (cnt r : Nat) (rs : List Nat) : textGo cnt (r :: rs) = if 200 < cnt + 1 ∨ (hid r = true ∧ r ≠ 10) then false else textGo (cnt + 1) rs := rfl

set_option maxRecDepth 100000 in
set_option maxHeartbeats 2000000 in
theorem text_any (s : ByteArray) (w : World) (hs : s.size ≤ 9223372036854775807) (hT : Tabs w) :
    Calls Tryd.prog 19 #[.string s] w fun e w' => e = .returned (.bool (textL s.data.toList)) ∧ Below w.heap.size w w' := by
  have cV := Tryd.utf8_ValidString s w hs hT.u8
  by_cases hv : validD s.data.toList = true
  · have ht : textL s.data.toList = textGo 0 (runes s.data.toList) := by unfold textL; rw [hv]; rfl
    rw [hv] at cV
    rw [ht]
    clear hv ht
    go_enter Tryd.func19, Tryd.ntmps19
    go_wp2_with fail
    refine cV.mono ?_; rintro e w1 ⟨rfl, hb1⟩
    clear cV
    have HI := Lib.hid (ItAt.new w1 s)
    go_wp2
    go_loopw [3] (fun vn wr => ∃ (pos n : Nat), vn = .int .i64 n ∧ n ≤ 200 ∧ Hid (ItAt w1.heap.size w1.heap.size w1 s pos wr) ∧ Hid (textGo n (runes (s.data.toList.drop pos)) = textGo 0 (runes s.data.toList))) (fun _ wr => s.size - wr.iterPos w1.heap.size)
    case atStart => exact ⟨0, 0, rfl, by omega, HI, Lib.hid (by rw [List.drop_zero])⟩
    case round =>
      obtain ⟨pos, n, rfl, hn40, IT, HN⟩ := hrel
      clear HI
      by_cases hp : pos < s.size
      · have hnx : ∀ ty, (Instr.next (.pointer (some ⟨w1.heap.size, 0, none⟩)) true ty).run Tryd.prog wr = _ := fun ty => Lib.run_next_any_at wr w1.heap.size s pos ty IT.out.it hp
        obtain ⟨d1, d2, d3, d4⟩ := dec_at s pos hp
        rw [d1] at hnx
        have hmax := dec_max (s.data.toList.drop pos)
        have hn := HN.out
        rw [d4, text_cons] at hn
        have hpos2 : pos < pos + (decodeL (s.data.toList.drop pos)).2 := by omega
        have IT2 := Lib.hid (IT.out.move (Nat.le_refl _) (pos + (decodeL (s.data.toList.drop pos)).2))
        have hP := IT.out.pos
        have hP2 := IT2.out.pos
        have hbel := IT2.out.bel
        have hw1 : wrap64 ((n : Int) + 1) = (n : Int) + 1 := by rw [wrap64]; omega
        clear d4 d1 d2
        generalize pos + (decodeL (s.data.toList.drop pos)).2 = pos2 at *
        generalize wr.iterAt w1.heap.size s pos2 = wr2 at *
        generalize (decodeL (s.data.toList.drop pos)).1 = r at *
        have HN2 := Lib.hid hn
        clear hn
        by_cases h40 : (200 : Int) < (n : Int) + 1
        · go_wp2
          go_ret
          have hn := HN2.out
          rw [if_pos (.inl (by omega))] at hn
          exact ⟨ret_bool hn, below_size hb1 hbel⟩
        · by_cases hl : hid r = false
          · go_wp2_with fail
            refine (hidden_any r wr2).mono ?_; rintro e w3 ⟨rfl, rfl⟩
            rw [hl]
            go_wp2
            go_roundw
            case rel =>
              have hn := HN2.out
              rw [if_neg (by simp [hl]; omega)] at hn
              exact ⟨pos2, n + 1, by simp, by omega, IT2, Lib.hid hn⟩
            case measure => rw [hP, hP2]; omega
          · have hl' : hid r = true := by simpa using hl
            go_wp2_with fail
            refine (hidden_any r wr2).mono ?_; rintro e w3 ⟨rfl, rfl⟩
            rw [hl']
            by_cases h10 : r = 10
            · subst h10
              go_wp2
              go_roundw
              case rel =>
                have hn := HN2.out
                rw [if_neg (by simp; omega)] at hn
                exact ⟨pos2, n + 1, by simp, by omega, IT2, Lib.hid hn⟩
              case measure => rw [hP, hP2]; omega
            · have k10 : ((r : Int) != 10) = true := by simp; omega
              go_wp2
              go_ret
              have hn := HN2.out
              rw [if_pos (.inr ⟨hl', h10⟩)] at hn
              exact ⟨ret_bool hn, below_size hb1 hbel⟩
      · have hnx : ∀ ty, (Instr.next (.pointer (some ⟨w1.heap.size, 0, none⟩)) true ty).run Tryd.prog wr = _ := fun ty => Lib.run_next_end_at wr w1.heap.size s pos ty IT.out.it hp
        have hn := HN.out
        rw [drop_end s pos hp, runes_nil] at hn
        have hbel := IT.out.bel
        go_wp2
        go_ret
        exact ⟨ret_bool (by rw [← hn]; rfl), below_size hb1 hbel⟩
  · have hv' : validD s.data.toList = false := by simpa using hv
    have ht : textL s.data.toList = false := by unfold textL; rw [hv']; rfl
    rw [hv'] at cV
    rw [ht]
    clear hv hv' ht
    go_enter Tryd.func19, Tryd.ntmps19
    go_wp2_with fail
    refine cV.mono ?_; rintro e w1 ⟨rfl, hb1⟩
    clear cV
    go_wp2
    go_ret
    exact ⟨rfl, hb1⟩
end Go.Proofs.YtmajdgmbcgkelaaDoor
