/-
  The walk of the statement WordQuotes.
-/
import Derived.Test.YtmajdgmbcgkelaaDoorWordFirst
import Derived.Test.YtmajdgmbcgkelaaDoorWordQuotesP
namespace Go.Proofs.YtmajdgmbcgkelaaDoor
open Go.RowKit
open Go.Lib (decodeL validD encodeRune decodeL_width)

theorem ofB (s : ByteArray) : (⟨s.data.toList.toArray⟩ : ByteArray) = s := by cases s; simp
theorem mkS_of (s : ByteArray) : mkS s.data.toList = s := ofB s
theorem mkS_list (l : List UInt8) : (mkS l).data.toList = l := by simp [mkS]
theorem mkS_size (l : List UInt8) : (mkS l).size = l.length := by rw [Lib.size_eq, mkS_list]
theorem plainAll_cons (r : Nat) (rs : List Nat) : plainAll (r :: rs) = (!escd r && plainAll rs) := by simp [plainAll]
theorem ofNat_toNat (b : UInt8) : ((b.toNat : Nat) : Int) = (b.toNat : Int) := rfl
theorem shown_at (l : List UInt8) (h : ∀ b ∈ l, shownB b) (i : Nat) (hi : i < l.length) : 32 ≤ byteAt (mkS l) i ∧ byteAt (mkS l) i ≠ 127 := by
  have hs : i < (mkS l).size := by rw [mkS_size]; exact hi
  unfold byteAt
  rw [dif_pos hs]
  have e : (mkS l)[i] = l[i] := rfl
  have := h _ (List.getElem_mem hi)
  unfold shownB at this
  rw [e]
  omega

set_option maxRecDepth 100000 in
theorem quotes_early (s : ByteArray) (w : World) (hT : Tabs w) (hs63 : (s.size : Int) ≤ 9223372036854775807) (h : 2000 < s.size ∨ validD s.data.toList = false) :
    Calls Tryd.prog 9 #[.string s] w fun e w' => e = .returned (.bool true) ∧ Below w.heap.size w w' := by
  by_cases h1 : (2000 : Int) < s.size
  · clear h
    go_enter Tryd.func9, Tryd.ntmps9
    go_wp2_with fail
    refine (first_any w hT).mono ?_; rintro e w1 ⟨rfl, hb1⟩
    go_wp2_with fail
    refine (first_any w1 (hT.below hb1)).mono ?_; rintro e w2 ⟨rfl, hb2⟩
    go_wp2_with fail
    go_ret
    exact ⟨rfl, below_size hb1 hb2⟩
  · have hv : validD s.data.toList = false := by rcases h with h | h; omega; exact h
    have cQ := fun (w1 : World) (h : Tabs w1) => quote_any s w1 (by omega) h
    simp only [hv, Bool.false_eq_true, false_and, false_or, true_and] at cQ
    clear h hv
    go_enter Tryd.func9, Tryd.ntmps9
    go_wp2_with fail
    refine (first_any w hT).mono ?_; rintro e w1 ⟨rfl, hb1⟩
    go_wp2_with fail
    refine (cQ w1 (hT.below hb1)).mono ?_; rintro e w2 ⟨rfl, hb2⟩
    have hb12 := below_size hb1 hb2
    go_wp2_with fail
    refine (first_any w2 (hT.below hb12)).mono ?_; rintro e w3 ⟨rfl, hb3⟩
    go_wp2_with fail
    go_ret
    exact ⟨rfl, below_size hb12 hb3⟩

set_option maxRecDepth 100000 in
set_option maxHeartbeats 4000000 in
theorem quotes_good (s : ByteArray) (rs : List Nat) (w : World) (hT : Tabs w) (hs : s.size ≤ 2000) (hok : ∀ r ∈ rs, okR r) (hL : s.data.toList = enc rs) :
    Calls Tryd.prog 9 #[.string s] w fun e w' => e = .returned (.bool true) ∧ Below w.heap.size w w' := by
  have h1 : ¬ (2000 : Int) < s.size := by omega
  have hv : validD s.data.toList = true := by rw [hL]; exact valid_enc rs hok
  have hr : runes s.data.toList = rs := by rw [hL]; exact runes_enc rs hok
  have hrl : rs.length ≤ 2000 := by have := runes_le s.data.toList; rw [hr, ← Lib.size_eq] at this; omega
  have cQ := fun (w1 : World) (h : Tabs w1) => quote_any s w1 (by omega) h
  simp only [hv, hr, Bool.true_eq_false, false_and, or_false, true_and] at cQ
  have hbl := bodyL_len rs
  have hql := quoteL_len rs
  have hsh := shown_at (quoteL rs) (quoteL_shown rs hok)
  have hqs : (mkS (quoteL rs)).size = (bodyL rs).length + 2 := by rw [mkS_size, hql]
  have hos : (mkS (34 :: bodyL rs)).size = (bodyL rs).length + 1 := by rw [mkS_size]; rfl
  have cW := fun (w1 : World) (h : Tabs w1) => words_any (mkS (quoteL rs)) w1 (by omega) h
  have cO := fun (w1 : World) (h : Tabs w1) => words_any (mkS (34 :: bodyL rs)) w1 (by omega) h
  simp only [mkS_list, wordsL_quote rs hok, ansWs] at cW
  simp only [mkS_list, wordsL_open rs hok, ansWs, hos, List.length_nil, Nat.sub_zero] at cO
  have hen : mkS (enc rs) = s := by rw [← hL]; exact mkS_of s
  have hpl : plainAll rs = true → (⟨#[34]⟩ ++ s ++ ⟨#[34]⟩ : ByteArray) = mkS (quoteL rs) := fun h => by
    have e := quoteL_plain rs (fun r hr' => by have := List.all_eq_true.1 h r hr'; simpa using this)
    rw [e, ← hL]
    have e1 : (⟨#[34]⟩ : ByteArray) = ⟨([34] : List UInt8).toArray⟩ := rfl
    have e2 : s = ⟨s.data.toList.toArray⟩ := (ofB s).symm
    conv => lhs; rw [e1, e2, str_app, str_app]
    simp [mkS]
  have hxo : (mkS (quoteL rs)).extract 0 ((bodyL rs).length + 1) = mkS (34 :: bodyL rs) := by
    rw [ext_mk, mkS_list, List.drop_zero, Nat.sub_zero]
    have := quoteL_take rs
    rw [hql, show (bodyL rs).length + 2 - 1 = (bodyL rs).length + 1 by omega] at this
    rw [this]
    rfl
  have hr0 : plainAll (runes (s.data.toList.drop 0)) = plainAll rs := by rw [List.drop_zero, hr]
  have cQ' : ∀ w1, Tabs w1 → Calls Tryd.prog 13 #[.string s] w1 fun e w' => e = .returned (.tuple #[.string (mkS (quoteL rs)), .int .i64 0]) ∧ Below w1.heap.size w1 w' := cQ
  generalize plainAll rs = PA at *
  generalize mkS (quoteL rs) = qs at *
  generalize mkS (34 :: bodyL rs) = os at *
  generalize (bodyL rs).length = N at *
  have HS := Lib.hid hs
  have HSH := Lib.hid hsh
  have HR0 := Lib.hid hr0
  have HPL := Lib.hid hpl
  have HQS := Lib.hid hqs
  have HN := Lib.hid (show N ≤ 12000 by omega)
  have HQL := Lib.hid hql
  have HXO := Lib.hid hxo
  have kI := Lib.hid (fun (j : Nat) (h : j < qs.size) (w : World) => run_index_str (P := Tryd.prog) 9 Tryd.underlying9 qs (j : Int) j rfl h w)
  have HT := Lib.hid hT
  have HEN := Lib.hid hen
  clear hs hok hL hv hr hrl cQ hbl hql hsh hqs hos hpl hr0 hT hen hxo
  go_enter Tryd.func9, Tryd.ntmps9
  go_wp2_with fail
  refine (first_any w HT.out).mono ?_; rintro e w1 ⟨rfl, hb1⟩
  go_wp2_with fail
  refine (cQ' w1 (HT.out.below hb1)).mono ?_; rintro e w2 ⟨rfl, hb2⟩
  have hb12 := Lib.hid (below_size hb1 hb2)
  clear hb1 hb2 cQ'
  have HI := Lib.hid (ItAt.new w2 s)
  go_wp2_with fail
  go_loopw [5] (fun vb wr => ∃ (pos : Nat) (b : Bool), vb = .bool b ∧ Hid (ItAt w2.heap.size w2.heap.size w2 s pos wr) ∧ Hid ((b && plainAll (runes (s.data.toList.drop pos))) = PA)) (fun _ wr => s.size - wr.iterPos w2.heap.size)
  case atStart => exact ⟨0, true, rfl, HI, Lib.hid (by rw [HR0.out]; rfl)⟩
  case round =>
    obtain ⟨pos, b, rfl, IT, HN'⟩ := hrel
    clear HI
    by_cases hp : pos < s.size
    · have hnx : ∀ ty, (Instr.next (.pointer (some ⟨w2.heap.size, 0, none⟩)) true ty).run Tryd.prog wr = _ := fun ty => Lib.run_next_any_at wr w2.heap.size s pos ty IT.out.it hp
      obtain ⟨d1, d2, d3, d4⟩ := dec_at s pos hp
      rw [d1] at hnx
      have hn := HN'.out
      rw [d4, plainAll_cons] at hn
      have hmax := dec_max (s.data.toList.drop pos)
      have IT2 := Lib.hid (IT.out.move (Nat.le_refl _) (pos + (decodeL (s.data.toList.drop pos)).2))
      have hP := IT.out.pos
      have hP2 := IT2.out.pos
      have hpos2 : Hid (s.size - (pos + (decodeL (s.data.toList.drop pos)).2) < s.size - pos) := Lib.hid (by omega)
      clear d4 d1 d2 d3 cW cO hp
      generalize pos + (decodeL (s.data.toList.drop pos)).2 = pos2 at *
      generalize wr.iterAt w2.heap.size s pos2 = wr2 at *
      generalize (decodeL (s.data.toList.drop pos)).1 = r at *
      have HN2 := Lib.hid hn
      clear hn
      cases b with
      | false =>
        go_wp2
        go_roundw
        case rel => exact ⟨pos2, false, rfl, IT2, Lib.hid (by rw [← HN2.out]; rfl)⟩
        case measure => rw [hP, hP2]; exact hpos2.out
      | true =>
        by_cases r32 : (r : Int) < 32
        · have e : escd r = true := by unfold escd hid; simp; omega
          go_wp2
          go_roundw
          case rel => exact ⟨pos2, false, rfl, IT2, Lib.hid (by rw [← HN2.out, e]; rfl)⟩
          case measure => rw [hP, hP2]; exact hpos2.out
        · by_cases r127 : (r : Int) < 127
          · by_cases r34 : r = 34
            · subst r34
              go_wp2
              go_roundw
              case rel => exact ⟨pos2, false, rfl, IT2, Lib.hid (by rw [← HN2.out]; rfl)⟩
              case measure => rw [hP, hP2]; exact hpos2.out
            · have k34 : ((r : Int) != 34) = true := by simp; omega
              by_cases r92 : r = 92
              · subst r92
                go_wp2
                go_roundw
                case rel => exact ⟨pos2, false, rfl, IT2, Lib.hid (by rw [← HN2.out]; rfl)⟩
                case measure => rw [hP, hP2]; exact hpos2.out
              · have k92 : ((r : Int) != 92) = true := by simp; omega
                have e : escd r = false := by unfold escd hid; simp; omega
                go_wp2
                go_roundw
                case rel => exact ⟨pos2, true, rfl, IT2, Lib.hid (by rw [← HN2.out, e]; rfl)⟩
                case measure => rw [hP, hP2]; exact hpos2.out
          · by_cases r159 : (159 : Int) < r
            · have k34 : ((r : Int) != 34) = true := by simp; omega
              have k92 : ((r : Int) != 92) = true := by simp; omega
              have e : escd r = false := by unfold escd hid; simp; omega
              go_wp2
              go_roundw
              case rel => exact ⟨pos2, true, rfl, IT2, Lib.hid (by rw [← HN2.out, e]; rfl)⟩
              case measure => rw [hP, hP2]; exact hpos2.out
            · have e : escd r = true := by unfold escd hid; simp; omega
              go_wp2
              go_roundw
              case rel => exact ⟨pos2, false, rfl, IT2, Lib.hid (by rw [← HN2.out, e]; rfl)⟩
              case measure => rw [hP, hP2]; exact hpos2.out
    · have hnx : ∀ ty, (Instr.next (.pointer (some ⟨w2.heap.size, 0, none⟩)) true ty).run Tryd.prog wr = _ := fun ty => Lib.run_next_end_at wr w2.heap.size s pos ty IT.out.it hp
      have hn := HN'.out
      rw [drop_end s pos hp, runes_nil, show plainAll [] = true from rfl, Bool.and_true] at hn
      subst hn
      have HB3 := Lib.hid (below_size hb12.out IT.out.bel)
      clear IT HN' hp
      go_wp2_with fail
      go_loopw [8] (fun vi wi => ∃ i : Nat, vi = .int .i64 i ∧ wi = wr ∧ Hid (i ≤ qs.size)) (fun vi _ => qs.size - (intOf vi).toNat)
      case atStart => exact ⟨0, rfl, rfl, Lib.hid (Nat.zero_le _)⟩
      case round =>
        obtain ⟨i, rfl, rfl, HIL⟩ := hrel
        by_cases hi : i < qs.size
        · have hsh := HSH.out i (by rw [HQL.out]; have := HQS.out; omega)
          have ki := kI.out i hi
          have hx : ¬ byteAt qs i < 32 := by omega
          have hy : (byteAt qs i == 127) = false := by simp; omega
          have hi' : (i : Int) < (qs.size : Int) := by omega
          have q1 := Lib.hid (show i + 1 ≤ qs.size by omega)
          have q2 := Lib.hid (show qs.size - (i + 1) < qs.size - i by omega)
          have hi64 : (i : Int) + 1 ≤ 9223372036854775807 := by have := HQS.out; have := HN.out; omega
          clear hsh cW cO hi
          generalize byteAt qs i = x at *
          go_wp2
          go_roundw
          case rel => exact ⟨i + 1, by simp, trivial, q1⟩
          case measure =>
            have e1 : ((i : Int) + 1).toNat = i + 1 := by omega
            simp only [intOf, e1, Int.toNat_natCast]
            exact q2.out
        · have hi' : ¬ (i : Int) < (qs.size : Int) := by omega
          clear hi HIL
          go_wp2_with fail
          refine (cW _ (HT.out.below HB3.out)).mono ?_; rintro e w4 ⟨⟨a, cap, rfl, ho⟩, hb4⟩
          have hS := owns_strs ho
          have HB4 := Lib.hid (below_size HB3.out hb4)
          simp only [List.length_cons, List.length_nil, List.map_cons, List.map_nil, Nat.zero_add, HEN.out] at hS ⊢
          clear ho hb4 cW
          have hq2 : ¬ (qs.size : Int) < 2 := by have := HQS.out; omega
          have hq3 : (qs.size : Int) - 1 = ((N + 1 : Nat) : Int) := by have := HQS.out; omega
          have hq4 : (qs.size : Int) ≤ 9223372036854775807 := by have := HQS.out; have := HN.out; omega
          go_wp2_with fail
          rw [HXO.out]
          refine (cO _ (HT.out.below HB4.out)).mono ?_; rintro e w5 ⟨rfl, hb5⟩
          have HB5 := Lib.hid (below_size HB4.out hb5)
          have hS5 := hS.below hb5
          clear hb5 cO hS
          go_wp2_with fail
          refine (first_any _ (HT.out.below HB5.out)).mono ?_; rintro e w6 ⟨rfl, hb6⟩
          have HB6 := Lib.hid (below_size HB5.out hb6)
          have hS6 := hS5.below hb6
          clear hb6 hS5
          go_wp2_with fail
          have bA : Below w6.heap.size w6 (w6.alloc (.cells #[.string s] 9)) := (Below.refl _ _).alloc (Nat.le_refl _) _
          have hY : Strs (w6.alloc (.cells #[.string s] 9)) (some ⟨w6.heap.size, 0, none⟩) 1 1 [s] := readsA_alloc ByteArray.empty w6 [s] _ _ _ rfl (show 1 ≤ maxLen by decide) 1 rfl
          refine (texts_any _ _ _ _ _ _ _ _ _ (hS6.below bA) hY).mono ?_; rintro e w7 ⟨rfl, hb7⟩
          rw [decide_eq_true rfl]
          have hB7 := below_size HB6.out (below_size bA hb7)
          clear bA hY hS6 hb7
          cases b with
          | false =>
            go_wp2_with fail
            go_ret
            exact ⟨rfl, hB7⟩
          | true =>
            have hcat := HPL.out rfl
            have hsz : (s.size : Int) ≤ 2000 := by have := HS.out; omega
            have hqq := str_eq qs
            go_wp2_with fail
            go_ret
            exact ⟨rfl, hB7⟩

theorem walk_WordQuotes (s : ByteArray) (w : World) (hT : Tabs w) (hs : s.size ≤ maxLen) :
    Calls Tryd.prog 9 #[.string s] w fun e w' => e = .returned (.bool true) ∧ Below w.heap.size w w' := by
  have hs63 : (s.size : Int) ≤ 9223372036854775807 := by unfold maxLen at hs; omega
  by_cases h : 2000 < s.size ∨ validD s.data.toList = false
  · exact quotes_early s w hT hs63 h
  · have hv : validD s.data.toList = true := by
      cases hv : validD s.data.toList with
      | true => rfl
      | false => exact absurd (.inr hv) h
    obtain ⟨rs, hok, hL⟩ := signs_of _ hv
    exact quotes_good s rs w hT (by omega) hok hL
end Go.Proofs.YtmajdgmbcgkelaaDoor
