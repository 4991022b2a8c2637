/-
  word.escape and word.Quote.
-/
import Derived.Test.YtmajdgmbcgkelaaDoorWordB
import Derived.Test.YtmajdgmbcgkelaaDoorWordF
namespace Go.Proofs.YtmajdgmbcgkelaaDoor
open Go.RowKit
open Go.Lib (decodeL validD encodeRune decodeL_width)

theorem builder_below {T e : TypeId} {B b : Nat} {bs : List Value} {w w' : World} (h : Lib.IsBuilderF T e B b bs w) (hb : Below w.heap.size w w') : Lib.IsBuilderF T e B b bs w' := by
  have k : ∀ p, Lib.BuilderAtF T e B b p bs w → Lib.BuilderAtF T e B b p bs w' := fun p h => by
    have hlt := h.lt
    obtain ⟨hB, v, hc, hown, hne⟩ := h
    exact ⟨hB, v, (hb.block b hlt).trans hc, hown.kept (row := .none) ⟨hb.os, hb.tape, hb.output, hb.size, fun k hk _ => hb.block k hk⟩ (by cases hv : v.ownBlock <;> simp), hne⟩
  exact h.elim (fun x => .inl (k _ x)) (fun x => .inr (k _ x))

theorem str_app (a b : List UInt8) : (⟨a.toArray⟩ ++ ⟨b.toArray⟩ : ByteArray) = ⟨(a ++ b).toArray⟩ := by
  apply ByteArray.ext
  simp

set_option maxRecDepth 100000 in
theorem escape_any (c : Nat) (he : escd c = true) (w : World) (hT : Tabs w) :
    Calls Tryd.prog 29 #[.int .i32 (c : Nat)] w fun e w' => e = .returned (.string ⟨(escF c).toArray⟩) ∧ Below w.heap.size w w' := by
  have hc := escd_lt c he
  by_cases h34 : c = 34
  · subst h34
    go_enter Tryd.func29, Tryd.ntmps29
    go_wp2
    go_ret
    exact ⟨rfl, Below.refl _ _⟩
  · by_cases h92 : c = 92
    · subst h92
      go_enter Tryd.func29, Tryd.ntmps29
      go_wp2
      go_ret
      exact ⟨rfl, Below.refl _ _⟩
    · by_cases h10 : c = 10
      · subst h10
        go_enter Tryd.func29, Tryd.ntmps29
        go_wp2
        go_ret
        exact ⟨rfl, Below.refl _ _⟩
      · have k1 : ((c : Int) == 34) = false := by simp; omega
        have k2 : ((c : Int) == 92) = false := by simp; omega
        have k3 : ((c : Int) == 10) = false := by simp; omega
        have hw : IntKind.i64.wrap (c : Int) = c := by rw [IntKind.wrap_i64]; omega
        have hF : (⟨#[92, 117, 123]⟩ ++ ⟨(hexF c).toArray⟩ ++ ⟨#[125]⟩ : ByteArray) = ⟨(escF c).toArray⟩ := by
          have e1 : (⟨#[92, 117, 123]⟩ : ByteArray) = ⟨([92, 117, 123] : List UInt8).toArray⟩ := rfl
          have e2 : (⟨#[125]⟩ : ByteArray) = ⟨([125] : List UInt8).toArray⟩ := rfl
          rw [e1, e2, str_app, str_app]
          unfold escF
          rw [if_neg h34, if_neg h92, if_neg h10]
        have hl : (hexF c).length ≤ 2 := by unfold hexF; split <;> simp
        go_enter Tryd.func29, Tryd.ntmps29
        go_wp2_with fail
        refine (fmt_any c (by omega) w hT).mono ?_; rintro e w1 ⟨rfl, hb⟩
        go_wp2
        go_ret
        exact ⟨by rw [← hF]; rfl, hb⟩

theorem body_cons (r : Nat) (rs : List Nat) : bodyL (r :: rs) = bodyC r ++ bodyL rs := by simp [bodyL]

set_option maxRecDepth 100000 in
set_option maxHeartbeats 2000000 in
theorem quote_any (s : ByteArray) (w : World) (hs : s.size ≤ 100000000) (hT : Tabs w) :
    Calls Tryd.prog 13 #[.string s] w fun e w' => (validD s.data.toList = true ∧ e = .returned (.tuple #[.string ⟨(quoteL (runes s.data.toList)).toArray⟩, .int .i64 0]) ∨ validD s.data.toList = false ∧ e = .returned (.tuple #[.string ⟨#[]⟩, .int .i64 4])) ∧ Below w.heap.size w w' := by
  have cV := Tryd.utf8_ValidString s w (by omega) hT.u8
  by_cases hv : validD s.data.toList = true
  · rw [hv] at cV
    have HV := Lib.hid hv
    clear hv
    go_enter Tryd.func13, Tryd.ntmps13
    go_wp2_with fail
    refine cV.mono ?_; rintro e w1 ⟨rfl, hb1⟩
    clear cV
    have BI := Lib.IsBuilderF.of (Lib.fresh_isBuilder 42 5 w1)
    have BB := (Below.refl w1.heap.size w1).alloc (Nat.le_refl _) (.cells #[.pointer none, .slice none 0 0] 42)
    have TT := Lib.hid (hT.below hb1)
    have HB1 := Lib.hid hb1
    clear hT hb1
    go_wp2_with fail
    generalize w1.alloc (.cells #[.pointer none, .slice none 0 0] 42) = wa at *
    refine (Tryd.Builder_WriteByte_k w1.heap.size w1.heap.size _ 34 _ BI (by simp) BB.size).mono ?_
    rintro e w2 ⟨rfl, h2, b2, k2⟩
    have BI2 := Lib.hid (show Lib.IsBuilderF 42 5 w1.heap.size w1.heap.size (Lib.byteCells [34]) w2 from .inr h2)
    have BB2 := Lib.hid (BB.trans b2)
    have hk := h2.lt
    clear BI BB h2 b2 k2
    go_wp2
    have IT0 := Lib.hid (World.iter_heap w2 s 0)
    go_loopw [] (fun wr => ∃ (pos : Nat) (acc : List UInt8), pos ≤ s.size ∧ Hid (Lib.IsBuilderF 42 5 w1.heap.size w1.heap.size (Lib.byteCells acc) wr) ∧ Hid (wr.heap[w2.heap.size]? = some (.stringIter s pos)) ∧ Hid (Below w1.heap.size w1 wr) ∧ Hid (acc ++ (bodyL (runes (s.data.toList.drop pos)) ++ [34]) = quoteL (runes s.data.toList)) ∧ Hid (acc.length ≤ 6 * pos + 1)) (fun wr => s.size - wr.iterPos w2.heap.size)
    case atStart =>
      exact ⟨0, [34], Nat.zero_le _, Lib.hid (BI2.out.alloc _), IT0, Lib.hid (BB2.out.alloc BB2.out.size _), Lib.hid (by rw [List.drop_zero]; rfl), Lib.hid (by simp)⟩
    case round =>
      obtain ⟨pos, acc, hps, HI, IT, HB, HN, HL⟩ := hrel
      clear BI2 BB2 IT0
      have hsz : w2.heap.size < wr.heap.size := (Array.getElem?_eq_some_iff.1 IT.out).1
      have hBw := HB.out.size
      by_cases hp : pos < s.size
      · have hnx : ∀ ty, (Instr.next (.pointer (some ⟨w2.heap.size, 0, none⟩)) true ty).run Tryd.prog wr = _ := fun ty => Lib.run_next_any_at wr w2.heap.size s pos ty IT.out hp
        obtain ⟨d1, d2, d3, d4⟩ := dec_at s pos hp
        rw [d1] at hnx
        have hmax := dec_max (s.data.toList.drop pos)
        have hn := HN.out
        rw [d4, body_cons, List.append_assoc, ← List.append_assoc] at hn
        have hpos2 : pos < pos + (decodeL (s.data.toList.drop pos)).2 := by omega
        have HI2 := Lib.hid (HI.out.iterAt IT.out (pos + (decodeL (s.data.toList.drop pos)).2))
        have IT2 := Lib.hid (Lib.iterAt_heap wr w2.heap.size s pos (pos + (decodeL (s.data.toList.drop pos)).2) IT.out)
        have HB2 := Lib.hid (Lib.below_iterAt HB.out (k := w2.heap.size) (Nat.le_of_lt hk) s (pos + (decodeL (s.data.toList.drop pos)).2))
        have hBw2 := HB2.out.size
        have TT2 := Lib.hid ((TT.out).below HB2.out)
        have hP : wr.iterPos w2.heap.size = pos := by simp [World.iterPos, IT.out]
        have hbl := bodyC_len (decodeL (s.data.toList.drop pos)).1
        clear d4 d1 d2
        generalize pos + (decodeL (s.data.toList.drop pos)).2 = pos2 at *
        generalize wr.iterAt w2.heap.size s pos2 = wr2 at *
        generalize (decodeL (s.data.toList.drop pos)).1 = r at *
        have HN2 := Lib.hid hn
        have hal := HL.out
        clear hn
        cases he : escd r
        · have hbc : bodyC r = encodeRune (r : Int) := by unfold bodyC; rw [he]; rfl
          rw [hbc] at HN2 hbl
          go_wp2_with fail
          refine (escaped_any r wr2).mono ?_; rintro e w3 ⟨rfl, rfl⟩
          rw [he]
          clear he
          go_wp2_with fail
          refine (Tryd.Builder_WriteRune_k w1.heap.size w1.heap.size _ _ (by omega) (by omega) _ HI2.out (by rw [Lib.byteCells_length]; omega) hBw2).mono ?_
          rintro e W1 ⟨rfl, h1, b1, k1⟩
          have IT3 := k1.iter IT2.out (by omega)
          have hP2 : W1.iterPos w2.heap.size = pos2 := by simp [World.iterPos, IT3]
          have HB3 := Lib.hid (HB2.out.trans b1)
          have HI3 := Lib.hid (show Lib.IsBuilderF 42 5 w1.heap.size w1.heap.size (Lib.byteCells (acc ++ encodeRune (r : Int))) W1 from by
            rw [Lib.byteCells_append, Lib.byteCells_encodeRune]; exact .inr h1)
          have IT3' := Lib.hid IT3
          clear h1 b1 k1 IT3
          go_wp2
          go_roundw
          case rel => exact ⟨pos2, acc ++ encodeRune (r : Int), d3, HI3, IT3', HB3, HN2, Lib.hid (by simp only [List.length_append]; omega)⟩
          case measure => rw [hP, hP2]; omega
        · have hbc : bodyC r = escF r := by unfold bodyC; rw [he]; rfl
          rw [hbc] at HN2 hbl
          have cE := escape_any r he wr2 TT2.out
          go_wp2_with fail
          refine (escaped_any r wr2).mono ?_; rintro e w3 ⟨rfl, rfl⟩
          rw [he]
          clear he
          go_wp2_with fail
          refine cE.mono ?_; rintro e w4 ⟨rfl, hb4⟩
          clear cE
          have HI4 := Lib.hid (builder_below HI2.out hb4)
          have IT4 := Lib.hid ((hb4.block _ (Array.getElem?_eq_some_iff.1 IT2.out).1).trans IT2.out)
          have HB4 := Lib.hid (HB2.out.trans (hb4.mono hBw2))
          have hBw4 := HB4.out.size
          clear hb4
          go_wp2_with fail
          refine (Tryd.Builder_WriteString_k w1.heap.size w1.heap.size _ _ _ HI4.out (by rw [Lib.byteCells_length]; simp only [Lib.size_eq]; omega) hBw4).mono ?_
          rintro e W1 ⟨rfl, h1, b1, k1⟩
          have IT3 := k1.iter IT4.out (by omega)
          have hP2 : W1.iterPos w2.heap.size = pos2 := by simp [World.iterPos, IT3]
          have HB3 := Lib.hid (HB4.out.trans b1)
          have HI3 := Lib.hid (show Lib.IsBuilderF 42 5 w1.heap.size w1.heap.size (Lib.byteCells (acc ++ escF r)) W1 from by
            rw [Lib.byteCells_append]; exact .inr h1)
          have IT3' := Lib.hid IT3
          clear h1 b1 k1 IT3
          go_wp2
          go_roundw
          case rel => exact ⟨pos2, acc ++ escF r, d3, HI3, IT3', HB3, HN2, Lib.hid (by simp only [List.length_append]; omega)⟩
          case measure => rw [hP, hP2]; omega
      · have hnx : ∀ ty, (Instr.next (.pointer (some ⟨w2.heap.size, 0, none⟩)) true ty).run Tryd.prog wr = _ := fun ty => Lib.run_next_end_at wr w2.heap.size s pos ty IT.out hp
        have hn := HN.out
        rw [drop_end s pos hp, runes_nil, show bodyL [] = [] from rfl, List.nil_append] at hn
        have HN2 := Lib.hid hn
        have hal := HL.out
        clear hn
        go_wp2_with fail
        refine (Tryd.Builder_WriteByte_k w1.heap.size w1.heap.size _ 34 _ HI.out (by rw [Lib.byteCells_length]; omega) hBw).mono ?_
        rintro e W1 ⟨rfl, h1, b1, k1⟩
        have HB3 := HB.out.trans b1
        have HI3 : Lib.IsBuilderF 42 5 w1.heap.size w1.heap.size (Lib.byteCells (acc ++ [34])) W1 := by
          rw [Lib.byteCells_append]; exact .inr h1
        have hBw3 := HB3.size
        go_wp2_with fail
        refine (Tryd.Builder_String_any_k w1.heap.size w1.heap.size (acc ++ [34]) _ HI3 hBw3).mono ?_
        rintro e W2 ⟨rfl, _, b5, _⟩
        have HB5 := HB3.trans b5
        rw [HN2.out]
        go_wp2
        go_ret2
        exact ⟨.inl ⟨HV.out, rfl⟩, below_size HB1.out HB5⟩
  · have hv' : validD s.data.toList = false := by simpa using hv
    rw [hv'] at cV
    have HV := Lib.hid hv'
    clear hv hv'
    go_enter Tryd.func13, Tryd.ntmps13
    go_wp2_with fail
    refine cV.mono ?_; rintro e w1 ⟨rfl, hb1⟩
    clear cV
    go_wp2
    go_ret2
    exact ⟨.inr ⟨HV.out, rfl⟩, hb1⟩
end Go.Proofs.YtmajdgmbcgkelaaDoor
