/-
  word.quoted and word.readWord.
-/
import Derived.Test.YtmajdgmbcgkelaaDoorWordU
namespace Go.Proofs.YtmajdgmbcgkelaaDoor
open Go.RowKit
open Go.Lib (decodeL validD encodeRune decodeL_width)

/-- What the readers of words hand back: the word, the byte behind it or of the fault, the error. -/
def resW (N : Nat) : WRes → Array Value
  | .ok w rest => #[.string ⟨w.toArray⟩, .int .i64 ((N - rest.length : Nat) : Int), .int .i64 0]
  | .bad rest c => #[.string ⟨#[]⟩, .int .i64 ((N - rest.length : Nat) : Int), .int .i64 (c : Nat)]

theorem unescGo_ok : ∀ (cs : List Nat) (short : Bool) (l : List UInt8), (∀ c ∈ cs, c < 160) → ((unescGo cs short l).2.2 = 0 → (unescGo cs short l).1 < 160 ∧ 2 ≤ (unescGo cs short l).2.1 ∧ (unescGo cs short l).2.1 ≤ l.length) ∧ ((unescGo cs short l).2.2 = 0 ∨ (unescGo cs short l).2.2 = 2 ∨ (unescGo cs short l).2.2 = 4)
  | [], short, l, _ => by
    cases short <;> simp [unescGo]
  | c :: cs, short, l, h => by
    rw [unescGo_step]
    split
    · exact unescGo_ok cs short l fun x hx => h x (by simp [hx])
    · split
      · rename_i hp
        rw [List.isPrefixOf_iff_prefix] at hp
        exact ⟨fun _ => ⟨h c (by simp), (escF_ne c).1, hp.length_le⟩, .inl rfl⟩
      · exact unescGo_ok cs _ l fun x hx => h x (by simp [hx])
theorem unesc_ok (l : List UInt8) : ((unescL l).2.2 = 0 → (unescL l).1 < 160 ∧ 2 ≤ (unescL l).2.1 ∧ (unescL l).2.1 ≤ l.length) ∧ ((unescL l).2.2 = 0 ∨ (unescL l).2.2 = 2 ∨ (unescL l).2.2 = 4) :=
  unescGo_ok _ _ _ fun c hc => by simpa using hc

theorem head_byte (s : ByteArray) (i : Nat) (h : i < s.size) : byteAt s i = (((s.data.toList.drop i).headD 0).toNat : Int) := by
  have hl : i < s.data.toList.length := by rw [← Lib.size_eq]; exact h
  unfold byteAt
  rw [dif_pos h, List.drop_eq_getElem_cons hl]
  rfl
theorem ext_toList (s : ByteArray) (i j : Nat) : (s.extract i j).data.toList = (s.data.toList.drop i).take (j - i) := by
  simp [ByteArray.data_extract, Array.toList_extract, List.extract_eq_take_drop]
theorem ext_mk (s : ByteArray) (i j : Nat) : s.extract i j = ⟨((s.data.toList.drop i).take (j - i)).toArray⟩ := by
  apply ByteArray.ext
  rw [← ext_toList]

theorem quotedF_step (n : Nat) (out l : List UInt8) (h : l ≠ []) : quotedF (n + 1) out l =
    if l.headD 0 = 34 then (if l.tail ≠ [] ∧ l.tail.headD 0 ≠ 32 then .bad l.tail 4 else .ok out l.tail)
    else if l.headD 0 = 92 then
      (if (unescL l).2.2 = 2 then .bad [] 2 else if (unescL l).2.2 ≠ 0 then .bad l (unescL l).2.2 else quotedF n (out ++ encodeRune ((unescL l).1 : Int)) (l.drop (unescL l).2.1))
    else match plainL l with
      | none => .bad l 4
      | some k => quotedF n (out ++ l.take k) (l.drop k) := by
  show (if l = [] then _ else _) = _
  rw [if_neg h]
  rfl
theorem quotedF_end (n : Nat) (out : List UInt8) : quotedF n out [] = .bad [] 2 := by cases n <;> rfl

set_option maxRecDepth 100000 in
set_option maxHeartbeats 4000000 in
theorem quoted_any (s : ByteArray) (a0 : Nat) (ha0 : a0 < s.size) (w : World) (hs : s.size ≤ 100000000) (hT : Tabs w) :
    Calls Tryd.prog 48 #[.string s, .int .i64 (a0 : Nat)] w fun e w' => e = .returned (.tuple (resW s.size (quotedF (s.size - a0) [] (s.data.toList.drop (a0 + 1))))) ∧ Below w.heap.size w w' := by
  obtain ⟨U, hU⟩ : ∃ U, quotedF (s.size - a0) [] (s.data.toList.drop (a0 + 1)) = U := ⟨_, rfl⟩
  rw [hU]
  have h0 := Lib.hid hU
  clear hU
  have kS := run_slice_str_lo (P := Tryd.prog) 9 Tryd.underlying9 s
  have kL := run_slice_str_lo_hi (P := Tryd.prog) 9 Tryd.underlying9 s
  have kI := fun (j : Nat) (h : j < s.size) (w : World) => run_index_str (P := Tryd.prog) 9 Tryd.underlying9 s (j : Int) j rfl h w
  have hw0 : wrap64 ((a0 : Int) + 1) = (a0 : Int) + 1 := by rw [wrap64]; omega
  have BI := Lib.hid (Lib.IsBuilderF.of (Lib.fresh_isBuilder 42 5 w))
  have BB := Lib.hid ((Below.refl w.heap.size w).alloc (Nat.le_refl _) (.cells #[.pointer none, .slice none 0 0] 42))
  have HKS := Lib.hid kS
  have HKL := Lib.hid kL
  have HKI := Lib.hid kI
  have HT := Lib.hid hT
  clear kS kL kI hT
  go_enter Tryd.func48, Tryd.ntmps48
  go_wp2_with fail
  generalize w.alloc (.cells #[.pointer none, .slice none 0 0] 42) = wa at *
  go_loopw [1] (fun va wr => ∃ (p f : Nat) (acc : List UInt8), p ≤ s.size ∧ va = .int .i64 p ∧ Hid (Lib.IsBuilderF 42 5 w.heap.size w.heap.size (Lib.byteCells acc) wr) ∧ Hid (Below w.heap.size w wr) ∧ Hid (quotedF f acc (s.data.toList.drop p) = U) ∧ Hid (acc.length ≤ 4 * p) ∧ Hid (s.size < p + f)) (fun va _ => s.size - (intOf va).toNat)
  case atStart => exact ⟨a0 + 1, s.size - a0, [], by omega, rfl, BI, BB, h0, Lib.hid (by simp), Lib.hid (by omega)⟩
  case round =>
    obtain ⟨p, f, acc, hp, rfl, HI, HB, HU, HL, HF⟩ := hrel
    clear BI BB h0 hw0
    have hBw := HB.out.size
    have hal := HL.out
    have hfu := HF.out
    have hp64 : (p : Int) ≤ 9223372036854775807 := by omega
    by_cases hlt : p < s.size
    · have hlt' : (p : Int) < (s.size : Int) := by omega
      obtain ⟨m, rfl⟩ : ∃ m, f = m + 1 := ⟨f - 1, by omega⟩
      have hne := drop_ne s p hlt
      have hu := HU.out
      rw [quotedF_step _ _ _ hne] at hu
      have hb := head_byte s p hlt
      have kI := HKI.out p hlt
      rw [hb] at kI
      have TT := HT.out.below HB.out
      have ct : (s.data.toList.drop p).tail = s.data.toList.drop (p + 1) := by rw [List.tail_drop]
      rw [ct] at hu
      have hbd := UInt8.toNat_lt ((s.data.toList.drop p).headD 0)
      obtain ⟨x, hx⟩ : ∃ x : Nat, ((s.data.toList.drop p).headD 0).toNat = x := ⟨_, rfl⟩
      rw [hx] at kI hbd
      have h34 : ((s.data.toList.drop p).headD 0 = 34) = (x = 34) := by
        rw [← hx]; exact propext ⟨fun h => by rw [h]; rfl, fun h => UInt8.toNat_inj.1 (by rw [h]; rfl)⟩
      have h92 : ((s.data.toList.drop p).headD 0 = 92) = (x = 92) := by
        rw [← hx]; exact propext ⟨fun h => by rw [h]; rfl, fun h => UInt8.toNat_inj.1 (by rw [h]; rfl)⟩
      simp only [h34, h92] at hu
      clear h34 h92 hx hb ct
      by_cases hq : x = 34
      · -- the quote's end
        subst hq
        rw [if_pos rfl] at hu
        have hw1 : wrap64 ((p : Int) + 1) = (p : Int) + 1 := by rw [wrap64]; omega
        have hpe : ¬ (p : Int) = (s.size : Int) := by omega
        by_cases hlt2 : p + 1 < s.size
        · have hlt2' : (p : Int) + 1 < (s.size : Int) := by omega
          have hb2 := head_byte s (p + 1) hlt2
          have kI2 : ∀ w, (Instr.index 9 (.string s) (.int .i64 ((p : Int) + 1))).run Tryd.prog w = .ok (.int .u8 (byteAt s (p + 1))) w := HKI.out (p + 1) hlt2
          rw [hb2] at kI2
          have hbd2 := UInt8.toNat_lt ((s.data.toList.drop (p + 1)).headD 0)
          obtain ⟨y, hy⟩ : ∃ y : Nat, ((s.data.toList.drop (p + 1)).headD 0).toNat = y := ⟨_, rfl⟩
          rw [hy] at kI2 hbd2
          have h32 : ((s.data.toList.drop (p + 1)).headD 0 ≠ 32) = (y ≠ 32) := by
            rw [← hy]; exact propext ⟨fun h h' => h (UInt8.toNat_inj.1 (by rw [h']; rfl)), fun h h' => h (by rw [h']; rfl)⟩
          simp only [h32] at hu
          have hne2 := drop_ne s (p + 1) hlt2
          have hlen : s.size - (s.data.toList.drop (p + 1)).length = p + 1 := by rw [List.length_drop, ← Lib.size_eq]; omega
          clear h32 hy hb2
          by_cases hy32 : y = 32
          · subst hy32
            rw [if_neg (by simp)] at hu
            have HU2 := Lib.hid hu
            clear hu TT
            go_wp2_with fail
            refine (Tryd.Builder_String_any_k w.heap.size w.heap.size acc _ HI.out hBw).mono ?_
            rintro e W2 ⟨rfl, _, b5, _⟩
            have hB5 := HB.out.trans b5
            go_wp2
            go_returns
            exact ⟨by rw [← HU2.out]; simp only [resW, hlen]; rfl, hB5⟩
          · have ky : ((y : Int) != 32) = true := by simp; omega
            rw [if_pos ⟨hne2, hy32⟩] at hu
            have HU2 := Lib.hid hu
            clear hu TT
            have hB5 := HB.out
            go_wp2
            go_returns
            exact ⟨by rw [← HU2.out]; simp only [resW, hlen]; rfl, hB5⟩
        · have hlt2' : ¬ (p : Int) + 1 < (s.size : Int) := by omega
          have he2 := drop_end s (p + 1) hlt2
          rw [he2, if_neg (by simp)] at hu
          have HU2 := Lib.hid hu
          have hlen : s.size - ([] : List UInt8).length = p + 1 := by simp; omega
          clear hu TT
          go_wp2_with fail
          refine (Tryd.Builder_String_any_k w.heap.size w.heap.size acc _ HI.out hBw).mono ?_
          rintro e W2 ⟨rfl, _, b5, _⟩
          have hB5 := HB.out.trans b5
          go_wp2
          go_returns
          exact ⟨by rw [← HU2.out]; simp only [resW, hlen]; rfl, hB5⟩
      · have kq : ((x : Int) != 34) = true := by simp; omega
        rw [if_neg hq] at hu
        by_cases hbs : x = 92
        · -- a backslash
          subst hbs
          rw [if_pos rfl] at hu
          have hx2 := HKS.out p (by omega)
          have cU := @unescape_any (s.extract p s.size) wr TT
          have eL : (s.extract p s.size).data.toList = s.data.toList.drop p := by
            rw [ext_toList, List.take_of_length_le (by rw [List.length_drop, ← Lib.size_eq]; omega)]
          rw [eL] at cU
          have hok := unesc_ok (s.data.toList.drop p)
          have hll : (s.data.toList.drop p).length = s.size - p := by rw [List.length_drop, ← Lib.size_eq]
          rw [hll] at hok
          have hlen : s.size - (s.data.toList.drop p).length = p := by rw [hll]; omega
          generalize (unescL (s.data.toList.drop p)).1 = c at *
          generalize (unescL (s.data.toList.drop p)).2.1 = k at *
          obtain ⟨hok1, hok2⟩ := hok
          generalize (unescL (s.data.toList.drop p)).2.2 = z at *
          rcases hok2 with rfl | rfl | rfl
          · obtain ⟨hc, hk2, hk⟩ := hok1 rfl
            clear hll hlen hok1
            have q1 : (Lib.byteCells acc).length + 4 ≤ 140737488355328 := by rw [Lib.byteCells_length]; omega
            have q2 : (-2147483648 : Int) ≤ c := by omega
            have q3 : (c : Int) ≤ 2147483647 := by omega
            have q4 : p + k ≤ s.size := by omega
            have q5' : ∀ er : List UInt8, er.length ≤ 4 → (acc ++ er).length ≤ 4 * (p + k) := by
              intro er h; simp only [List.length_append]; omega
            have q6 : s.size < p + k + m := by omega
            have q7 : s.size - (p + k) < s.size - p := by omega
            have hwk : wrap64 ((p : Int) + (k : Int)) = (p : Int) + (k : Int) := by rw [wrap64]; omega
            have q5 := q5' _ (encR_pos (c : Int)).2
            have hcells := Lib.byteCells_encodeRune (c : Int)
            clear q5'
            rw [if_neg (by decide), if_neg (by decide), List.drop_drop] at hu
            generalize encodeRune (c : Int) = er at *
            have HU2 := Lib.hid hu
            have q4 := Lib.hid q4
            have q5 := Lib.hid q5
            have q6 := Lib.hid q6
            have q7 := Lib.hid q7
            clear hu TT hk2 hk hfu hal hbd
            go_wp2_with fail
            refine cU.mono ?_; rintro e w3 ⟨rfl, hb3⟩
            have HI3 := Lib.hid (builder_below HI.out hb3)
            have HB3 := Lib.hid (HB.out.trans (hb3.mono hBw))
            have hBw3 := HB3.out.size
            clear cU hb3
            go_wp2_with fail
            refine (Tryd.Builder_WriteRune_k w.heap.size w.heap.size _ _ q2 q3 _ HI3.out q1 hBw3).mono ?_
            rintro e W1 ⟨rfl, h1, b1, k1⟩
            have HB4 := Lib.hid (HB3.out.trans b1)
            have HI4 := Lib.hid (show Lib.IsBuilderF 42 5 w.heap.size w.heap.size (Lib.byteCells (acc ++ er)) W1 from by
              rw [Lib.byteCells_append, hcells]; exact .inr h1)
            clear h1 b1 k1 hcells q1 q2 q3 HI3 HB3 hBw3 HI HB HU hx2 eL hc hp64 hlt hlt' hp
            generalize (Lib.runeCells (c : Int)).length = rcl
            go_wp2
            go_roundw
            case rel => exact ⟨p + k, m, acc ++ er, q4.out, by simp, HI4, HB4, HU2, q5, q6⟩
            case measure =>
              have e1 : ((p : Int) + (k : Int)).toNat = p + k := by rw [← Int.natCast_add, Int.toNat_natCast]
              simp only [intOf, e1, Int.toNat_natCast]
              exact q7.out
          · rw [if_pos rfl] at hu
            have HU2 := Lib.hid hu
            have hlen0 : s.size - ([] : List UInt8).length = s.size := by simp
            clear hu TT hok1
            go_wp2_with fail
            refine cU.mono ?_; rintro e w3 ⟨rfl, hb3⟩
            have hB3 := HB.out.trans (hb3.mono hBw)
            go_wp2
            go_returns
            exact ⟨by rw [← HU2.out]; simp only [resW, hlen0]; rfl, hB3⟩
          · rw [if_neg (by decide), if_pos (by decide)] at hu
            have HU2 := Lib.hid hu
            clear hu TT hok1
            go_wp2_with fail
            refine cU.mono ?_; rintro e w3 ⟨rfl, hb3⟩
            have hB3 := HB.out.trans (hb3.mono hBw)
            go_wp2
            go_returns
            exact ⟨by rw [← HU2.out]; simp only [resW, hlen]; rfl, hB3⟩
        · have kb : ((x : Int) == 92) = false := by simp; omega
          rw [if_neg hbs] at hu
          have cP := plain_any s p hlt wr hs TT
          have hlen : s.size - (s.data.toList.drop p).length = p := by rw [List.length_drop, ← Lib.size_eq]; omega
          have HU2 := Lib.hid hu
          clear hu TT
          go_wp2_with fail
          refine cP.mono ?_; rintro e w3 ⟨⟨hn, rfl⟩ | ⟨k, hk, hk1, hk2, rfl⟩, hb3⟩
          · clear cP
            have hB3 := HB.out.trans (hb3.mono hBw)
            have hu := HU2.out
            rw [hn] at hu
            have HU3 := Lib.hid hu
            clear hu hn
            go_wp2
            go_returns
            exact ⟨by rw [← HU3.out]; simp only [resW, hlen]; rfl, hB3⟩
          · clear cP hlen
            have hu := HU2.out
            rw [hk] at hu
            simp only [List.drop_drop] at hu
            have HU3 := Lib.hid hu
            clear hu hk
            have hwk : wrap64 ((p : Int) + (k : Int)) = (p : Int) + (k : Int) := by rw [wrap64]; omega
            have kx : ∀ w, (Instr.slice 9 (.string s) (some (.int .i64 (p : Int))) (some (.int .i64 ((p : Int) + (k : Int)))) none).run Tryd.prog w = .ok (.string (s.extract p (p + k))) w := HKL.out p (p + k) (by omega) hk2
            have hex : s.extract p (p + k) = ⟨((s.data.toList.drop p).take k).toArray⟩ := by rw [ext_mk, Nat.add_sub_cancel_left]
            rw [hex] at kx
            have hlt3 : ((s.data.toList.drop p).take k).length ≤ k := List.length_take_le _ _
            generalize (s.data.toList.drop p).take k = tk at *
            have q1 : (Lib.byteCells acc).length + (⟨tk.toArray⟩ : ByteArray).size ≤ 140737488355328 := by
              rw [Lib.byteCells_length, Lib.size_eq]; simp only; omega
            have q5 : (acc ++ tk).length ≤ 4 * (p + k) := by simp only [List.length_append]; omega
            have q6 : s.size < p + k + m := by omega
            have q7 : s.size - (p + k) < s.size - p := by omega
            have HI3 := Lib.hid (builder_below HI.out hb3)
            have HB3 := Lib.hid (HB.out.trans (hb3.mono hBw))
            have hBw3 := HB3.out.size
            clear hb3 hex
            go_wp2_with fail
            refine (Tryd.Builder_WriteString_k w.heap.size w.heap.size _ _ _ HI3.out q1 hBw3).mono ?_
            rintro e W1 ⟨rfl, h1, b1, k1⟩
            have HB4 := Lib.hid (HB3.out.trans b1)
            have HI4 := Lib.hid (show Lib.IsBuilderF 42 5 w.heap.size w.heap.size (Lib.byteCells (acc ++ tk)) W1 from by
              rw [Lib.byteCells_append]; exact .inr h1)
            clear h1 b1 k1
            go_wp2
            go_roundw
            case rel => exact ⟨p + k, m, acc ++ tk, hk2, by simp, HI4, HB4, HU3, Lib.hid q5, Lib.hid q6⟩
            case measure =>
              have e1 : ((p : Int) + (k : Int)).toNat = p + k := by rw [← Int.natCast_add, Int.toNat_natCast]
              simp only [intOf, e1, Int.toNat_natCast]
              exact q7
    · have hlt' : ¬ (p : Int) < (s.size : Int) := by omega
      have hpe : (p : Int) = (s.size : Int) := by omega
      have hu := HU.out
      rw [drop_end s p hlt, quotedF_end] at hu
      have HU2 := Lib.hid hu
      have hlen0 : s.size - ([] : List UInt8).length = s.size := by simp
      clear hu
      have hB3 := HB.out
      go_wp2
      go_returns
      exact ⟨by rw [← HU2.out]; simp only [resW, hlen0]; rfl, hB3⟩
end Go.Proofs.YtmajdgmbcgkelaaDoor
