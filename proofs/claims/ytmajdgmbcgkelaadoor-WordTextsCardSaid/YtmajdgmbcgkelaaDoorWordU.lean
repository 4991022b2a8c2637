/-
  word.plain and word.unescape.
-/
import Derived.Test.YtmajdgmbcgkelaaDoorWordQ
import Derived.Lib.RuneCountTail
import Derived.Handy
namespace Go.Proofs.YtmajdgmbcgkelaaDoor
open Go.RowKit
open Go.Lib (decodeL validD encodeRune decodeL_width)

theorem run_slice_str_lo {P : Program} (t : TypeId) (ht : P.underlying t = some .string) (s : ByteArray) (k : Nat) (h : k ≤ s.size) (w : World) :
    (Instr.slice t (.string s) (some (.int .i64 (k : Int))) none none).run P w = .ok (.string (s.extract k s.size)) w := by
  simp [Instr.slice, run_underlying ht, Instr.sliceBounds, run_sliceBound, h]
theorem run_slice_str_lo_hi {P : Program} (t : TypeId) (ht : P.underlying t = some .string) (s : ByteArray) (k m : Nat) (h : k ≤ m) (h' : m ≤ s.size) (w : World) :
    (Instr.slice t (.string s) (some (.int .i64 (k : Int))) (some (.int .i64 (m : Int))) none).run P w = .ok (.string (s.extract k m)) w := by
  simp [Instr.slice, run_underlying ht, Instr.sliceBounds, run_sliceBound, h, h']

theorem decodeGo_at (s : ByteArray) (at' : Nat) (h : at' < s.size) : Lib.decodeGo (s.extract at' s.size) = decodeL (s.data.toList.drop at') := by
  unfold Lib.decodeGo
  rw [if_neg (by rw [Lib.tail_size]; omega), Lib.tail_decode, Nat.add_zero, Lib.decodeL_drop]

set_option maxRecDepth 100000 in
set_option maxHeartbeats 1000000 in
theorem plain_any (s : ByteArray) (at' : Nat) (hat : at' < s.size) (w : World) (hs : s.size ≤ 100000000) (hT : Tabs w) :
    Calls Tryd.prog 38 #[.string s, .int .i64 (at' : Nat)] w fun e w' => (plainL (s.data.toList.drop at') = none ∧ e = .returned (.tuple #[.int .i64 0, .int .i64 4]) ∨ (∃ k, plainL (s.data.toList.drop at') = some k ∧ 1 ≤ k ∧ at' + k ≤ s.size ∧ e = .returned (.tuple #[.int .i64 (k : Nat), .int .i64 0]))) ∧ Below w.heap.size w w' := by
  have kS := run_slice_str_lo (P := Tryd.prog) 9 Tryd.underlying9 s at' (by omega)
  have cD := Tryd.utf8_DecodeRuneInString (s.extract at' s.size) w hT.u8
  rw [decodeGo_at s at' hat] at cD
  obtain ⟨_, d2, d3, _⟩ := dec_at s at' hat
  have HP := Lib.hid (show plainL (s.data.toList.drop at') = if ((decodeL (s.data.toList.drop at')).1 = 65533 ∧ (decodeL (s.data.toList.drop at')).2 = 1) ∨ hid (decodeL (s.data.toList.drop at')).1 = true then none else some (decodeL (s.data.toList.drop at')).2 from rfl)
  generalize (decodeL (s.data.toList.drop at')).1 = R at *
  generalize (decodeL (s.data.toList.drop at')).2 = K at *
  by_cases hb : R = 65533 ∧ K = 1
  · obtain ⟨rfl, rfl⟩ := hb
    go_enter Tryd.func38, Tryd.ntmps38
    go_wp2_with fail
    refine cD.mono ?_; rintro e w1 ⟨rfl, hb1⟩
    go_wp2
    go_ret2
    exact ⟨.inl ⟨by rw [HP.out, if_pos (.inl (by simp))], rfl⟩, hb1⟩
  · have hH : ∀ b, hid R = b → (b = true → plainL (s.data.toList.drop at') = none) ∧ (b = false → plainL (s.data.toList.drop at') = some K) := by
      intro b e
      rw [HP.out]
      constructor
      · intro e2; rw [if_pos (.inr (e.trans e2))]
      · intro e2; rw [if_neg]; rintro (h | h)
        · exact hb h
        · rw [e, e2] at h; cases h
    have HH := Lib.hid hH
    clear hH
    have fin : ∀ (Q : Prop), ((((R : Int) == 65533) = false → Q) ∧ (((R : Int) == 65533) = true → ((K : Int) == 1) = false → Q)) → Q := by
      intro Q h
      by_cases hr : R = 65533
      · exact h.2 (by simp [hr]) (by simp; omega)
      · exact h.1 (by simp; omega)
    apply fin
    constructor
    · intro k1
      go_enter Tryd.func38, Tryd.ntmps38
      go_wp2_with fail
      refine cD.mono ?_; rintro e w1 ⟨rfl, hb1⟩
      go_wp2_with fail
      refine (hidden_any R w1).mono ?_; rintro e w2 ⟨rfl, rfl⟩
      cases hh : hid R
      · go_wp2
        go_ret2
        exact ⟨.inr ⟨K, (HH.out _ hh).2 rfl, d2, d3, rfl⟩, hb1⟩
      · go_wp2
        go_ret2
        exact ⟨.inl ⟨(HH.out _ hh).1 rfl, rfl⟩, hb1⟩
    · intro k1 k2
      go_enter Tryd.func38, Tryd.ntmps38
      go_wp2_with fail
      refine cD.mono ?_; rintro e w1 ⟨rfl, hb1⟩
      go_wp2_with fail
      refine (hidden_any R w1).mono ?_; rintro e w2 ⟨rfl, rfl⟩
      cases hh : hid R
      · go_wp2
        go_ret2
        exact ⟨.inr ⟨K, (HH.out _ hh).2 rfl, d2, d3, rfl⟩, hb1⟩
      · go_wp2
        go_ret2
        exact ⟨.inl ⟨(HH.out _ hh).1 rfl, rfl⟩, hb1⟩

theorem range_drop (c : Nat) (h : c < 160) : (List.range 160).drop c = c :: (List.range 160).drop (c + 1) := by
  rw [List.drop_eq_getElem_cons (by simpa using h)]
  simp
theorem unescGo_step (c : Nat) (cs : List Nat) (short : Bool) (l : List UInt8) : unescGo (c :: cs) short l = if escd c = false then unescGo cs short l else if (escF c).isPrefixOf l then (c, (escF c).length, 0) else unescGo cs (short || l.isPrefixOf (escF c)) l := rfl

set_option maxRecDepth 100000 in
set_option maxHeartbeats 1000000 in
theorem unescape_any (s : ByteArray) (w : World) (hT : Tabs w) :
    Calls Tryd.prog 55 #[.string s] w fun e w' => e = .returned (.tuple #[.int .i32 ((unescL s.data.toList).1 : Nat), .int .i64 ((unescL s.data.toList).2.1 : Nat), .int .i64 ((unescL s.data.toList).2.2 : Nat)]) ∧ Below w.heap.size w w' := by
  have h0 := Lib.hid (show unescGo ((List.range 160).drop 0) false s.data.toList = unescL s.data.toList from rfl)
  generalize unescL s.data.toList = U at *
  go_enter Tryd.func55, Tryd.ntmps55
  go_wp2
  go_loopw [5, 6] (fun vs vc wr => ∃ (c : Nat) (short : Bool), c ≤ 160 ∧ vs = .bool short ∧ vc = .int .i32 c ∧ Hid (unescGo ((List.range 160).drop c) short s.data.toList = U) ∧ Hid (Below w.heap.size w wr)) (fun _ vc _ => 160 - (intOf vc).toNat)
  case atStart => exact ⟨0, false, by omega, rfl, rfl, h0, Lib.hid (Below.refl _ _)⟩
  case round =>
    obtain ⟨c, short, hc, rfl, rfl, HU, HB⟩ := hrel
    clear h0
    by_cases hlt : c < 160
    · have hle : (c : Int) ≤ 159 := by omega
      have hw : IntKind.i32.wrap ((c : Int) + 1) = c + 1 := by rw [IntKind.wrap_i32]; omega
      have hu := HU.out
      rw [range_drop c hlt, unescGo_step] at hu
      have TT := hT.below HB.out
      cases he : escd c
      · rw [if_pos he] at hu
        have HU2 := Lib.hid hu
        clear hu TT
        go_wp2_with fail
        refine (escaped_any c wr).mono ?_; rintro e w3 ⟨rfl, rfl⟩
        rw [he]
        clear he
        go_wp2
        go_roundw
        case rel => exact ⟨c + 1, short, by omega, rfl, by simp, HU2, HB⟩
        case measure => simp [intOf]; omega
      · rw [if_neg (by rw [he]; simp)] at hu
        have cE := escape_any c he wr TT
        have cP := fun w1 => Tryd.strings_HasPrefix s ⟨(escF c).toArray⟩ w1
        have cP2 := fun w1 => Tryd.strings_HasPrefix ⟨(escF c).toArray⟩ s w1
        have hF := escF_ne c
        have eP : Lib.hasPrefix s.data.toList (⟨(escF c).toArray⟩ : ByteArray).data.toList = (escF c).isPrefixOf s.data.toList := rfl
        have eP2 : Lib.hasPrefix (⟨(escF c).toArray⟩ : ByteArray).data.toList s.data.toList = s.data.toList.isPrefixOf (escF c) := rfl
        simp only [eP] at cP
        simp only [eP2] at cP2
        clear eP eP2
        cases hp : (escF c).isPrefixOf s.data.toList
        · rw [hp] at cP
          rw [if_neg (by rw [hp]; simp)] at hu
          have HU2 := Lib.hid hu
          clear hu TT hp
          go_wp2_with fail
          refine (escaped_any c wr).mono ?_; rintro e w3 ⟨rfl, rfl⟩
          rw [he]
          clear he
          go_wp2_with fail
          refine cE.mono ?_; rintro e w4 ⟨rfl, hb4⟩
          have HB4 := Lib.hid (below_size HB.out hb4)
          clear cE hb4
          go_wp2_with fail
          refine (cP w4).mono ?_; rintro e w5 ⟨rfl, rfl⟩
          cases short
          · go_wp2_with fail
            refine (cP2 w5).mono ?_; rintro e w6 ⟨rfl, rfl⟩
            go_wp2
            go_roundw
            case rel => exact ⟨c + 1, _, by omega, rfl, by simp, HU2, HB4⟩
            case measure => simp [intOf]; omega
          · go_wp2
            go_roundw
            case rel => exact ⟨c + 1, true, by omega, rfl, by simp, HU2, HB4⟩
            case measure => simp [intOf]; omega
        · rw [hp] at cP
          rw [if_pos hp] at hu
          have HU2 := Lib.hid hu
          clear hu TT hp cP2
          have hsz : (⟨(escF c).toArray⟩ : ByteArray).size = (escF c).length := by rw [Lib.size_eq]
          go_wp2_with fail
          refine (escaped_any c wr).mono ?_; rintro e w3 ⟨rfl, rfl⟩
          rw [he]
          clear he
          go_wp2_with fail
          refine cE.mono ?_; rintro e w4 ⟨rfl, hb4⟩
          have HB4 := Lib.hid (below_size HB.out hb4)
          clear cE hb4
          go_wp2_with fail
          refine (cP w4).mono ?_; rintro e w5 ⟨rfl, rfl⟩
          go_wp2
          go_returns
          exact ⟨by rw [← HU2.out]; rfl, HB4.out⟩
    · have hle : ¬ (c : Int) ≤ 159 := by omega
      have hu := HU.out
      rw [show c = 160 by omega] at hu
      have e : (List.range 160).drop 160 = [] := rfl
      rw [e] at hu
      have HU2 := Lib.hid hu
      clear hu e
      cases short
      · go_wp2
        go_returns
        exact ⟨by rw [← HU2.out]; rfl, HB.out⟩
      · go_wp2
        go_returns
        exact ⟨by rw [← HU2.out]; rfl, HB.out⟩
end Go.Proofs.YtmajdgmbcgkelaaDoor
