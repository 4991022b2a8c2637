/-
  word.readWord.
-/
import Derived.Test.YtmajdgmbcgkelaaDoorWordV
namespace Go.Proofs.YtmajdgmbcgkelaaDoor
open Go.RowKit
open Go.Lib (decodeL validD encodeRune decodeL_width)

theorem bareF_step (n : Nat) (l : List UInt8) : bareF (n + 1) l = if l = [] ∨ l.headD 0 = 32 then .ok [] l else match plainL l with
      | none => .bad l 4
      | some k => if l.headD 0 = 34 then .bad l 4 else bareF n (l.drop k) := rfl
theorem bareF_end (n : Nat) : bareF n [] = .ok [] [] := by cases n <;> rfl

theorem plain_le (l : List UInt8) (hne : l ≠ []) (k : Nat) (h : plainL l = some k) : 1 ≤ k ∧ k ≤ l.length := by
  unfold plainL at h
  split at h
  · cases h
  · cases h
    exact ⟨decodeL_width l, dec_le l hne⟩

theorem bareF_rest : ∀ (n : Nat) (l : List UInt8), (∀ w r, bareF n l = .ok w r → ∃ j, j ≤ l.length ∧ r = l.drop j) ∧ (∀ r c, bareF n l = .bad r c → c ≠ 0 ∧ ∃ j, j ≤ l.length ∧ r = l.drop j)
  | 0, l => by
    refine ⟨fun w r h => ?_, fun r c h => ?_⟩
    · injection h with _ h; exact ⟨0, Nat.zero_le _, by rw [← h]; rfl⟩
    · cases h
  | n + 1, l => by
    rw [bareF_step]
    split
    · refine ⟨fun w r h => ?_, fun r c h => by cases h⟩
      injection h with _ h; exact ⟨0, Nat.zero_le _, by rw [← h]; rfl⟩
    · rename_i hc
      have hne : l ≠ [] := fun e => hc (.inl e)
      split
      · refine ⟨fun w r h => (by cases h), fun r c h => ?_⟩
        injection h with h1 h2; exact ⟨by omega, 0, Nat.zero_le _, by rw [← h1]; rfl⟩
      · rename_i k hk
        obtain ⟨hk1, hk2⟩ := plain_le l hne k hk
        split
        · refine ⟨fun w r h => (by cases h), fun r c h => ?_⟩
          injection h with h1 h2; exact ⟨by omega, 0, Nat.zero_le _, by rw [← h1]; rfl⟩
        · obtain ⟨i1, i2⟩ := bareF_rest n (l.drop k)
          refine ⟨fun w r h => ?_, fun r c h => ?_⟩
          · obtain ⟨j, hj, e⟩ := i1 w r h
            rw [List.length_drop] at hj
            exact ⟨k + j, by omega, by rw [e, List.drop_drop]⟩
          · obtain ⟨hc, j, hj, e⟩ := i2 r c h
            rw [List.length_drop] at hj
            exact ⟨hc, k + j, by omega, by rw [e, List.drop_drop]⟩

theorem quotedF_rest : ∀ (n : Nat) (out l : List UInt8), (∀ w r, quotedF n out l = .ok w r → ∃ j, j ≤ l.length ∧ r = l.drop j) ∧ (∀ r c, quotedF n out l = .bad r c → c ≠ 0 ∧ ∃ j, j ≤ l.length ∧ r = l.drop j)
  | 0, out, l => by
    refine ⟨fun w r h => (by cases h), fun r c h => ?_⟩
    injection h with h1 h2; exact ⟨by omega, 0, Nat.zero_le _, by rw [← h1]; rfl⟩
  | n + 1, out, l => by
    by_cases hne : l = []
    · subst hne
      rw [quotedF_end]
      refine ⟨fun w r h => (by cases h), fun r c h => ?_⟩
      injection h with h1 h2; exact ⟨by omega, 0, Nat.zero_le _, by rw [← h1]; rfl⟩
    · have hl : 0 < l.length := List.length_pos_iff.2 hne
      rw [quotedF_step n out l hne]
      split
      · split
        · refine ⟨fun w r h => (by cases h), fun r c h => ?_⟩
          injection h with h1 h2; exact ⟨by omega, 1, hl, by rw [← h1, List.drop_one]⟩
        · refine ⟨fun w r h => ?_, fun r c h => by cases h⟩
          injection h with _ h1; exact ⟨1, hl, by rw [← h1, List.drop_one]⟩
      · split
        · split
          · refine ⟨fun w r h => (by cases h), fun r c h => ?_⟩
            injection h with h1 h2; exact ⟨by omega, l.length, Nat.le_refl _, by rw [← h1]; simp⟩
          · split
            · rename_i hz
              refine ⟨fun w r h => (by cases h), fun r c h => ?_⟩
              injection h with h1 h2; exact ⟨by rw [← h2]; exact hz, 0, Nat.zero_le _, by rw [← h1]; rfl⟩
            · rename_i hz
              have hz' : (unescL l).2.2 = 0 := by omega
              obtain ⟨_, hk1, hk2⟩ := (unesc_ok l).1 hz'
              obtain ⟨i1, i2⟩ := quotedF_rest n (out ++ encodeRune ((unescL l).1 : Int)) (l.drop (unescL l).2.1)
              refine ⟨fun w r h => ?_, fun r c h => ?_⟩
              · obtain ⟨j, hj, e⟩ := i1 w r h
                rw [List.length_drop] at hj
                exact ⟨(unescL l).2.1 + j, by omega, by rw [e, List.drop_drop]⟩
              · obtain ⟨hc, j, hj, e⟩ := i2 r c h
                rw [List.length_drop] at hj
                exact ⟨hc, (unescL l).2.1 + j, by omega, by rw [e, List.drop_drop]⟩
        · split
          · refine ⟨fun w r h => (by cases h), fun r c h => ?_⟩
            injection h with h1 h2; exact ⟨by omega, 0, Nat.zero_le _, by rw [← h1]; rfl⟩
          · rename_i k hk
            obtain ⟨hk1, hk2⟩ := plain_le l hne k hk
            obtain ⟨i1, i2⟩ := quotedF_rest n (out ++ l.take k) (l.drop k)
            refine ⟨fun w r h => ?_, fun r c h => ?_⟩
            · obtain ⟨j, hj, e⟩ := i1 w r h
              rw [List.length_drop] at hj
              exact ⟨k + j, by omega, by rw [e, List.drop_drop]⟩
            · obtain ⟨hc, j, hj, e⟩ := i2 r c h
              rw [List.length_drop] at hj
              exact ⟨hc, k + j, by omega, by rw [e, List.drop_drop]⟩

/-- What a reader of a word leaves. -/
theorem readL_rest (l : List UInt8) (hne : l ≠ []) (h32 : l.headD 0 ≠ 32) : (∀ w r, readL l = .ok w r → ∃ j, 1 ≤ j ∧ j ≤ l.length ∧ r = l.drop j) ∧ (∀ r c, readL l = .bad r c → c ≠ 0 ∧ ∃ j, j ≤ l.length ∧ r = l.drop j) := by
  have hl : 0 < l.length := List.length_pos_iff.2 hne
  unfold readL
  split
  · obtain ⟨i1, i2⟩ := quotedF_rest l.length [] l.tail
    have ht : l.tail.length = l.length - 1 := List.length_tail
    have et : ∀ j, l.tail.drop j = l.drop (1 + j) := fun j => by rw [← List.drop_one, List.drop_drop]
    refine ⟨fun w r h => ?_, fun r c h => ?_⟩
    · obtain ⟨j, hj, e⟩ := i1 w r h
      exact ⟨1 + j, by omega, by omega, by rw [e, et]⟩
    · obtain ⟨hc, j, hj, e⟩ := i2 r c h
      exact ⟨hc, 1 + j, by omega, by rw [e, et]⟩
  · rename_i h34
    obtain ⟨m, hm⟩ : ∃ m, l.length = m + 1 := ⟨l.length - 1, by omega⟩
    have hb : ∀ w r, bareF l.length l = .ok w r → ∃ j, 1 ≤ j ∧ j ≤ l.length ∧ r = l.drop j := by
      rw [hm, bareF_step, if_neg (by rintro (h | h); exact hne h; exact h32 h)]
      split
      · intro w r h; cases h
      · rename_i k hk
        obtain ⟨hk1, hk2⟩ := plain_le l hne k hk
        rw [if_neg h34]
        intro w r h
        obtain ⟨j, hj, e⟩ := (bareF_rest m (l.drop k)).1 w r h
        rw [List.length_drop] at hj
        exact ⟨k + j, by omega, by omega, by rw [e, List.drop_drop]⟩
    have i2 := (bareF_rest l.length l).2
    cases hB : bareF l.length l with
    | ok w rest =>
      refine ⟨fun w' r h => ?_, fun r c h => by cases h⟩
      injection h with _ h
      rw [← h]
      exact hb w rest hB
    | bad rest c =>
      refine ⟨fun w' r h => (by cases h), fun r c' h => ?_⟩
      injection h with h1 h2
      subst h1; subst h2
      exact i2 _ _ hB

/-- What bareF's answer makes of a word that begins at a0. -/
def bareR (l : List UInt8) : WRes → WRes
  | .ok _ rest => .ok (l.take (l.length - rest.length)) rest
  | .bad rest c => .bad rest c
theorem readL_bare (l : List UInt8) (h : l.headD 0 ≠ 34) : readL l = bareR l (bareF l.length l) := by
  unfold readL
  rw [if_neg h]
  cases bareF l.length l <;> rfl

set_option maxRecDepth 100000 in
set_option maxHeartbeats 4000000 in
theorem readWord_any (s : ByteArray) (a0 : Nat) (ha0 : a0 < s.size) (w : World) (hs : s.size ≤ 100000000) (hT : Tabs w) :
    Calls Tryd.prog 39 #[.string s, .int .i64 (a0 : Nat)] w fun e w' => e = .returned (.tuple (resW s.size (readL (s.data.toList.drop a0)))) ∧ Below w.heap.size w w' := by
  have kL := Lib.hid (run_slice_str_lo_hi (P := Tryd.prog) 9 Tryd.underlying9 s)
  have kI := Lib.hid (fun (j : Nat) (h : j < s.size) (w : World) => run_index_str (P := Tryd.prog) 9 Tryd.underlying9 s (j : Int) j rfl h w)
  have hll : (s.data.toList.drop a0).length = s.size - a0 := by rw [List.length_drop, ← Lib.size_eq]
  have hb := head_byte s a0 ha0
  have ki := kI.out a0 ha0
  rw [hb] at ki
  have hne := drop_ne s a0 ha0
  obtain ⟨x, hx⟩ : ∃ x : Nat, ((s.data.toList.drop a0).headD 0).toNat = x := ⟨_, rfl⟩
  rw [hx] at ki
  have h34 : ((s.data.toList.drop a0).headD 0 = 34) = (x = 34) := by
    rw [← hx]; exact propext ⟨fun h => by rw [h]; rfl, fun h => UInt8.toNat_inj.1 (by rw [h]; rfl)⟩
  by_cases hq : x = 34
  · subst hq
    have hr : readL (s.data.toList.drop a0) = quotedF (s.size - a0) [] (s.data.toList.drop (a0 + 1)) := by
      unfold readL
      rw [if_pos (by rw [h34]), hll, List.tail_drop]
    rw [hr]
    have cQ := quoted_any s a0 ha0 w hs hT
    generalize quotedF (s.size - a0) [] (s.data.toList.drop (a0 + 1)) = U at *
    have a0' : (a0 : Int) < s.size := by omega
    clear hr h34 hne hll hb hs
    cases U with
    | ok w0 rest =>
      simp only [resW] at cQ ⊢
      go_enter Tryd.func39, Tryd.ntmps39
      go_wp2_with fail
      refine cQ.mono ?_; rintro e w1 ⟨rfl, hb1⟩
      go_wp2
      go_returns
      exact ⟨rfl, hb1⟩
    | bad rest c =>
      simp only [resW] at cQ ⊢
      go_enter Tryd.func39, Tryd.ntmps39
      go_wp2_with fail
      refine cQ.mono ?_; rintro e w1 ⟨rfl, hb1⟩
      go_wp2
      go_returns
      exact ⟨rfl, hb1⟩
  · have kq : ((x : Int) == 34) = false := by simp; omega
    have hr := readL_bare (s.data.toList.drop a0) (by rw [ne_eq, h34]; exact hq)
    rw [hr, hll]
    obtain ⟨U, hU⟩ : ∃ U, bareF (s.size - a0) (s.data.toList.drop a0) = U := ⟨_, rfl⟩
    rw [hU]
    have h0 := Lib.hid hU
    have HLL := Lib.hid hll
    have HA := Lib.hid ha0
    have HS := Lib.hid hs
    have HT := Lib.hid hT
    have a0' : (a0 : Int) < s.size := by omega
    clear hU hr h34 hb hx hne hll
    go_enter Tryd.func39, Tryd.ntmps39
    go_wp2_with fail
    go_loopw [1] (fun va wr => ∃ (p f : Nat), va = .int .i64 p ∧ Hid (a0 ≤ p ∧ p ≤ s.size) ∧ Hid (Below w.heap.size w wr) ∧ Hid (bareF f (s.data.toList.drop p) = U) ∧ Hid (s.size ≤ p + f)) (fun va _ => s.size - (intOf va).toNat)
    case atStart => exact ⟨a0, s.size - a0, rfl, Lib.hid ⟨Nat.le_refl _, by omega⟩, Lib.hid (Below.refl _ _), h0, Lib.hid (by omega)⟩
    case round =>
      obtain ⟨p, f, rfl, HP, HB, HU, HF⟩ := hrel
      clear h0 ki kq hq hs ha0 a0' hT
      by_cases hlt : p < s.size
      · obtain ⟨hp0, hps⟩ := HP.out
        have hfu := HF.out
        obtain ⟨m, rfl⟩ : ∃ m, f = m + 1 := ⟨f - 1, by omega⟩
        have hu := HU.out
        rw [bareF_step] at hu
        have hb := head_byte s p hlt
        have ki := kI.out p hlt
        rw [hb] at ki
        have hne := drop_ne s p hlt
        obtain ⟨x, hx⟩ : ∃ x : Nat, ((s.data.toList.drop p).headD 0).toNat = x := ⟨_, rfl⟩
        rw [hx] at ki
        have h34 : ((s.data.toList.drop p).headD 0 = 34) = (x = 34) := by
          rw [← hx]; exact propext ⟨fun h => by rw [h]; rfl, fun h => UInt8.toNat_inj.1 (by rw [h]; rfl)⟩
        have h32 : ((s.data.toList.drop p).headD 0 = 32) = (x = 32) := by
          rw [← hx]; exact propext ⟨fun h => by rw [h]; rfl, fun h => UInt8.toNat_inj.1 (by rw [h]; rfl)⟩
        simp only [h34, h32, hne, false_or] at hu
        have hlt' : (p : Int) < (s.size : Int) := by omega
        have hlen : s.size - (s.data.toList.drop p).length = p := by rw [List.length_drop, ← Lib.size_eq]; omega
        have hlen2 : s.size - a0 - (s.data.toList.drop p).length = p - a0 := by rw [List.length_drop, ← Lib.size_eq]; omega
        have hk64 : (p : Int) ≤ 9223372036854775807 := by have := HS.out; omega
        have hlen := Lib.hid hlen
        have hlen2 := Lib.hid hlen2
        have kx := kL.out a0 p hp0 hps
        rw [ext_mk] at kx
        clear h34 h32 hx hb hne
        by_cases hb32 : x = 32
        · subst hb32
          rw [if_pos rfl] at hu
          have HU2 := Lib.hid hu
          have hB := HB.out
          clear hu hfu hp0 hps
          go_wp2
          go_returns
          exact ⟨by rw [← HU2.out]; simp only [resW, bareR, hlen.out, hlen2.out, HLL.out]; rfl, hB⟩
        · have k32 : ((x : Int) != 32) = true := by simp; omega
          rw [if_neg hb32] at hu
          have cP := plain_any s p hlt wr HS.out (HT.out.below HB.out)
          have HU2 := Lib.hid hu
          have HP4 := Lib.hid (show a0 ≤ p ∧ s.size ≤ p + (m + 1) ∧ p < s.size from ⟨hp0, hfu, hlt⟩)
          clear hu hfu hp0 hps hlt
          go_wp2_with fail
          refine cP.mono ?_; rintro e w3 ⟨⟨hn, rfl⟩ | ⟨k, hk, hk1, hk2, rfl⟩, hb3⟩
          · have hB3 := below_size HB.out hb3
            have hu := HU2.out
            rw [hn] at hu
            have HU3 := Lib.hid hu
            clear hu hn cP hb3
            go_wp2
            go_returns
            exact ⟨by rw [← HU3.out]; simp only [resW, bareR, hlen.out]; rfl, hB3⟩
          · have hB3 := below_size HB.out hb3
            have hu := HU2.out
            rw [hk] at hu
            simp only [List.drop_drop] at hu
            clear hk cP hb3
            by_cases hb34 : x = 34
            · subst hb34
              rw [if_pos rfl] at hu
              have HU3 := Lib.hid hu
              clear hu hk1 hk2
              go_wp2
              go_returns
              exact ⟨by rw [← HU3.out]; simp only [resW, bareR, hlen.out]; rfl, hB3⟩
            · have k34 : ((x : Int) == 34) = false := by simp; omega
              rw [if_neg hb34] at hu
              have HU3 := Lib.hid hu
              have q1 := Lib.hid (show a0 ≤ p + k ∧ p + k ≤ s.size from ⟨by have := HP4.out; omega, hk2⟩)
              have q2 := Lib.hid (show s.size ≤ p + k + m by have := HP4.out; omega)
              have q3 := Lib.hid (show s.size - (p + k) < s.size - p by have := HP4.out; omega)
              have hpk : (p : Int) + (k : Int) ≤ 9223372036854775807 := by have := HS.out; omega
              have HB3 := Lib.hid hB3
              clear hu hk1 hk2 hB3 hb34 hb32 hk64
              go_wp2
              go_roundw
              case rel => exact ⟨p + k, m, by simp, q1, HB3, HU3, q2⟩
              case measure =>
                have e1 : ((p : Int) + (k : Int)).toNat = p + k := by rw [← Int.natCast_add, Int.toNat_natCast]
                simp only [intOf, e1, Int.toNat_natCast]
                exact q3.out
      · obtain ⟨hp0, hps⟩ := HP.out
        have hlt' : ¬ (p : Int) < (s.size : Int) := by omega
        have hu := HU.out
        rw [drop_end s p hlt, bareF_end] at hu
        have HU2 := Lib.hid hu
        have hpe : p = s.size := by omega
        have kx := kL.out a0 p hp0 hps
        rw [ext_mk] at kx
        have hB := HB.out
        have hlen0 : s.size - ([] : List UInt8).length = p := by simp; omega
        have hlen2 : s.size - a0 - ([] : List UInt8).length = p - a0 := by simp; omega
        have hlen0 := Lib.hid hlen0
        have hlen2 := Lib.hid hlen2
        clear hu hpe
        go_wp2
        go_returns
        exact ⟨by rw [← HU2.out]; simp only [resW, bareR, hlen0.out, hlen2.out, HLL.out]; rfl, hB⟩
end Go.Proofs.YtmajdgmbcgkelaaDoor
