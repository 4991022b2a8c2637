/-
  The reference's sign at every place, control, signs, Count, Clip.
-/
import Derived.Test.YtmajdgmbcgkelaaDoorWordHx
namespace Go.Proofs.YtmajdgmbcgkelaaDoor
open Go.RowKit
open Go.Lib (decodeL decodeN validD encodeRune decodeL_width)

set_option maxRecDepth 100000 in
set_option maxHeartbeats 1000000 in
theorem sign_any (s : ByteArray) (a : Nat) (ha : a < s.size) (hs : s.size ≤ 100000000) (w : World) :
    Calls Tryd.prog 32 #[.string s, .int .i64 (a : Nat)] w fun e w' => e = .returned (.tuple (signR (decodeL (s.data.toList.drop a)))) ∧ w' = w := by
  rw [Lib.decodeL_drop, Lib.decode_N, ← Lib.size_eq]
  have ub : ∀ i, (s.data.toList.getD i 0).toNat < 256 := fun i => UInt8.toNat_lt _
  have ki := fun (j : Nat) (h : j < s.size) (w : World) => run_index_str (P := Tryd.prog) 9 Tryd.underlying9 s (j : Int) j rfl h w
  have k0 : ∀ w, (Instr.index 9 (.string s) (.int .i64 (a : Int))).run Tryd.prog w = .ok (.int .u8 ((s.data.toList.getD a 0).toNat : Nat)) w := fun w => by rw [ki a ha w, byteAt_list s a ha]
  have kj : ∀ j : Nat, j < s.size - a → ∀ w, (Instr.index 9 (.string s) (.int .i64 ((a : Int) + (j : Int)))).run Tryd.prog w = .ok (.int .u8 ((s.data.toList.getD (a + j) 0).toNat : Nat)) w := fun j hj w => by
    have h := ki (a + j) (by omega) w
    rw [byteAt_list s (a + j) (by omega)] at h
    rw [← h]
    simp
  have k1 := kj 1
  have k2 := kj 2
  have k3 := kj 3
  have u0 := ub a
  have u1 := ub (a + 1)
  have u2 := ub (a + 2)
  have u3 := ub (a + 3)
  generalize (s.data.toList.getD a 0).toNat = b0 at *
  generalize (s.data.toList.getD (a + 1) 0).toNat = b1 at *
  generalize (s.data.toList.getD (a + 2) 0).toNat = b2 at *
  generalize (s.data.toList.getD (a + 3) 0).toNat = b3 at *
  by_cases c1 : b0 < 128
  · rw [Go.Lib.decodeN_ascii _ _ _ _ _ c1, signR_ok _ _ (by omega)]
    have f0 : (b0 : Int) < 128 := by omega
    clear k1 k2 k3 kj ki ub
    go_enter Tryd.func32, Tryd.ntmps32
    go_wp2
    go_returns
    exact ⟨rfl, rfl⟩
  · by_cases c2 : 192 ≤ b0 ∧ b0 ≤ 223
    · exact sign_2 s a _ b0 b1 b2 b3 rfl ha (by omega) c2 u1 u2 u3 k0 k1 k2 k3 w
    · by_cases c3 : 224 ≤ b0 ∧ b0 ≤ 239
      · exact sign_3 s a _ b0 b1 b2 b3 rfl ha (by omega) c3 u1 u2 u3 k0 k1 k2 k3 w
      · by_cases c4 : 240 ≤ b0 ∧ b0 ≤ 247
        · exact sign_4 s a _ b0 b1 b2 b3 rfl ha (by omega) c4 u1 u2 u3 k0 k1 k2 k3 w
        · rw [dn_bad _ _ _ _ _ (by omega), signR_bad]
          have f0 : ¬ (b0 : Int) < 128 := by omega
          clear k1 k2 k3 kj ki ub
          by_cases c5 : b0 < 192
          · have f1 : ¬ (192 : Int) ≤ b0 := by omega
            have f2 : ¬ (224 : Int) ≤ b0 := by omega
            have f3 : ¬ (240 : Int) ≤ b0 := by omega
            go_enter Tryd.func32, Tryd.ntmps32
            go_wp2
            go_returns
            exact ⟨rfl, rfl⟩
          · have f1 : (192 : Int) ≤ b0 := by omega
            have f2 : (224 : Int) ≤ b0 := by omega
            have f3 : (240 : Int) ≤ b0 := by omega
            have f4 : ¬ (b0 : Int) ≤ 223 := by omega
            have f5 : ¬ (b0 : Int) ≤ 239 := by omega
            have f6 : ¬ (b0 : Int) ≤ 247 := by omega
            go_enter Tryd.func32, Tryd.ntmps32
            go_wp2
            go_returns
            exact ⟨rfl, rfl⟩

theorem control_any (c : Nat) (w : World) : Calls Tryd.prog 37 #[.int .i64 (c : Nat)] w fun e w' => e = .returned (.bool (hid c)) ∧ w' = w := by
  by_cases h1 : (c : Int) < 32
  · have e : hid c = true := by unfold hid; simp; omega
    rw [e]
    go_enter Tryd.func37, Tryd.ntmps37
    go_wp2
    go_ret
    exact ⟨rfl, rfl⟩
  · by_cases h2 : (127 : Int) ≤ c
    · by_cases h3 : (c : Int) ≤ 159
      · have e : hid c = true := by unfold hid; simp; omega
        rw [e]
        go_enter Tryd.func37, Tryd.ntmps37
        go_wp2
        go_ret
        exact ⟨rfl, rfl⟩
      · have e : hid c = false := by unfold hid; simp; omega
        rw [e]
        go_enter Tryd.func37, Tryd.ntmps37
        go_wp2
        go_ret
        exact ⟨rfl, rfl⟩
    · have e : hid c = false := by unfold hid; simp; omega
      rw [e]
      go_enter Tryd.func37, Tryd.ntmps37
      go_wp2
      go_ret
      exact ⟨rfl, rfl⟩

def intL (rs : List Nat) : List Int := rs.map fun (r : Nat) => (r : Int)

set_option maxRecDepth 100000 in
set_option maxHeartbeats 2000000 in
theorem rsigns_any (s : ByteArray) (w : World) (hs : s.size ≤ 5000) :
    Calls Tryd.prog 25 #[.string s] w fun e w' => (validD s.data.toList = true ∧ (∃ a cap, e = .returned (.tuple #[.slice a (runes s.data.toList).length cap, .bool true]) ∧ Reads .i64 w' a (runes s.data.toList).length cap (intL (runes s.data.toList))) ∨ validD s.data.toList = false ∧ e = .returned (.tuple #[.slice none 0 0, .bool false])) ∧ Below w.heap.size w w' := by
  obtain ⟨i0, hi, hz0, hz1, hz2⟩ := info_parts infoN
  have Hi := Lib.hid hi; have Hz0 := Lib.hid hz0; have Hz1 := Lib.hid hz1; have Hz2 := Lib.hid hz2
  have HS := Lib.hid hs
  clear hi hz0 hz1 hz2 hs
  go_enter Tryd.func25, Tryd.ntmps25
  go_wp2
  go_loopw [4, 5] (fun vo vp wr => ∃ (p : Nat) (acc : List Nat) (a : Option Addr) (cap : Nat), vp = .int .i64 p ∧ vo = .slice a acc.length cap ∧ Hid (p ≤ s.size) ∧ Hid (acc.length ≤ p) ∧ Hid (wr.ownsRow w.heap.size 3 1 (.slice a acc.length cap) acc.length ((intL acc).map (Value.int .i64))) ∧ Hid (Below w.heap.size w wr) ∧ Hid (acc ++ runes (s.data.toList.drop p) = runes s.data.toList) ∧ Hid (validD (s.data.toList.drop p) = validD s.data.toList)) (fun _ vp _ => s.size - (intOf vp).toNat)
  case atStart => exact ⟨0, [], none, 0, rfl, rfl, Lib.hid (Nat.zero_le _), Lib.hid (Nat.zero_le _), Lib.hid (World.ownsRow_nil _ _ _ _), Lib.hid (Below.refl _ _), Lib.hid (by rw [List.drop_zero]; rfl), Lib.hid (by rw [List.drop_zero])⟩
  case round =>
    obtain ⟨p, acc, a, cap, rfl, rfl, HP, HA, HO, HB, HR, HV⟩ := hrel
    by_cases hp : p < s.size
    · have hp' : (p : Int) < s.size := by omega
      obtain ⟨d1, d2, d3, d4⟩ := dec_at s p hp
      have hne := drop_ne s p hp
      have hv := HV.out
      rw [Lib.validD_step _ hne] at hv
      have cS := sign_any s p hp (by have := HS.out; omega) wr
      have hr := HR.out
      rw [d4] at hr
      by_cases hbad : (decodeL (s.data.toList.drop p)).1 = 65533 ∧ (decodeL (s.data.toList.drop p)).2 = 1
      · rw [if_pos hbad] at hv
        have e : decodeL (s.data.toList.drop p) = (65533, 1) := Prod.ext hbad.1 hbad.2
        rw [e, signR_bad] at cS
        have HVV := Lib.hid hv
        have hB := HB.out
        clear hv hbad e d1 d2 d3 d4 hne hr hp
        go_wp2_with fail
        refine cS.mono ?_; rintro e w3 ⟨rfl, rfl⟩
        go_wp2
        go_ret2
        exact ⟨.inr ⟨HVV.out.symm, rfl⟩, hB⟩
      · rw [if_neg hbad, List.drop_drop] at hv
        have e : signR (decodeL (s.data.toList.drop p)) = #[.int .i64 ((decodeL (s.data.toList.drop p)).1 : Nat), .int .i64 ((decodeL (s.data.toList.drop p)).2 : Nat), .bool true] := signR_ok _ _ hbad
        rw [e] at cS
        have hmax := dec_max (s.data.toList.drop p)
        generalize (decodeL (s.data.toList.drop p)).1 = r at *
        generalize (decodeL (s.data.toList.drop p)).2 = k at *
        have HVV := Lib.hid hv
        have HRR : Hid ((acc ++ [r]) ++ runes (s.data.toList.drop (p + k)) = runes s.data.toList) := Lib.hid (by rw [List.append_assoc]; exact hr)
        have q1 := Lib.hid (show p + k ≤ s.size from d3)
        have q2 := Lib.hid (show (acc ++ [r]).length ≤ p + k by have := HA.out; simp only [List.length_append, List.length_cons, List.length_nil]; omega)
        have q3 := Lib.hid (show s.size - (p + k) < s.size - p by omega)
        have q5 := Lib.hid (show acc.length ≤ 5000 by have := HA.out; have := HS.out; omega)
        have hpk : (p : Int) + (k : Int) ≤ 5000 := by have := HS.out; omega
        have hBw := HB.out.size
        clear hv hbad e d1 d2 d3 d4 hne hr hp hmax
        go_wp2_with fail
        refine cS.mono ?_; rintro e w3 ⟨rfl, rfl⟩
        clear cS
        go_wp2_with (at_builtin; refine wpList_append_reads _ rfl _ _ 36 rfl w.heap.size 3 i0 (.int .i64 0) 8 Tryd.underlying36 Hi.out Hz0.out Hz1.out Hz2.out rfl .i64 a acc.length cap (intL acc) rfl (owns_below HO.out ((Below.refl _ _).alloc (Nat.le_refl _) _)) (some ⟨w3.heap.size, 0, none⟩) 1 1 [(r : Int)] rfl (reads_alloc w3 [(r : Int)] #[.int .i64 (r : Int)] _ _ rfl (show 1 ≤ maxLen by decide) 1 rfl) (by have := q5.out; unfold maxLen; omega) (by have := q5.out; omega) (by simp; omega) ?_)
        intro a5 cap5 w5 ho5 hg5 hn5
        have HB5 := Lib.hid (below_grown (HB.out.alloc hBw _) (owns_below HO.out ((Below.refl _ _).alloc (Nat.le_refl _) _)) hg5 (Nat.le_refl _) (by simp; omega))
        have HO5 : Hid (w5.ownsRow w.heap.size 3 1 (.slice a5 (acc ++ [r]).length cap5) (acc ++ [r]).length ((intL (acc ++ [r])).map (Value.int .i64))) := Lib.hid (by
          have e : intL (acc ++ [r]) = intL acc ++ [(r : Int)] := by simp [intL]
          rw [e, List.length_append, List.length_cons, List.length_nil, Nat.zero_add, List.map_append, List.map_cons, List.map_nil]
          exact ho5)
        clear ho5 hg5 hn5
        go_wp2
        go_roundw
        case rel => exact ⟨p + k, acc ++ [r], a5, cap5, by simp, by simp, q1, q2, HO5, HB5, HRR, HVV⟩
        case measure =>
          have e1 : ((p : Int) + (k : Int)).toNat = p + k := by rw [← Int.natCast_add, Int.toNat_natCast]
          simp only [intOf, e1, Int.toNat_natCast]
          exact q3.out
    · have hp' : ¬ (p : Int) < s.size := by omega
      have hr := HR.out
      have hv := HV.out
      rw [drop_end s p hp, runes_nil, List.append_nil] at hr
      rw [drop_end s p hp, Lib.validD_nil] at hv
      have HRR := Lib.hid hr
      have HVV := Lib.hid hv
      have hB := HB.out
      have hO := Lib.hid (reads_of_owns HO.out)
      clear hr hv hp
      go_wp2
      go_ret2
      exact ⟨.inl ⟨HVV.out.symm, a, cap, by rw [← HRR.out]; rfl, by rw [← HRR.out]; exact hO.out⟩, hB⟩
end Go.Proofs.YtmajdgmbcgkelaaDoor
