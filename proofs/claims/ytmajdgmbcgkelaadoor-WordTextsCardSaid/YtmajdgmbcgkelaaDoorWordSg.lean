/-
  The reference's sign: what its decoder reads at a place is what Go's reads.
-/
import Derived.Test.YtmajdgmbcgkelaaDoorWordU
namespace Go.Proofs.YtmajdgmbcgkelaaDoor
open Go.RowKit
open Go.Lib (decodeL decodeN validD encodeRune decodeL_width)

/-- What the reference's sign hands back. -/
def signR (d : Nat × Nat) : Array Value := if d.1 = 65533 ∧ d.2 = 1 then #[.int .i64 0, .int .i64 0, .bool false] else #[.int .i64 (d.1 : Nat), .int .i64 (d.2 : Nat), .bool true]
theorem signR_bad : signR (65533, 1) = #[.int .i64 0, .int .i64 0, .bool false] := by unfold signR; rw [if_pos ⟨rfl, rfl⟩]
theorem signR_ok (r k : Nat) (h : ¬ (r = 65533 ∧ k = 1)) : signR (r, k) = #[.int .i64 (r : Nat), .int .i64 (k : Nat), .bool true] := by unfold signR; rw [if_neg h]

theorem and_i64m (i : Nat) (hi : i ≤ 63) (x : Nat) (h : x < 2 ^ 63) (M : Int) (hM : M = 2 ^ i - 1) : bits .and .i64 (x : Int) M = ((x % 2 ^ i : Nat) : Int) := by
  rw [hM, mask_i64 i hi x (by omega) (by exact_mod_cast h)]
  norm_cast
theorem and_u8m (x : Nat) (h : x < 256) : bits .and .u8 (x : Int) 63 = ((x % 64 : Nat) : Int) := by
  have e : (63 : Int) = 2 ^ 6 - 1 := by decide
  rw [e, bits_mask .u8 8 (by decide) (fun n h₀ h₁ => by rw [IntKind.wrap_u8]; omega) 6 (by decide) x (by omega) (by omega)]
  omega
theorem or_64 (c y : Nat) (hc : c < 2097152) (hy : y < 64) : bits .or .i64 ((c : Int) * 64) (y : Int) = ((c * 64 + y : Nat) : Int) := by
  rw [or_join_i64 6 _ _ (by omega) (by omega) (by omega) (by omega) (by omega) (by omega)]
  omega

theorem head_byteV (s : ByteArray) (i : Nat) (h : i < s.size) : byteAt s i = (((s.data.toList.drop i).headD 0).toNat : Int) := by
  have hl : i < s.data.toList.length := by rw [← Lib.size_eq]; exact h
  unfold byteAt
  rw [dif_pos h, List.drop_eq_getElem_cons hl]
  rfl
theorem byteAt_list (s : ByteArray) (k : Nat) (hk : k < s.size) : byteAt s k = ((s.data.toList.getD k 0).toNat : Int) := by
  have hl : k < s.data.toList.length := by rw [← Lib.size_eq]; exact hk
  rw [head_byteV s k hk, List.drop_eq_getElem_cons hl, List.headD_cons, List.getD_eq_getElem?_getD, List.getElem?_eq_getElem hl]
  rfl

set_option maxRecDepth 100000 in
theorem dn_bad (n b0 b1 b2 b3 : Nat) (h : (128 ≤ b0 ∧ b0 < 192) ∨ 248 ≤ b0) : decodeN n b0 b1 b2 b3 = (65533, 1) := by
  unfold decodeN
  rw [if_neg (by omega), if_neg (by omega), if_neg (by omega), if_neg (by omega)]
set_option maxRecDepth 100000 in
theorem dn_2 (n b0 b1 b2 b3 : Nat) (h0 : 192 ≤ b0 ∧ b0 ≤ 223) : decodeN n b0 b1 b2 b3 = if 1 < n ∧ b1 / 64 = 2 then (if b0 % 32 * 64 + b1 % 64 ≥ 128 then (b0 % 32 * 64 + b1 % 64, 2) else (65533, 1)) else (65533, 1) := by
  unfold decodeN
  rw [if_neg (by omega)]
  by_cases h : 1 < n ∧ b1 / 64 = 2
  · rw [if_pos ⟨by omega, h⟩, if_pos h]
  · rw [if_neg (fun a => h a.2), if_neg (by omega), if_neg (by omega), if_neg h]
set_option maxRecDepth 100000 in
theorem dn_3 (n b0 b1 b2 b3 : Nat) (h0 : 224 ≤ b0 ∧ b0 ≤ 239) : decodeN n b0 b1 b2 b3 = if (1 < n ∧ b1 / 64 = 2) ∧ (2 < n ∧ b2 / 64 = 2) then (if 2048 ≤ (b0 % 16 * 64 + b1 % 64) * 64 + b2 % 64 ∧ ((b0 % 16 * 64 + b1 % 64) * 64 + b2 % 64 < 55296 ∨ 57344 ≤ (b0 % 16 * 64 + b1 % 64) * 64 + b2 % 64) then ((b0 % 16 * 64 + b1 % 64) * 64 + b2 % 64, 3) else (65533, 1)) else (65533, 1) := by
  have e : b0 % 16 * 4096 + b1 % 64 * 64 + b2 % 64 = (b0 % 16 * 64 + b1 % 64) * 64 + b2 % 64 := by omega
  unfold decodeN
  rw [if_neg (by omega), if_neg (by omega), e]
  by_cases h : (1 < n ∧ b1 / 64 = 2) ∧ (2 < n ∧ b2 / 64 = 2)
  · rw [if_pos ⟨by omega, h.1, h.2⟩, if_pos h]
    have hc : (b0 % 16 * 64 + b1 % 64) * 64 + b2 % 64 ≤ 1114111 := by omega
    by_cases g : 2048 ≤ (b0 % 16 * 64 + b1 % 64) * 64 + b2 % 64 ∧ ((b0 % 16 * 64 + b1 % 64) * 64 + b2 % 64 < 55296 ∨ 57344 ≤ (b0 % 16 * 64 + b1 % 64) * 64 + b2 % 64)
    · rw [if_pos g, if_pos ⟨g.1, g.2.imp id fun x => ⟨x, hc⟩⟩]
    · rw [if_neg g, if_neg fun a => g ⟨a.1, a.2.imp id fun x => x.1⟩]
  · rw [if_neg (fun a => h ⟨a.2.1, a.2.2⟩), if_neg (by omega), if_neg h]
set_option maxRecDepth 100000 in
theorem dn_4 (n b0 b1 b2 b3 : Nat) (h0 : 240 ≤ b0 ∧ b0 ≤ 247) : decodeN n b0 b1 b2 b3 = if (1 < n ∧ b1 / 64 = 2) ∧ (2 < n ∧ b2 / 64 = 2) ∧ (3 < n ∧ b3 / 64 = 2) then (if 65536 ≤ ((b0 % 8 * 64 + b1 % 64) * 64 + b2 % 64) * 64 + b3 % 64 ∧ ((b0 % 8 * 64 + b1 % 64) * 64 + b2 % 64) * 64 + b3 % 64 ≤ 1114111 then (((b0 % 8 * 64 + b1 % 64) * 64 + b2 % 64) * 64 + b3 % 64, 4) else (65533, 1)) else (65533, 1) := by
  have e : b0 % 8 * 262144 + b1 % 64 * 4096 + b2 % 64 * 64 + b3 % 64 = ((b0 % 8 * 64 + b1 % 64) * 64 + b2 % 64) * 64 + b3 % 64 := by omega
  unfold decodeN
  rw [if_neg (by omega), if_neg (by omega), if_neg (by omega), e]
  by_cases h : (1 < n ∧ b1 / 64 = 2) ∧ (2 < n ∧ b2 / 64 = 2) ∧ (3 < n ∧ b3 / 64 = 2)
  · rw [if_pos ⟨by omega, h.1, h.2.1, h.2.2⟩, if_pos h]
    generalize ((b0 % 8 * 64 + b1 % 64) * 64 + b2 % 64) * 64 + b3 % 64 = c
    by_cases g : 65536 ≤ c ∧ c ≤ 1114111
    · rw [if_pos g, if_pos ⟨g.1, .inr ⟨by omega, g.2⟩⟩]
    · rw [if_neg g, if_neg fun a => g ⟨a.1, by omega⟩]
  · rw [if_neg (fun a => h ⟨a.2.1, a.2.2.1, a.2.2.2⟩), if_neg h]

set_option maxRecDepth 100000 in
set_option maxHeartbeats 4000000 in
theorem sign_2 (s : ByteArray) (a n b0 b1 b2 b3 : Nat) (hn : n = s.size - a) (ha : a < s.size) (hs : (s.size : Int) ≤ 100000000) (h0 : 192 ≤ b0 ∧ b0 ≤ 223) (h1 : b1 < 256) (h2 : b2 < 256) (h3 : b3 < 256)
    (k0 : ∀ w, (Instr.index 9 (.string s) (.int .i64 (a : Int))).run Tryd.prog w = .ok (.int .u8 (b0 : Nat)) w)
    (k1 : 1 < n → ∀ w, (Instr.index 9 (.string s) (.int .i64 ((a : Int) + 1))).run Tryd.prog w = .ok (.int .u8 (b1 : Nat)) w)
    (k2 : 2 < n → ∀ w, (Instr.index 9 (.string s) (.int .i64 ((a : Int) + 2))).run Tryd.prog w = .ok (.int .u8 (b2 : Nat)) w)
    (k3 : 3 < n → ∀ w, (Instr.index 9 (.string s) (.int .i64 ((a : Int) + 3))).run Tryd.prog w = .ok (.int .u8 (b3 : Nat)) w) (w : World) :
    Calls Tryd.prog 32 #[.string s, .int .i64 (a : Nat)] w fun e w' => e = .returned (.tuple (signR (decodeN n b0 b1 b2 b3))) ∧ w' = w := by
  have HD := Lib.hid (dn_2 n b0 b1 b2 b3 h0)
  generalize decodeN n b0 b1 b2 b3 = D at *
  have f0 : (192 : Int) ≤ b0 := by omega
  have f1 : (b0 : Int) ≤ 223 := by omega
  have g1 : ¬ (b0 : Int) < 128 := by omega
  have hA := and_i64m 5 (by decide) b0 (by omega) 31 (by decide)
  have hB1 := and_u8m b1 h1
  have e0 : b0 % 2 ^ 5 = b0 % 32 := rfl
  rw [e0] at hA
  have hc0 : b0 % 32 < 32 := Nat.mod_lt _ (by decide)
  obtain ⟨c0, hc0e⟩ : ∃ c0, b0 % 32 = c0 := ⟨_, rfl⟩
  rw [hc0e] at hA hc0 HD
  obtain ⟨y1, hy1⟩ : ∃ y1, b1 % 64 = y1 := ⟨_, rfl⟩
  have hyb1 : y1 < 64 := by omega
  have hO1 := or_64 c0 y1 (by omega) hyb1
  obtain ⟨c1, hc1e⟩ : ∃ c1, c0 * 64 + y1 = c1 := ⟨_, rfl⟩
  have hcb1 : c1 < 2048 := by omega
  rw [hy1] at hB1 HD
  rw [hc1e] at hO1 HD
  have HS := Lib.hid (show n = s.size - a ∧ a < s.size from ⟨hn, ha⟩)
  have HYB1 := Lib.hid (show (y1 : Int) < 64 by omega)
  have HK1 := Lib.hid k1
  have HY1 := Lib.hid (show c0 * 64 ≤ 100000000 from by omega)
  have ha64 : (a : Int) ≤ 100000000 := by omega
  clear k1 k2 k3 hn ha h0 h1 h2 h3 hc0e hc0 hy1 hyb1 hc1e
  have HCB := Lib.hid hcb1
  clear hcb1
  go_enter Tryd.func32, Tryd.ntmps32
  go_wp2_with fail
  go_loopw [9, 11] (fun vc vi wr => (vi = .int .i64 1 ∧ vc = .int .i64 (c0 : Nat) ∧ wr = w) ∨ (vi = .int .i64 2 ∧ vc = .int .i64 (c1 : Nat) ∧ Hid (1 < n ∧ b1 / 64 = 2) ∧ wr = w)) (fun _ vi _ => 3 - (intOf vi).toNat)
  case atStart => exact .inl ⟨rfl, rfl, rfl⟩
  case round =>
    rcases hrel with ⟨rfl, rfl, rfl⟩ | ⟨rfl, rfl, C1, rfl⟩
    · by_cases hl : 1 < n
      · have hge : ¬ (s.size : Int) ≤ (a : Int) + 1 := by have := HS.out; omega
        have kj := HK1.out hl
        by_cases hq : b1 / 64 = 2
        · have hq' : (b1 : Int) / 64 = 2 := by omega
          have C1 := Lib.hid (show 1 < n ∧ b1 / 64 = 2 from ⟨hl, hq⟩)
          have hsh : (c0 : Int) * 64 ≤ 100000000 := by have := HY1.out; omega
          have hyi : (y1 : Int) < 64 := HYB1.out
          clear hl hq
          go_wp2
          go_roundw
          case rel =>
            exact .inr ⟨rfl, rfl, C1, trivial⟩
          case measure => decide
        · have hq' : ((b1 : Int) / 64 != 2) = true := by simp; omega
          have hd := HD.out
          have HDD := Lib.hid (show D = (65533, 1) from hd.trans (by rw [if_neg (fun g => hq g.2)]))
          clear hd hl hq
          go_wp2
          go_returns
          exact ⟨by rw [HDD.out, signR_bad]; rfl, rfl⟩
      · have hge : (s.size : Int) ≤ (a : Int) + 1 := by have := HS.out; omega
        have hd := HD.out
        have HDD := Lib.hid (show D = (65533, 1) from hd.trans (by rw [if_neg (fun g => hl g.1)]))
        clear hd hl
        go_wp2
        go_returns
        exact ⟨by rw [HDD.out, signR_bad]; rfl, rfl⟩
    · have hd := HD.out
      rw [if_pos C1.out] at hd
      by_cases hlow : (c1 : Int) < 128
      · have HDD := Lib.hid (show D = (65533, 1) from hd.trans (by rw [if_neg (by omega)]))
        clear hd
        go_wp2
        go_returns
        exact ⟨by rw [HDD.out, signR_bad]; rfl, rfl⟩
      · by_cases hbig : (1114111 : Int) < c1
        · exact absurd HCB.out (by omega)
        · by_cases hsu : (55296 : Int) ≤ c1
          · by_cases hsv : (c1 : Int) ≤ 57343
            · exact absurd HCB.out (by omega)
            · exact absurd HCB.out (by omega)
          · have HDD := Lib.hid (show signR D = #[.int .i64 (c1 : Nat), .int .i64 ((2 : Nat) : Int), .bool true] from by rw [show D = (c1, 2) from hd.trans (by rw [if_pos (by omega)]), signR_ok _ _ (by omega)])
            clear hd
            go_wp2
            go_returns
            exact ⟨by rw [HDD.out]; rfl, rfl⟩

set_option maxRecDepth 100000 in
set_option maxHeartbeats 4000000 in
theorem sign_3 (s : ByteArray) (a n b0 b1 b2 b3 : Nat) (hn : n = s.size - a) (ha : a < s.size) (hs : (s.size : Int) ≤ 100000000) (h0 : 224 ≤ b0 ∧ b0 ≤ 239) (h1 : b1 < 256) (h2 : b2 < 256) (h3 : b3 < 256)
    (k0 : ∀ w, (Instr.index 9 (.string s) (.int .i64 (a : Int))).run Tryd.prog w = .ok (.int .u8 (b0 : Nat)) w)
    (k1 : 1 < n → ∀ w, (Instr.index 9 (.string s) (.int .i64 ((a : Int) + 1))).run Tryd.prog w = .ok (.int .u8 (b1 : Nat)) w)
    (k2 : 2 < n → ∀ w, (Instr.index 9 (.string s) (.int .i64 ((a : Int) + 2))).run Tryd.prog w = .ok (.int .u8 (b2 : Nat)) w)
    (k3 : 3 < n → ∀ w, (Instr.index 9 (.string s) (.int .i64 ((a : Int) + 3))).run Tryd.prog w = .ok (.int .u8 (b3 : Nat)) w) (w : World) :
    Calls Tryd.prog 32 #[.string s, .int .i64 (a : Nat)] w fun e w' => e = .returned (.tuple (signR (decodeN n b0 b1 b2 b3))) ∧ w' = w := by
  have HD := Lib.hid (dn_3 n b0 b1 b2 b3 h0)
  generalize decodeN n b0 b1 b2 b3 = D at *
  have f0 : (224 : Int) ≤ b0 := by omega
  have f1 : (b0 : Int) ≤ 239 := by omega
  have g1 : ¬ (b0 : Int) < 128 := by omega
  have g2 : ¬ (b0 : Int) ≤ 223 := by omega
  have hA := and_i64m 4 (by decide) b0 (by omega) 15 (by decide)
  have hB1 := and_u8m b1 h1
  have hB2 := and_u8m b2 h2
  have e0 : b0 % 2 ^ 4 = b0 % 16 := rfl
  rw [e0] at hA
  have hc0 : b0 % 16 < 16 := Nat.mod_lt _ (by decide)
  obtain ⟨c0, hc0e⟩ : ∃ c0, b0 % 16 = c0 := ⟨_, rfl⟩
  rw [hc0e] at hA hc0 HD
  obtain ⟨y1, hy1⟩ : ∃ y1, b1 % 64 = y1 := ⟨_, rfl⟩
  have hyb1 : y1 < 64 := by omega
  have hO1 := or_64 c0 y1 (by omega) hyb1
  obtain ⟨c1, hc1e⟩ : ∃ c1, c0 * 64 + y1 = c1 := ⟨_, rfl⟩
  have hcb1 : c1 < 1024 := by omega
  rw [hy1] at hB1 HD
  rw [hc1e] at hO1 HD
  obtain ⟨y2, hy2⟩ : ∃ y2, b2 % 64 = y2 := ⟨_, rfl⟩
  have hyb2 : y2 < 64 := by omega
  have hO2 := or_64 c1 y2 (by omega) hyb2
  obtain ⟨c2, hc2e⟩ : ∃ c2, c1 * 64 + y2 = c2 := ⟨_, rfl⟩
  have hcb2 : c2 < 65536 := by omega
  rw [hy2] at hB2 HD
  rw [hc2e] at hO2 HD
  have HS := Lib.hid (show n = s.size - a ∧ a < s.size from ⟨hn, ha⟩)
  have HYB1 := Lib.hid (show (y1 : Int) < 64 by omega)
  have HK1 := Lib.hid k1
  have HY1 := Lib.hid (show c0 * 64 ≤ 100000000 from by omega)
  have HYB2 := Lib.hid (show (y2 : Int) < 64 by omega)
  have HK2 := Lib.hid k2
  have HY2 := Lib.hid (show c1 * 64 ≤ 100000000 from by omega)
  have ha64 : (a : Int) ≤ 100000000 := by omega
  clear k1 k2 k3 hn ha h0 h1 h2 h3 hc0e hc0 hy1 hyb1 hc1e hy2 hyb2 hc2e
  have HCB := Lib.hid hcb2
  clear hcb1 hcb2
  go_enter Tryd.func32, Tryd.ntmps32
  go_wp2_with fail
  go_loopw [9, 11] (fun vc vi wr => (vi = .int .i64 1 ∧ vc = .int .i64 (c0 : Nat) ∧ wr = w) ∨ (vi = .int .i64 2 ∧ vc = .int .i64 (c1 : Nat) ∧ Hid (1 < n ∧ b1 / 64 = 2) ∧ wr = w) ∨ (vi = .int .i64 3 ∧ vc = .int .i64 (c2 : Nat) ∧ Hid (1 < n ∧ b1 / 64 = 2) ∧ Hid (2 < n ∧ b2 / 64 = 2) ∧ wr = w)) (fun _ vi _ => 4 - (intOf vi).toNat)
  case atStart => exact .inl ⟨rfl, rfl, rfl⟩
  case round =>
    rcases hrel with ⟨rfl, rfl, rfl⟩ | ⟨rfl, rfl, C1, rfl⟩ | ⟨rfl, rfl, C1, C2, rfl⟩
    · by_cases hl : 1 < n
      · have hge : ¬ (s.size : Int) ≤ (a : Int) + 1 := by have := HS.out; omega
        have kj := HK1.out hl
        by_cases hq : b1 / 64 = 2
        · have hq' : (b1 : Int) / 64 = 2 := by omega
          have C1 := Lib.hid (show 1 < n ∧ b1 / 64 = 2 from ⟨hl, hq⟩)
          have hsh : (c0 : Int) * 64 ≤ 100000000 := by have := HY1.out; omega
          have hyi : (y1 : Int) < 64 := HYB1.out
          clear hl hq
          go_wp2
          go_roundw
          case rel =>
            exact .inr (.inl ⟨rfl, rfl, C1, trivial⟩)
          case measure => decide
        · have hq' : ((b1 : Int) / 64 != 2) = true := by simp; omega
          have hd := HD.out
          have HDD := Lib.hid (show D = (65533, 1) from hd.trans (by rw [if_neg (fun h => (fun g => hq g.2) h.1)]))
          clear hd hl hq
          go_wp2
          go_returns
          exact ⟨by rw [HDD.out, signR_bad]; rfl, rfl⟩
      · have hge : (s.size : Int) ≤ (a : Int) + 1 := by have := HS.out; omega
        have hd := HD.out
        have HDD := Lib.hid (show D = (65533, 1) from hd.trans (by rw [if_neg (fun h => (fun g => hl g.1) h.1)]))
        clear hd hl
        go_wp2
        go_returns
        exact ⟨by rw [HDD.out, signR_bad]; rfl, rfl⟩
    · by_cases hl : 2 < n
      · have hge : ¬ (s.size : Int) ≤ (a : Int) + 2 := by have := HS.out; omega
        have kj := HK2.out hl
        by_cases hq : b2 / 64 = 2
        · have hq' : (b2 : Int) / 64 = 2 := by omega
          have C2 := Lib.hid (show 2 < n ∧ b2 / 64 = 2 from ⟨hl, hq⟩)
          have hsh : (c1 : Int) * 64 ≤ 100000000 := by have := HY2.out; omega
          have hyi : (y2 : Int) < 64 := HYB2.out
          clear hl hq
          go_wp2
          go_roundw
          case rel =>
            exact .inr (.inr ⟨rfl, rfl, C1, C2, trivial⟩)
          case measure => decide
        · have hq' : ((b2 : Int) / 64 != 2) = true := by simp; omega
          have hd := HD.out
          have HDD := Lib.hid (show D = (65533, 1) from hd.trans (by rw [if_neg (fun h => (fun g => hq g.2) h.2)]))
          clear hd hl hq
          go_wp2
          go_returns
          exact ⟨by rw [HDD.out, signR_bad]; rfl, rfl⟩
      · have hge : (s.size : Int) ≤ (a : Int) + 2 := by have := HS.out; omega
        have hd := HD.out
        have HDD := Lib.hid (show D = (65533, 1) from hd.trans (by rw [if_neg (fun h => (fun g => hl g.1) h.2)]))
        clear hd hl
        go_wp2
        go_returns
        exact ⟨by rw [HDD.out, signR_bad]; rfl, rfl⟩
    · have hd := HD.out
      rw [if_pos ⟨C1.out, C2.out⟩] at hd
      by_cases hlow : (c2 : Int) < 2048
      · have HDD := Lib.hid (show D = (65533, 1) from hd.trans (by rw [if_neg (by omega)]))
        clear hd
        go_wp2
        go_returns
        exact ⟨by rw [HDD.out, signR_bad]; rfl, rfl⟩
      · by_cases hbig : (1114111 : Int) < c2
        · exact absurd HCB.out (by omega)
        · by_cases hsu : (55296 : Int) ≤ c2
          · by_cases hsv : (c2 : Int) ≤ 57343
            · have HDD := Lib.hid (show D = (65533, 1) from hd.trans (by rw [if_neg (by omega)]))
              clear hd
              go_wp2
              go_returns
              exact ⟨by rw [HDD.out, signR_bad]; rfl, rfl⟩
            · have HDD := Lib.hid (show signR D = #[.int .i64 (c2 : Nat), .int .i64 ((3 : Nat) : Int), .bool true] from by rw [show D = (c2, 3) from hd.trans (by rw [if_pos (by omega)]), signR_ok _ _ (by omega)])
              clear hd
              go_wp2
              go_returns
              exact ⟨by rw [HDD.out]; rfl, rfl⟩
          · have HDD := Lib.hid (show signR D = #[.int .i64 (c2 : Nat), .int .i64 ((3 : Nat) : Int), .bool true] from by rw [show D = (c2, 3) from hd.trans (by rw [if_pos (by omega)]), signR_ok _ _ (by omega)])
            clear hd
            go_wp2
            go_returns
            exact ⟨by rw [HDD.out]; rfl, rfl⟩

set_option maxRecDepth 100000 in
set_option maxHeartbeats 4000000 in
theorem sign_4 (s : ByteArray) (a n b0 b1 b2 b3 : Nat) (hn : n = s.size - a) (ha : a < s.size) (hs : (s.size : Int) ≤ 100000000) (h0 : 240 ≤ b0 ∧ b0 ≤ 247) (h1 : b1 < 256) (h2 : b2 < 256) (h3 : b3 < 256)
    (k0 : ∀ w, (Instr.index 9 (.string s) (.int .i64 (a : Int))).run Tryd.prog w = .ok (.int .u8 (b0 : Nat)) w)
    (k1 : 1 < n → ∀ w, (Instr.index 9 (.string s) (.int .i64 ((a : Int) + 1))).run Tryd.prog w = .ok (.int .u8 (b1 : Nat)) w)
    (k2 : 2 < n → ∀ w, (Instr.index 9 (.string s) (.int .i64 ((a : Int) + 2))).run Tryd.prog w = .ok (.int .u8 (b2 : Nat)) w)
    (k3 : 3 < n → ∀ w, (Instr.index 9 (.string s) (.int .i64 ((a : Int) + 3))).run Tryd.prog w = .ok (.int .u8 (b3 : Nat)) w) (w : World) :
    Calls Tryd.prog 32 #[.string s, .int .i64 (a : Nat)] w fun e w' => e = .returned (.tuple (signR (decodeN n b0 b1 b2 b3))) ∧ w' = w := by
  have HD := Lib.hid (dn_4 n b0 b1 b2 b3 h0)
  generalize decodeN n b0 b1 b2 b3 = D at *
  have f0 : (240 : Int) ≤ b0 := by omega
  have f1 : (b0 : Int) ≤ 247 := by omega
  have g1 : ¬ (b0 : Int) < 128 := by omega
  have g2 : ¬ (b0 : Int) ≤ 223 := by omega
  have g3 : ¬ (b0 : Int) ≤ 239 := by omega
  have hA := and_i64m 3 (by decide) b0 (by omega) 7 (by decide)
  have hB1 := and_u8m b1 h1
  have hB2 := and_u8m b2 h2
  have hB3 := and_u8m b3 h3
  have e0 : b0 % 2 ^ 3 = b0 % 8 := rfl
  rw [e0] at hA
  have hc0 : b0 % 8 < 8 := Nat.mod_lt _ (by decide)
  obtain ⟨c0, hc0e⟩ : ∃ c0, b0 % 8 = c0 := ⟨_, rfl⟩
  rw [hc0e] at hA hc0 HD
  obtain ⟨y1, hy1⟩ : ∃ y1, b1 % 64 = y1 := ⟨_, rfl⟩
  have hyb1 : y1 < 64 := by omega
  have hO1 := or_64 c0 y1 (by omega) hyb1
  obtain ⟨c1, hc1e⟩ : ∃ c1, c0 * 64 + y1 = c1 := ⟨_, rfl⟩
  have hcb1 : c1 < 512 := by omega
  rw [hy1] at hB1 HD
  rw [hc1e] at hO1 HD
  obtain ⟨y2, hy2⟩ : ∃ y2, b2 % 64 = y2 := ⟨_, rfl⟩
  have hyb2 : y2 < 64 := by omega
  have hO2 := or_64 c1 y2 (by omega) hyb2
  obtain ⟨c2, hc2e⟩ : ∃ c2, c1 * 64 + y2 = c2 := ⟨_, rfl⟩
  have hcb2 : c2 < 32768 := by omega
  rw [hy2] at hB2 HD
  rw [hc2e] at hO2 HD
  obtain ⟨y3, hy3⟩ : ∃ y3, b3 % 64 = y3 := ⟨_, rfl⟩
  have hyb3 : y3 < 64 := by omega
  have hO3 := or_64 c2 y3 (by omega) hyb3
  obtain ⟨c3, hc3e⟩ : ∃ c3, c2 * 64 + y3 = c3 := ⟨_, rfl⟩
  have hcb3 : c3 < 2097152 := by omega
  rw [hy3] at hB3 HD
  rw [hc3e] at hO3 HD
  have HS := Lib.hid (show n = s.size - a ∧ a < s.size from ⟨hn, ha⟩)
  have HYB1 := Lib.hid (show (y1 : Int) < 64 by omega)
  have HK1 := Lib.hid k1
  have HY1 := Lib.hid (show c0 * 64 ≤ 100000000 from by omega)
  have HYB2 := Lib.hid (show (y2 : Int) < 64 by omega)
  have HK2 := Lib.hid k2
  have HY2 := Lib.hid (show c1 * 64 ≤ 100000000 from by omega)
  have HYB3 := Lib.hid (show (y3 : Int) < 64 by omega)
  have HK3 := Lib.hid k3
  have HY3 := Lib.hid (show c2 * 64 ≤ 100000000 from by omega)
  have ha64 : (a : Int) ≤ 100000000 := by omega
  clear k1 k2 k3 hn ha h0 h1 h2 h3 hc0e hc0 hy1 hyb1 hc1e hy2 hyb2 hc2e hy3 hyb3 hc3e
  have HCB := Lib.hid hcb3
  clear hcb1 hcb2 hcb3
  go_enter Tryd.func32, Tryd.ntmps32
  go_wp2_with fail
  go_loopw [9, 11] (fun vc vi wr => (vi = .int .i64 1 ∧ vc = .int .i64 (c0 : Nat) ∧ wr = w) ∨ (vi = .int .i64 2 ∧ vc = .int .i64 (c1 : Nat) ∧ Hid (1 < n ∧ b1 / 64 = 2) ∧ wr = w) ∨ (vi = .int .i64 3 ∧ vc = .int .i64 (c2 : Nat) ∧ Hid (1 < n ∧ b1 / 64 = 2) ∧ Hid (2 < n ∧ b2 / 64 = 2) ∧ wr = w) ∨ (vi = .int .i64 4 ∧ vc = .int .i64 (c3 : Nat) ∧ Hid (1 < n ∧ b1 / 64 = 2) ∧ Hid (2 < n ∧ b2 / 64 = 2) ∧ Hid (3 < n ∧ b3 / 64 = 2) ∧ wr = w)) (fun _ vi _ => 5 - (intOf vi).toNat)
  case atStart => exact .inl ⟨rfl, rfl, rfl⟩
  case round =>
    rcases hrel with ⟨rfl, rfl, rfl⟩ | ⟨rfl, rfl, C1, rfl⟩ | ⟨rfl, rfl, C1, C2, rfl⟩ | ⟨rfl, rfl, C1, C2, C3, rfl⟩
    · by_cases hl : 1 < n
      · have hge : ¬ (s.size : Int) ≤ (a : Int) + 1 := by have := HS.out; omega
        have kj := HK1.out hl
        by_cases hq : b1 / 64 = 2
        · have hq' : (b1 : Int) / 64 = 2 := by omega
          have C1 := Lib.hid (show 1 < n ∧ b1 / 64 = 2 from ⟨hl, hq⟩)
          have hsh : (c0 : Int) * 64 ≤ 100000000 := by have := HY1.out; omega
          have hyi : (y1 : Int) < 64 := HYB1.out
          clear hl hq
          go_wp2
          go_roundw
          case rel =>
            exact .inr (.inl ⟨rfl, rfl, C1, trivial⟩)
          case measure => decide
        · have hq' : ((b1 : Int) / 64 != 2) = true := by simp; omega
          have hd := HD.out
          have HDD := Lib.hid (show D = (65533, 1) from hd.trans (by rw [if_neg (fun h => (fun g => hq g.2) h.1)]))
          clear hd hl hq
          go_wp2
          go_returns
          exact ⟨by rw [HDD.out, signR_bad]; rfl, rfl⟩
      · have hge : (s.size : Int) ≤ (a : Int) + 1 := by have := HS.out; omega
        have hd := HD.out
        have HDD := Lib.hid (show D = (65533, 1) from hd.trans (by rw [if_neg (fun h => (fun g => hl g.1) h.1)]))
        clear hd hl
        go_wp2
        go_returns
        exact ⟨by rw [HDD.out, signR_bad]; rfl, rfl⟩
    · by_cases hl : 2 < n
      · have hge : ¬ (s.size : Int) ≤ (a : Int) + 2 := by have := HS.out; omega
        have kj := HK2.out hl
        by_cases hq : b2 / 64 = 2
        · have hq' : (b2 : Int) / 64 = 2 := by omega
          have C2 := Lib.hid (show 2 < n ∧ b2 / 64 = 2 from ⟨hl, hq⟩)
          have hsh : (c1 : Int) * 64 ≤ 100000000 := by have := HY2.out; omega
          have hyi : (y2 : Int) < 64 := HYB2.out
          clear hl hq
          go_wp2
          go_roundw
          case rel =>
            exact .inr (.inr (.inl ⟨rfl, rfl, C1, C2, trivial⟩))
          case measure => decide
        · have hq' : ((b2 : Int) / 64 != 2) = true := by simp; omega
          have hd := HD.out
          have HDD := Lib.hid (show D = (65533, 1) from hd.trans (by rw [if_neg (fun h => (fun g => hq g.2) h.2.1)]))
          clear hd hl hq
          go_wp2
          go_returns
          exact ⟨by rw [HDD.out, signR_bad]; rfl, rfl⟩
      · have hge : (s.size : Int) ≤ (a : Int) + 2 := by have := HS.out; omega
        have hd := HD.out
        have HDD := Lib.hid (show D = (65533, 1) from hd.trans (by rw [if_neg (fun h => (fun g => hl g.1) h.2.1)]))
        clear hd hl
        go_wp2
        go_returns
        exact ⟨by rw [HDD.out, signR_bad]; rfl, rfl⟩
    · by_cases hl : 3 < n
      · have hge : ¬ (s.size : Int) ≤ (a : Int) + 3 := by have := HS.out; omega
        have kj := HK3.out hl
        by_cases hq : b3 / 64 = 2
        · have hq' : (b3 : Int) / 64 = 2 := by omega
          have C3 := Lib.hid (show 3 < n ∧ b3 / 64 = 2 from ⟨hl, hq⟩)
          have hsh : (c2 : Int) * 64 ≤ 100000000 := by have := HY3.out; omega
          have hyi : (y3 : Int) < 64 := HYB3.out
          clear hl hq
          go_wp2
          go_roundw
          case rel =>
            exact .inr (.inr (.inr ⟨rfl, rfl, C1, C2, C3, trivial⟩))
          case measure => decide
        · have hq' : ((b3 : Int) / 64 != 2) = true := by simp; omega
          have hd := HD.out
          have HDD := Lib.hid (show D = (65533, 1) from hd.trans (by rw [if_neg (fun h => (fun g => hq g.2) h.2.2)]))
          clear hd hl hq
          go_wp2
          go_returns
          exact ⟨by rw [HDD.out, signR_bad]; rfl, rfl⟩
      · have hge : (s.size : Int) ≤ (a : Int) + 3 := by have := HS.out; omega
        have hd := HD.out
        have HDD := Lib.hid (show D = (65533, 1) from hd.trans (by rw [if_neg (fun h => (fun g => hl g.1) h.2.2)]))
        clear hd hl
        go_wp2
        go_returns
        exact ⟨by rw [HDD.out, signR_bad]; rfl, rfl⟩
    · have hd := HD.out
      rw [if_pos ⟨C1.out, C2.out, C3.out⟩] at hd
      by_cases hlow : (c3 : Int) < 65536
      · have HDD := Lib.hid (show D = (65533, 1) from hd.trans (by rw [if_neg (by omega)]))
        clear hd
        go_wp2
        go_returns
        exact ⟨by rw [HDD.out, signR_bad]; rfl, rfl⟩
      · by_cases hbig : (1114111 : Int) < c3
        · have HDD := Lib.hid (show D = (65533, 1) from hd.trans (by rw [if_neg (by omega)]))
          clear hd
          go_wp2
          go_returns
          exact ⟨by rw [HDD.out, signR_bad]; rfl, rfl⟩
        · by_cases hsu : (55296 : Int) ≤ c3
          · by_cases hsv : (c3 : Int) ≤ 57343
            · exfalso; omega
            · have HDD := Lib.hid (show signR D = #[.int .i64 (c3 : Nat), .int .i64 ((4 : Nat) : Int), .bool true] from by rw [show D = (c3, 4) from hd.trans (by rw [if_pos (by omega)]), signR_ok _ _ (by omega)])
              clear hd
              go_wp2
              go_returns
              exact ⟨by rw [HDD.out]; rfl, rfl⟩
          · exfalso; omega
end Go.Proofs.YtmajdgmbcgkelaaDoor
