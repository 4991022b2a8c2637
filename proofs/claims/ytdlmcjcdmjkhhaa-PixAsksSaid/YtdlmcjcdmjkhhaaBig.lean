/-
  num.Big (as in the seat of chapter 1).
-/
import Derived.Test.YtdlmcjcdmjkhhaaChecked
import Derived.Test.YtdlmcjcdmjkhhaaLib
namespace Go.Proofs.Ytdlmcjcdmjkhhaa
open Go.RowKit

theorem infoB : (Try.prog.info? 5).map (fun i => (i.zero, i.size, i.bytes)) = some (some (.int .u8 0), 1, 1) := by kernel_rfl

/-- n's bytes, the least first. -/
def lit (n : Int) (m : Nat) : List Int := (List.range m).map fun i => n / 2 ^ (8 * i) % 256
/-- n's bytes, the greatest first. -/
def big (n : Int) (m : Nat) : List Int := (lit n m).reverse
theorem lit_len (n : Int) (m : Nat) : (lit n m).length = m := by simp [lit]
theorem big_len (n : Int) (m : Nat) : (big n m).length = m := by simp [big, lit_len]
theorem lit_getD (n : Int) (m i : Nat) (h : i < m) : (lit n m).getD i 0 = n / 2 ^ (8 * i) % 256 := by rw [lit, getD_map_range, if_pos h]
theorem big_getD (n : Int) (m i : Nat) (h : i < m) : (big n m).getD i 0 = n / 2 ^ (8 * (m - 1 - i)) % 256 := by rw [big, getD_reverse _ _ (by rw [lit_len]; exact h), lit_len, lit_getD _ _ _ (by omega)]
theorem lit_isB (n : Int) (m : Nat) : isB (lit n m) := by
  intro x hx
  simp only [lit, List.mem_map] at hx
  obtain ⟨i, _, rfl⟩ := hx
  omega
theorem big_isB (n : Int) (m : Nat) : isB (big n m) := fun x hx => lit_isB n m x (List.mem_reverse.1 hx)

def fit (n m : Int) : Bool := decide (1 ≤ m ∧ m ≤ 6 ∧ 0 ≤ n ∧ n / 2 ^ (8 * m).toNat = 0)

theorem fits_any (n m : Int) (w : World) (h0 : -9223372036854775808 ≤ n ∧ n ≤ 9223372036854775807) :
    Calls Try.prog 43 #[.int .i64 n, .int .i64 m] w fun e w' => e = .returned (.bool (fit n m)) ∧ w' = w := by
  by_cases h1 : 1 ≤ m
  · by_cases h2 : m ≤ 6
    · by_cases h3 : 0 ≤ n
      · go_enter Try.func43, Try.ntmps43
        go_wp2
        go_ret
        refine ⟨?_, rfl⟩
        simp [fit, h1, h2, h3]
        rw [Bool.eq_iff_iff]; simp
      · go_enter Try.func43, Try.ntmps43
        go_wp2
        go_ret
        simp [fit]; omega
    · go_enter Try.func43, Try.ntmps43
      go_wp2
      go_ret
      simp [fit]; omega
  · go_enter Try.func43, Try.ntmps43
    go_wp2
    go_ret
    simp [fit]; omega

/-- A new list of bytes and an error's number. -/
def RetB (w : World) (xs : List Int) (c : Int) (e : Ending) (w' : World) : Prop := ∃ g cap, e = .returned (.tuple #[.slice (some ⟨g, 0, none⟩) xs.length cap, .int .i64 c]) ∧ w'.ownsRow w.heap.size 5 1 (.slice (some ⟨g, 0, none⟩) xs.length cap) xs.length (xs.map (Value.int .u8)) ∧ Below w.heap.size w w'

theorem big_no (n m : Int) (w : World) (h0 : -9223372036854775808 ≤ n ∧ n ≤ 9223372036854775807) (h : fit n m = false) :
    Calls Try.prog 34 #[.int .i64 n, .int .i64 m] w fun e w' => e = .returned (.tuple #[.slice none 0 0, .int .i64 1]) ∧ w' = w := by
  go_enter Try.func34, Try.ntmps34
  go_wp2_with fail
  refine (fits_any n m w h0).mono ?_; rintro e w1 ⟨rfl, rfl⟩
  rw [h]
  go_wp2
  go_ret2
  exact ⟨rfl, rfl⟩
set_option maxHeartbeats 400000 in
theorem big_yes (n : Int) (m : Nat) (w : World) (h0 : -9223372036854775808 ≤ n ∧ n ≤ 9223372036854775807) (h : fit n m = true) :
    Calls Try.prog 34 #[.int .i64 n, .int .i64 m] w (RetB w (big n m) 0) := by
  have hf : 1 ≤ (m : Int) ∧ (m : Int) ≤ 6 ∧ 0 ≤ n ∧ n / 2 ^ (8 * (m : Int)).toNat = 0 := of_decide_eq_true h
  have hm1 := hf.1
  have hm2 := hf.2.1
  have hn := hf.2.2.1
  clear hf
  have hn1 := h0.1
  have hn2 := h0.2
  obtain ⟨i0, hi, hz0, hz1, hz2⟩ := info_parts infoB
  have Hi := Lib.hid hi; have Hz0 := Lib.hid hz0; have Hz1 := Lib.hid hz1; have Hz2 := Lib.hid hz2
  clear hi hz0 hz1 hz2
  go_enter Try.func34, Try.ntmps34
  go_wp2_with fail
  refine (fits_any n m w h0).mono ?_; rintro e w1 ⟨rfl, rfl⟩
  rw [h]
  clear h h0
  go_wp2_with (at_make; refine wpList_make_full _ rfl _ _ 24 rfl w1.heap.size 5 i0 (.int .u8 0) 1 Try.underlying24 Hi.out Hz0.out Hz1.out _ _ _ _ m rfl rfl (by first | rfl | omega) (by first | rfl | omega) (by rw [Hz2.out]; omega) (by unfold maxLen; omega) (Nat.le_refl _) ?_)
  intro w2 hown hgrow
  rw [toList_made m .u8] at hown
  have hb0 : Below w1.heap.size w1 w2 := (Below.refl _ _).grown hgrow (Nat.le_refl _) (fun k h => nomatch h)
  clear hgrow
  generalize hg : w1.heap.size = g at *
  have HG := Lib.hid hg; clear hg
  generalize hxs : List.replicate m (0 : Int) = xs at hown
  have Hxs := Lib.hid hxs; clear hxs
  go_wp2
  go_loopw [16] (fun i wr => ∃ (k : Nat) (xs : List Int), k ≤ m ∧ i = .int .i64 k ∧ wr.ownsRow g 5 1 (.slice (some ⟨g, 0, none⟩) m m) m (xs.map (Value.int .u8)) ∧ Below g w1 wr ∧
      Hid (xs.length = m ∧ ∀ j, j < m → xs.getD j 0 = if m - 1 - j < k then n / 2 ^ (8 * (m - 1 - j)) % 256 else 0)) (fun i _ => m - (intOf i).toNat)
  case atStart =>
    refine ⟨0, xs, Nat.zero_le _, rfl, hown, hb0, ?_⟩
    rw [← Hxs.out]
    exact ⟨by simp, fun j hj => by simp [List.getD, hj]⟩
  case round =>
    obtain ⟨k, ys, hk, rfl, ho, hb, Hy⟩ := hrel
    clear hown hb0 Hxs
    by_cases hlt : k < m
    · have hc := owns_cell ho (m - 1 - k) (by omega)
      have hfz := ho.frozenAt (m - 1 - k)
      go_wp2
      go_roundw
      case rel =>
        obtain ⟨hyl, hyj⟩ := Hy.out
        refine ⟨k + 1, ys.set (m - 1 - k) (n / 2 ^ (8 * k) % 256), by omega, by go_num, owns_set ho _ _, hb.setCell (p := ⟨g, m - 1 - k, none⟩) (Nat.le_refl _) _, by simpa using hyl, fun j hj => ?_⟩
        rw [getD_set, hyj j hj]
        by_cases e : j = m - 1 - k
        · rw [if_pos ⟨e.symm, by omega⟩, if_pos (by omega), show m - 1 - j = k by omega]
        · rw [if_neg (fun h => e h.1.symm)]
          by_cases h2 : m - 1 - j < k
          · rw [if_pos h2, if_pos (by omega)]
          · rw [if_neg h2, if_neg (by omega)]
      case measure => simp [intOf]; omega
    · obtain rfl : k = m := by omega
      go_wp2
      go_ret2
      obtain ⟨hyl, hyj⟩ := Hy.out
      have e : ys = big n k := ext_getD (by rw [hyl, big_len]) fun j hj => by
        rw [hyj j (by omega), if_pos (by omega), big_getD _ _ _ (by omega)]
      subst e
      unfold RetB
      rw [big_len, HG.out]
      exact ⟨g, k, rfl, ho, hb⟩

end Go.Proofs.Ytdlmcjcdmjkhhaa
