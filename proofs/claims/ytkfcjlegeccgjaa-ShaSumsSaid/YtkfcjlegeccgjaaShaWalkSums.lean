/-
  The walk of ShaSums.
-/
import Derived.Test.YtkfcjlegeccgjaaShaFirst
namespace Go.Proofs.Ytkfcjlegeccgjaa
open Go.RowKit

theorem isB_set' {xs : List Int} (h : isB xs) (i : Nat) (x : Int) (hx : 0 ≤ x ∧ x < 256) : isB (xs.set i x) := fun y hy => (List.mem_or_eq_of_mem_set hy).elim (h y) (fun e => e ▸ hx)

theorem sums_not (b : Option Addr) (n cap : Nat) (s : ByteArray) (w : World) (_hn : n ≤ 9223372036854775807) (_hs : s.size ≤ 9223372036854775807) (h : ¬ (n ≤ 4000 ∧ s.size ≤ 4000)) :
    Calls Try.prog 3 #[.slice b n cap, .string s] w fun e w' => e = .returned (.bool true) ∧ Below w.heap.size w w' := by
  by_cases h1 : n ≤ 4000
  · have h2 : (4000 : Int) < s.size := by omega
    have h3 : ¬ (4000 : Int) < n := by omega
    clear h
    go_enter Try.func3, Try.ntmps3
    go_wp2_with fail
    refine (first_any w).mono ?_; rintro e w1 ⟨rfl, b1⟩
    go_wp2_with fail
    refine (first_any w1).mono ?_; rintro e w2 ⟨rfl, b2⟩
    go_wp2_with fail
    go_ret
    exact ⟨rfl, below_size b1 b2⟩
  · have h3 : (4000 : Int) < n := by omega
    clear h
    go_enter Try.func3, Try.ntmps3
    go_wp2_with fail
    refine (first_any w).mono ?_; rintro e w1 ⟨rfl, b1⟩
    go_wp2_with fail
    refine (first_any w1).mono ?_; rintro e w2 ⟨rfl, b2⟩
    go_wp2_with fail
    go_ret
    exact ⟨rfl, below_size b1 b2⟩

set_option maxRecDepth 100000 in
set_option maxHeartbeats 1000000 in
theorem sums_in (b : Option Addr) (n cap : Nat) (xs : List Int) (s : ByteArray) (w : World) (hr : Reads .u8 w b n cap xs) (hx : isB xs) (hn : n ≤ 4000) (hs : s.size ≤ 4000) :
    Calls Try.prog 3 #[.slice b n cap, .string s] w fun e w' => e = .returned (.bool true) ∧ Below w.heap.size w w' := by
  have HR := Lib.hid hr; have HX := Lib.hid hx; have HL := Lib.hid hr.len
  have h1 : ¬ (4000 : Int) < n := by omega
  have h2 : ¬ (4000 : Int) < s.size := by omega
  clear hr hx
  go_enter Try.func3, Try.ntmps3
  go_wp2_with fail
  refine (first_any w).mono ?_; rintro e w1 ⟨rfl, b1⟩
  have R := Lib.hid (HR.out.below b1); have B := Lib.hid b1
  clear b1
  go_wp2_with fail
  refine (copyBytes_any b n cap xs w1 R.out (by omega)).mono ?_; rintro e w2 ⟨a5, c5, rfl, o5, b2⟩
  rw [HL.out] at o5 ⊢
  have O5 := Lib.hid o5
  replace R := Lib.hid (R.out.below b2); replace B := Lib.hid (below_size B.out b2)
  have R5 := Lib.hid (reads_of_owns O5.out)
  have Z2 := Lib.hid (Nat.le_trans (B.out.size) (Nat.le_refl w2.heap.size))
  clear o5 b2
  go_wp2_with fail
  refine (sum_any a5 n c5 xs w2 (reads_of_owns O5.out) HX.out (by omega)).mono ?_; rintro e w3 ⟨a6, c6, rfl, o6, b3⟩
  rw [shaB_len] at o6 ⊢
  have O6 := Lib.hid o6
  replace R := Lib.hid (R.out.below b3); replace B := Lib.hid (below_size B.out b3); replace O5 := Lib.hid (owns_below O5.out b3)
  have B2 := Lib.hid b3
  clear o6 b3
  go_wp2_with fail
  refine (rsum_any b n cap xs w3 R.out HX.out (by omega)).mono ?_; rintro e w4 ⟨a7, c7, rfl, o7, b4⟩
  rw [shaB_len] at o7 ⊢
  replace R := Lib.hid (R.out.below b4); replace B := Lib.hid (below_size B.out b4); replace O5 := Lib.hid (owns_below O5.out b4); replace O6 := Lib.hid (owns_below O6.out b4)
  replace B2 := Lib.hid (below_size B2.out b4)
  have q1 := bytes_any a6 a7 32 c6 32 c7 _ _ w4 (reads_of_owns O6.out) (reads_of_owns o7) (shaB_isB xs) (shaB_isB xs)
  rw [decide_eq_true rfl] at q1
  have Q1 := Lib.hid q1
  clear o7 b4 q1
  go_wp2_with fail
  refine Q1.out.mono ?_; rintro e w5 ⟨rfl, rfl⟩
  clear Q1
  go_wp2_with fail
  refine (key_any a5 n c5 xs _ (reads_of_owns O5.out) HX.out (by omega)).mono ?_; rintro e w5 ⟨rfl, b5⟩
  replace R := Lib.hid (R.out.below b5); replace B := Lib.hid (below_size B.out b5); replace O5 := Lib.hid (owns_below O5.out b5); replace O6 := Lib.hid (owns_below O6.out b5)
  replace B2 := Lib.hid (below_size B2.out b5)
  clear b5
  go_wp2_with fail
  refine (rkey_any b n cap xs _ R.out HX.out (by omega)).mono ?_; rintro e w6 ⟨rfl, b6⟩
  replace R := Lib.hid (R.out.below b6); replace B := Lib.hid (below_size B.out b6); replace O5 := Lib.hid (owns_below O5.out b6); replace O6 := Lib.hid (owns_below O6.out b6)
  replace B2 := Lib.hid (below_size B2.out b6)
  clear b6
  go_wp2_with fail
  refine (valid_any s _ (by omega)).mono ?_; rintro e w7 ⟨rfl, b7⟩
  replace R := Lib.hid (R.out.below b7); replace B := Lib.hid (below_size B.out b7); replace O5 := Lib.hid (owns_below O5.out b7); replace O6 := Lib.hid (owns_below O6.out b7)
  replace B2 := Lib.hid (below_size B2.out b7)
  clear b7
  go_wp2_with fail
  refine (rvalid_any s _ (by omega)).mono ?_; rintro e w8 ⟨rfl, b8⟩
  replace R := Lib.hid (R.out.below b8); replace B := Lib.hid (below_size B.out b8); replace O5 := Lib.hid (owns_below O5.out b8); replace O6 := Lib.hid (owns_below O6.out b8)
  replace B2 := Lib.hid (below_size B2.out b8)
  clear b8
  generalize validB s = v at *
  have XB := Lib.hid (shaB_isB xs); have XL := Lib.hid (shaB_len xs)
  go_wp2_with fail
  go_loopw [8] (fun vj wz => ∃ (j : Nat) (zs : List Int), j ≤ 32 ∧ vj = .int .i64 j ∧ wz.ownsRow w2.heap.size 5 1 (.slice a6 32 c6) 32 (zs.map (Value.int .u8)) ∧ Hid (isB zs) ∧ Hid (zs.length = 32) ∧ Below w2.heap.size w8 wz) (fun vj _ => 32 - (intOf vj).toNat)
  case atStart => exact ⟨0, shaB xs, Nat.zero_le _, rfl, O6.out, XB, XL, Below.refl _ _⟩
  case round =>
    obtain ⟨j, zs, hj, rfl, ho, Hb, Hl, hbz⟩ := hrel
    clear O6
    by_cases hlt : j < 32
    · obtain ⟨g, rfl, hbr⟩ := owns_addr ho (by omega)
      have hc := owns_cell ho j hlt
      have hfz := ho.frozenAt j
      have hz := Hb.out.get j (by rw [Hl.out]; exact hlt)
      generalize zs.getD j 0 = z at *
      have OZ := Lib.hid ho; have BZ := Lib.hid hbz
      clear ho hbz
      go_wp2_with fail
      go_roundw
      case rel => exact ⟨j + 1, zs.set j ((z + 1) % 256), by omega, by go_num, owns_set OZ.out j _, Lib.hid (isB_set' Hb.out _ _ (by omega)), Lib.hid (by simpa using Hl.out), BZ.out.setCell (p := ⟨g, j, Option.none⟩) hbr _⟩
      case measure => simp [intOf]; omega
    · have BZ := Lib.hid hbz
      clear ho hbz
      replace B := Lib.hid (B.out.trans (BZ.out.mono Z2.out))
      replace R := Lib.hid (HR.out.below B.out)
      replace R5 := Lib.hid (R5.out.below (B2.out.trans BZ.out))
      clear BZ B2 O5 HR
      go_wp2_with fail
      refine (first_any _).mono ?_; rintro e v1 ⟨rfl, b1⟩
      replace R := Lib.hid (R.out.below b1); replace B := Lib.hid (below_size B.out b1); replace R5 := Lib.hid (R5.out.below b1)
      clear b1
      have q1 := bytes_any a5 b n c5 n cap xs xs v1 R5.out R.out HX.out HX.out
      rw [decide_eq_true rfl] at q1
      have Q1 := Lib.hid q1
      clear q1
      go_wp2_with fail
      refine Q1.out.mono ?_; rintro e v2 ⟨rfl, rfl⟩
      clear Q1
      go_wp2_with fail
      refine (key_any a5 n c5 xs _ R5.out HX.out (by omega)).mono ?_; rintro e v2 ⟨rfl, b5⟩
      replace R := Lib.hid (R.out.below b5); replace B := Lib.hid (below_size B.out b5)
      clear b5 R5
      go_wp2_with fail
      refine (rkey_any b n cap xs _ R.out HX.out (by omega)).mono ?_; rintro e v3 ⟨rfl, b6⟩
      replace B := Lib.hid (below_size B.out b6)
      clear b6 R
      go_wp2_with fail
      go_ret
      exact ⟨rfl, B.out⟩
theorem walk_ShaSums (b : Option Addr) (n cap : Nat) (xs : List Int) (s : ByteArray) (w : World) (hr : Reads .u8 w b n cap xs) (hx : isB xs) (hs : s.size ≤ 9223372036854775807) :
    Calls Try.prog 3 #[.slice b n cap, .string s] w fun e w' => e = .returned (.bool true) ∧ Below w.heap.size w w' := by
  by_cases h : n ≤ 4000 ∧ s.size ≤ 4000
  · exact sums_in b n cap xs s w hr hx h.1 h.2
  · exact sums_not b n cap s w hr.n63.1 hs h
end Go.Proofs.Ytkfcjlegeccgjaa
