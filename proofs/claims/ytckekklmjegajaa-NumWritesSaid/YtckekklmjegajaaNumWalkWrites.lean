/-
  The walk of the statement NumWrites.
-/
import Derived.Test.YtckekklmjegajaaNumFirst
import Derived.Test.YtckekklmjegajaaNumRef
import Derived.Test.YtckekklmjegajaaNumPure
namespace Go.Proofs.Ytckekklmjegajaa
open Go.RowKit

set_option maxRecDepth 100000 in
set_option maxHeartbeats 1000000 in
theorem writes_large (n m : Int) (a : Option Addr) (l cap : Nat) (p : Int) (w : World) (_hl : l ≤ 9223372036854775807) (h1 : (8000 : Int) < l) :
    Calls Try.prog 3 #[.int .i64 n, .int .i64 m, .slice a l cap, .int .i64 p] w fun e w' => e = .returned (.bool true) ∧ Below w.heap.size w w' := by
  go_enter Try.func3, Try.ntmps3
  go_wp2_with fail
  refine (first_any w).mono ?_; rintro e w1 ⟨rfl, hb1⟩
  go_wp2_with fail
  refine (first_any w1).mono ?_; rintro e w2 ⟨rfl, hb2⟩
  go_wp2_with fail
  go_ret
  exact ⟨rfl, below_size hb1 hb2⟩

/-- What the four reads give. -/
def ReadsTwice (f g : Nat) (a : Option Addr) (l cap : Nat) (p m : Int) (w : World) (v c : Int) : Prop :=
  Calls Try.prog f #[.slice a l cap, .int .i64 p, .int .i64 m] w (fun e w' => e = .returned (.tuple #[.int .i64 v, .int .i64 c]) ∧ w' = w) ∧
  Calls Try.prog g #[.slice a l cap, .int .i64 p, .int .i64 m] w (fun e w' => e = .returned (.tuple #[.int .i64 v, .int .i64 c]) ∧ w' = w)
theorem reads_big (p m : Int) (l : Nat) (xs : List Int) (hl : l ≤ 8000) (hb : isB xs) (h2 : -9223372036854775808 ≤ p ∧ p ≤ 9223372036854775807) (h3 : -9223372036854775808 ≤ m ∧ m ≤ 9223372036854775807) :
    ∃ v c, ∀ (a : Option Addr) (cap : Nat) (w : World), Reads .u8 w a l cap xs → ReadsTwice 14 15 a l cap p m w v c := by
  by_cases h : rdErr l p m = 0
  · obtain ⟨k1, k2, k3, k4⟩ := rdErr_zero h
    obtain ⟨p, rfl⟩ := Int.eq_ofNat_of_zero_le k3
    obtain ⟨m, rfl⟩ := Int.eq_ofNat_of_zero_le (show 0 ≤ m by omega)
    exact ⟨_, _, fun a cap w hr => ⟨readBig_yes a l cap xs p m w hr hb h, rreadBig_yes a l cap xs p m w hr hb h⟩⟩
  · exact ⟨_, _, fun a cap w hr => ⟨readBig_no a l cap p m w (by omega) h2 h3 h, rreadBig_no a l cap p m w (by omega) h2 h3 h⟩⟩
theorem reads_little (p m : Int) (l : Nat) (xs : List Int) (hl : l ≤ 8000) (hb : isB xs) (h2 : -9223372036854775808 ≤ p ∧ p ≤ 9223372036854775807) (h3 : -9223372036854775808 ≤ m ∧ m ≤ 9223372036854775807) :
    ∃ v c, ∀ (a : Option Addr) (cap : Nat) (w : World), Reads .u8 w a l cap xs → ReadsTwice 16 17 a l cap p m w v c := by
  by_cases h : rdErr l p m = 0
  · obtain ⟨k1, k2, k3, k4⟩ := rdErr_zero h
    obtain ⟨p, rfl⟩ := Int.eq_ofNat_of_zero_le k3
    obtain ⟨m, rfl⟩ := Int.eq_ofNat_of_zero_le (show 0 ≤ m by omega)
    exact ⟨_, _, fun a cap w hr => ⟨readLittle_yes a l cap xs p m w hr hb h, rreadLittle_yes a l cap xs p m w hr hb h⟩⟩
  · exact ⟨_, _, fun a cap w hr => ⟨readLittle_no a l cap p m w (by omega) h2 h3 h, rreadLittle_no a l cap p m w (by omega) h2 h3 h⟩⟩

/-- A list of bytes, new or none, and an error's number. -/
def RetN (w : World) (xs : List Int) (c : Int) (e : Ending) (w' : World) : Prop := ∃ a n cap, e = .returned (.tuple #[.slice a n cap, .int .i64 c]) ∧ Reads .u8 w' a n cap xs ∧ Below w.heap.size w w'
theorem retN_of_retB {w : World} {xs : List Int} {c : Int} {e : Ending} {w' : World} (h : RetB w xs c e w') : RetN w xs c e w' := by
  obtain ⟨g, cap, he, ho, hb⟩ := h
  exact ⟨_, _, _, he, reads_of_owns ho, hb⟩
theorem writes_big (n m : Int) (h0 : -9223372036854775808 ≤ n ∧ n ≤ 9223372036854775807) : ∃ xs c, isB xs ∧ ∀ w : World,
    Calls Try.prog 10 #[.int .i64 n, .int .i64 m] w (RetN w xs c) ∧ Calls Try.prog 11 #[.int .i64 n, .int .i64 m] w (RetN w xs c) := by
  cases hf : fit n m with
  | true =>
    have h := of_decide_eq_true hf
    obtain ⟨m, rfl⟩ := Int.eq_ofNat_of_zero_le (show 0 ≤ m by omega)
    exact ⟨_, _, big_isB n m, fun w => ⟨(big_yes n m w h0 hf).mono fun _ _ h => retN_of_retB h, (rbig_yes n m w h0 hf).mono fun _ _ h => retN_of_retB h⟩⟩
  | false =>
    exact ⟨[], 1, isB.nil, fun w => ⟨(big_no n m w h0 hf).mono fun _ _ ⟨h, h'⟩ => ⟨_, _, _, h, Reads.none _ _, by rw [h']; exact Below.refl _ _⟩, (rbig_no n m w h0 hf).mono fun _ _ ⟨h, h'⟩ => ⟨_, _, _, h, Reads.none _ _, by rw [h']; exact Below.refl _ _⟩⟩⟩
theorem writes_little (n m : Int) (h0 : -9223372036854775808 ≤ n ∧ n ≤ 9223372036854775807) : ∃ xs c, isB xs ∧ ∀ w : World,
    Calls Try.prog 12 #[.int .i64 n, .int .i64 m] w (RetN w xs c) ∧ Calls Try.prog 13 #[.int .i64 n, .int .i64 m] w (RetN w xs c) := by
  cases hf : fit n m with
  | true =>
    have h := of_decide_eq_true hf
    obtain ⟨m, rfl⟩ := Int.eq_ofNat_of_zero_le (show 0 ≤ m by omega)
    exact ⟨_, _, lit_isB n m, fun w => ⟨(little_yes n m w h0 hf).mono fun _ _ h => retN_of_retB h, (rlittle_yes n m w h0 hf).mono fun _ _ h => retN_of_retB h⟩⟩
  | false =>
    exact ⟨[], 1, isB.nil, fun w => ⟨(little_no n m w h0 hf).mono fun _ _ ⟨h, h'⟩ => ⟨_, _, _, h, Reads.none _ _, by rw [h']; exact Below.refl _ _⟩, (rlittle_no n m w h0 hf).mono fun _ _ ⟨h, h'⟩ => ⟨_, _, _, h, Reads.none _ _, by rw [h']; exact Below.refl _ _⟩⟩⟩

set_option maxRecDepth 100000 in
set_option maxHeartbeats 1000000 in
theorem walk_NumWrites (n m : Int) (a : Option Addr) (l cap : Nat) (xs : List Int) (p : Int) (w : World) (h0 : -9223372036854775808 ≤ n ∧ n ≤ 9223372036854775807) (h1 : -9223372036854775808 ≤ m ∧ m ≤ 9223372036854775807) (hr : Reads .u8 w a l cap xs) (hb : isB xs) (h2 : -9223372036854775808 ≤ p ∧ p ≤ 9223372036854775807) :
    Calls Try.prog 3 #[.int .i64 n, .int .i64 m, .slice a l cap, .int .i64 p] w fun e w' => e = .returned (.bool true) ∧ Below w.heap.size w w' := by
  have hl := hr.n63.1
  by_cases hs : (8000 : Int) < l
  · exact writes_large n m a l cap p w hl hs
  · obtain ⟨b1, e1, hB1, H1⟩ := writes_big n m h0
    obtain ⟨b2, e2, hB2, H2⟩ := writes_little n m h0
    obtain ⟨v3, e3, H3⟩ := reads_big p m l xs (by omega) hb h2 h1
    obtain ⟨v4, e4, H4⟩ := reads_little p m l xs (by omega) hb h2 h1
    have H1 := Lib.hid H1; have H2 := Lib.hid H2; have H3 := Lib.hid H3; have H4 := Lib.hid H4
    have Hxl := Lib.hid hr.len
    go_enter Try.func3, Try.ntmps3
    rename_i H1a H2a H3a H4a
    clear H1a H2a H3a H4a
    go_wp2_with fail
    refine (first_any w).mono ?_; rintro e w1 ⟨rfl, hb1⟩
    go_wp2_with fail
    refine (copyBytes_any a l cap xs w1 (hr.below hb1) (by omega)).mono ?_; rintro e w2 ⟨a2, c2, rfl, ho2, hb2⟩
    rw [Hxl.out] at ho2
    rw [Hxl.out]
    have hi2 := reads_of_owns ho2
    clear ho2
    go_wp2_with fail
    refine (H1.out w2).1.mono ?_; rintro e w3 ⟨a3, n3, c3, rfl, hr3, hb3⟩
    go_wp2_with fail
    refine (H1.out w3).2.mono ?_; rintro e w4 ⟨a4, n4, c4, rfl, hr4, hb4⟩
    go_wp2_with fail
    refine (H2.out w4).1.mono ?_; rintro e w5 ⟨a5, n5, c5, rfl, hr5, hb5⟩
    go_wp2_with fail
    refine (H2.out w5).2.mono ?_; rintro e w6 ⟨a6, n6, c6, rfl, hr6, hb6⟩
    have hx3 := ((hr3.below hb4).below hb5).below hb6
    have hx4 := (hr4.below hb5).below hb6
    have hx5 := hr5.below hb6
    have hb7 := below_size hb1 (below_size hb2 (below_size hb3 (below_size hb4 (below_size hb5 hb6))))
    have hi7 := hi2.below (below_size hb3 (below_size hb4 (below_size hb5 hb6)))
    have hr7 := hr.below hb7
    clear hr3 hr4 hr5 hi2 hb1 hb2 hb3 hb4 hb5 hb6
    go_wp2_with fail
    refine (H3.out a2 c2 w6 hi7).1.mono ?_; rintro e w7 ⟨rfl, rfl⟩
    go_wp2_with fail
    refine (H3.out a cap w7 hr7).2.mono ?_; rintro e w8 ⟨rfl, rfl⟩
    go_wp2_with fail
    refine (H4.out a2 c2 w8 hi7).1.mono ?_; rintro e w9 ⟨rfl, rfl⟩
    go_wp2_with fail
    refine (H4.out a cap w9 hr7).2.mono ?_; rintro e w10 ⟨rfl, rfl⟩
    go_wp2_with fail
    refine (first_any w10).mono ?_; rintro e w11 ⟨rfl, hb11⟩
    go_wp2_with fail
    refine (bytes_any _ _ _ _ _ _ _ _ w11 (hx3.below hb11) (hx4.below hb11) hB1 hB1).mono ?_; rintro e w12 ⟨rfl, rfl⟩
    rw [decide_eq_true rfl]
    go_wp2_with fail
    refine (bytes_any _ _ _ _ _ _ _ _ w12 (hx5.below hb11) (hr6.below hb11) hB2 hB2).mono ?_; rintro e w13 ⟨rfl, rfl⟩
    rw [decide_eq_true rfl]
    go_wp2_with fail
    refine (bytes_any _ _ _ _ _ _ _ _ w13 (hi7.below hb11) (hr7.below hb11) hb hb).mono ?_; rintro e w14 ⟨rfl, rfl⟩
    rw [decide_eq_true rfl]
    have hb12 := below_size hb7 hb11
    go_wp2_with fail
    go_ret
    exact ⟨rfl, hb12⟩
end Go.Proofs.Ytckekklmjegajaa
