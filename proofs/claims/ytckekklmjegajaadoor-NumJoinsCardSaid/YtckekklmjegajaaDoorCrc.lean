/-
  Contracts of num.Crc (by the table of half bytes) and of the statements' own aquref1.Crc and aquref1.Adler.
-/
import Derived.Test.YtckekklmjegajaaDoorNumDFirst
import Derived.Test.YtckekklmjegajaaDoorCrcPure
namespace Go.Proofs.YtckekklmjegajaaDoor
open Go.RowKit

/-- The table's cells. -/
def Table (w : World) : Prop := ∀ i : Nat, i < 16 → w.cell? ⟨0, i, Option.none⟩ = some (.int .u32 (stN 4 i : Nat))

set_option maxHeartbeats 400000 in
theorem crc_any (a : Option Addr) (n cap : Nat) (xs : List Int) (w : World) (hr : Reads .u8 w a n cap xs) (hb : isB xs) (hT : Table w) :
    Calls Tryd.prog 6 #[.slice a n cap] w fun e w' => e = .returned (.int .u32 (crc xs : Nat)) ∧ w' = w := by
  have hn := hr.n63.1
  have Hl := Lib.hid hr.len
  have HT := Lib.hid hT
  clear hT
  go_enter Tryd.func6, Tryd.ntmps6
  go_wp2
  go_loop [3, 8] (fun s i => ∃ k : Nat, k ≤ n ∧ i = .int .i64 k ∧ s = .int .u32 (craw (xs.take k) : Nat)) (fun _ i => n - (intOf i).toNat)
  case atStart => exact ⟨0, Nat.zero_le _, rfl, rfl⟩
  case round =>
    obtain ⟨k, hk, rfl, rfl⟩ := hrel
    have hs := craw_lt (xs.take k) (hb.take k)
    by_cases hlt : k < n
    · obtain ⟨b, off, rfl, hc⟩ := hr.cellAt k hlt
      have hx := hb.get k (by rw [Hl.out]; exact hlt)
      have HS : Hid (craw (xs.take (k + 1)) = cstep (craw (xs.take k)) (xs.getD k 0).toNat) := by rw [take_getD xs k (by rw [Hl.out]; exact hlt), craw_snoc]; rfl
      generalize craw (xs.take k) = s at *
      obtain ⟨x, hxe⟩ := Int.eq_ofNat_of_zero_le hx.1
      rw [hxe] at hc hx HS
      clear hxe hr hb
      simp only [Int.toNat_natCast] at HS
      have HS2 := HS.out
      rw [cstep_half] at HS2
      have hx2 : x < 256 := by omega
      have q1 : bits BinOp.xor IntKind.u32 (s : Int) (x : Int) = ((s ^^^ x : Nat) : Int) := xor_u32 _ _ hs (by omega)
      have l1 : s ^^^ x < 2 ^ 32 := Nat.xor_lt_two_pow hs (by omega)
      generalize s ^^^ x = c1 at *
      have t1 := HT.out (c1 % 16) (by omega)
      have m1 : stN 4 (c1 % 16) < 2 ^ 32 := stN_lt _ _ (by omega)
      generalize stN 4 (c1 % 16) = v1 at *
      have q2 : bits BinOp.and IntKind.u32 (c1 : Int) 15 = ((c1 % 16 : Nat) : Int) := by rw [show (15 : Int) = 2 ^ 4 - 1 from rfl, mask_u32 4 (by decide) c1 (by omega) (by omega)]; rfl
      have q3 : bits BinOp.xor IntKind.u32 ((c1 : Int) / 16) (v1 : Int) = ((c1 / 16 ^^^ v1 : Nat) : Int) := by rw [show (c1 : Int) / 16 = ((c1 / 16 : Nat) : Int) from rfl]; exact xor_u32 _ _ (by omega) m1
      have l2 : c1 / 16 ^^^ v1 < 2 ^ 32 := Nat.xor_lt_two_pow (by omega) m1
      generalize c1 / 16 ^^^ v1 = c2 at *
      have t2 := HT.out (c2 % 16) (by omega)
      have m2 : stN 4 (c2 % 16) < 2 ^ 32 := stN_lt _ _ (by omega)
      generalize stN 4 (c2 % 16) = v2 at *
      have q4 : bits BinOp.and IntKind.u32 (c2 : Int) 15 = ((c2 % 16 : Nat) : Int) := by rw [show (15 : Int) = 2 ^ 4 - 1 from rfl, mask_u32 4 (by decide) c2 (by omega) (by omega)]; rfl
      have q5 : bits BinOp.xor IntKind.u32 ((c2 : Int) / 16) (v2 : Int) = ((c2 / 16 ^^^ v2 : Nat) : Int) := by rw [show (c2 : Int) / 16 = ((c2 / 16 : Nat) : Int) from rfl]; exact xor_u32 _ _ (by omega) m2
      have HS3 := Lib.hid HS2
      clear HS HS2
      generalize c2 / 16 ^^^ v2 = c3 at *
      go_wp2
      go_round
      case rel => exact ⟨k + 1, by omega, by go_num, by rw [HS3.out]⟩
      case measure => simp [intOf]; omega
    · obtain rfl : k = n := by omega
      have HC : Hid (((crc xs : Nat) : Int) = 4294967295 - (craw xs : Nat)) := by unfold Hid crc; have := craw_lt xs hb; omega
      rw [show xs.take k = xs from by rw [← Hl.out, List.take_length]] at *
      generalize craw xs = s at *
      clear hr hb
      go_wp2
      go_ret
      go_tidy
      exact ⟨ret_int (by rw [HC.out]; exact not_u32 s hs), rfl⟩

set_option maxHeartbeats 1000000 in
theorem rcrc_any (a : Option Addr) (n cap : Nat) (xs : List Int) (w : World) (hr : Reads .u8 w a n cap xs) (hb : isB xs) :
    Calls Tryd.prog 7 #[.slice a n cap] w fun e w' => e = .returned (.int .u32 (crc xs : Nat)) ∧ w' = w := by
  have hn := hr.n63.1
  have Hl := Lib.hid hr.len
  go_enter Tryd.func7, Tryd.ntmps7
  go_wp2
  go_loop [3, 4] (fun s i => ∃ k : Nat, k ≤ n ∧ i = .int .i64 k ∧ s = .int .u32 (craw (xs.take k) : Nat)) (fun _ i => n - (intOf i).toNat)
  case atStart => exact ⟨0, Nat.zero_le _, rfl, rfl⟩
  case round =>
    obtain ⟨k, hk, rfl, rfl⟩ := hrel
    have hs := craw_lt (xs.take k) (hb.take k)
    by_cases hlt : k < n
    · obtain ⟨b, off, rfl, hc⟩ := hr.cellAt k hlt
      have hx := hb.get k (by rw [Hl.out]; exact hlt)
      have HS : Hid (craw (xs.take (k + 1)) = cstep (craw (xs.take k)) (xs.getD k 0).toNat) := by rw [take_getD xs k (by rw [Hl.out]; exact hlt), craw_snoc]; rfl
      generalize craw (xs.take k) = s at *
      obtain ⟨x, hxe⟩ := Int.eq_ofNat_of_zero_le hx.1
      rw [hxe] at hc hx HS
      clear hxe hr hb
      simp only [Int.toNat_natCast] at HS
      have hx2 : x < 256 := by omega
      have q1 : bits BinOp.xor IntKind.u32 (s : Int) (x : Int) = ((s ^^^ x : Nat) : Int) := xor_u32 _ _ hs (by omega)
      have l1 : s ^^^ x < 2 ^ 32 := Nat.xor_lt_two_pow hs (by omega)
      have HS1 : Hid (craw (xs.take (k + 1)) = stN 8 (s ^^^ x)) := HS.out
      generalize s ^^^ x = c1 at *
      clear HS
      obtain ⟨wo, rfl⟩ : ∃ wo : World, wo = w := ⟨_, rfl⟩
      go_wp2
      go_loop [3, 5] (fun s i => ∃ j : Nat, j ≤ 8 ∧ i = .int .i64 j ∧ s = .int .u32 (stN j c1 : Nat)) (fun _ i => 8 - (intOf i).toNat)
      case atStart => exact ⟨0, by omega, rfl, rfl⟩
      case round =>
        obtain ⟨j, hj, rfl, rfl⟩ := hrel
        have hs1 := stN_lt j c1 l1
        by_cases hlt2 : j < 8
        · have HJ : Hid (stN (j + 1) c1 = st1 (stN j c1)) := stN_succ' j c1
          clear q1
          generalize stN j c1 = d at *
          have p1 : bits BinOp.and IntKind.u32 (d : Int) 1 = ((d % 2 : Nat) : Int) := by rw [show (1 : Int) = 2 ^ 1 - 1 from rfl, mask_u32 1 (by decide) d (by omega) (by omega)]; rfl
          have p2 : bits BinOp.xor IntKind.u32 ((d : Int) / 2) 3988292384 = ((d / 2 ^^^ 3988292384 : Nat) : Int) := by rw [show (d : Int) / 2 = ((d / 2 : Nat) : Int) from rfl]; exact xor_u32 _ _ (by omega) (by decide)
          rcases Nat.mod_two_eq_zero_or_one d with h2 | h2
          · have HJ2 : Hid (stN (j + 1) c1 = d / 2) := by unfold Hid; rw [HJ.out, st1, h2]; simp
            rw [h2] at p1
            clear h2 HJ
            go_wp2
            go_round
            case rel => exact ⟨j + 1, by omega, by go_num, by rw [HJ2.out]; rfl⟩
            case measure => simp [intOf]; omega
          · have HJ2 : Hid (stN (j + 1) c1 = d / 2 ^^^ 3988292384) := by unfold Hid; rw [HJ.out, st1, h2]; simp [poly]
            rw [h2] at p1
            clear h2 HJ
            generalize d / 2 ^^^ 3988292384 = d2 at *
            go_wp2
            go_round
            case rel => exact ⟨j + 1, by omega, by go_num, by rw [HJ2.out]⟩
            case measure => simp [intOf]; omega
        · obtain rfl : j = 8 := by omega
          go_wp2
          go_round
          case rel => exact ⟨k + 1, by omega, by go_num, by rw [HS1.out]⟩
          case measure => simp [intOf]; omega
    · obtain rfl : k = n := by omega
      have HC : Hid (((crc xs : Nat) : Int) = 4294967295 - (craw xs : Nat)) := by unfold Hid crc; have := craw_lt xs hb; omega
      rw [show xs.take k = xs from by rw [← Hl.out, List.take_length]] at *
      generalize craw xs = s at *
      clear hr hb
      go_wp2
      go_ret
      go_tidy
      exact ⟨ret_int (by rw [HC.out]; exact not_u32 s hs), rfl⟩

set_option maxHeartbeats 400000 in
theorem radler_any (a : Option Addr) (n cap : Nat) (xs : List Int) (w : World) (hr : Reads .u8 w a n cap xs) (hb : isB xs) :
    Calls Tryd.prog 9 #[.slice a n cap] w fun e w' => e = .returned (.int .u32 (adler xs)) ∧ w' = w := by
  have hl := hr.n63
  have hl1 := hl.1
  clear hl
  have Hl := Lib.hid hr.len
  go_enter Tryd.func9, Tryd.ntmps9
  go_wp2
  go_loop [3, 4, 5] (fun f s i => ∃ k : Nat, k ≤ n ∧ i = .int .i64 k ∧ f = .int .u32 (adls (xs.take k)).1 ∧ s = .int .u32 (adls (xs.take k)).2) (fun _ _ i => n - (intOf i).toNat)
  case atStart => exact ⟨0, Nat.zero_le _, rfl, rfl, rfl⟩
  case round =>
    obtain ⟨k, hk, rfl, rfl, rfl⟩ := hrel
    have hd := adls_bd (xs.take k)
    by_cases hlt : k < n
    · obtain ⟨b, off, rfl, _, hc⟩ := hr.cells (by omega)
      have hck := hc k hlt
      clear hc
      have hx := hb.get k (by rw [Hl.out]; exact hlt)
      have HS : Hid (adls (xs.take (k + 1)) = adl (adls (xs.take k)) (xs.getD k 0)) := by rw [take_getD xs k (by rw [Hl.out]; exact hlt), adls_snoc]; rfl
      generalize adls (xs.take k) = p at *
      obtain ⟨p1, p2⟩ := p
      generalize xs.getD k 0 = x at *
      simp only at hd
      go_wp2
      go_round
      case rel =>
        refine ⟨k + 1, by omega, by go_num, ?_, ?_⟩
        · rw [HS.out]; simp only [adl]
        · rw [HS.out]; simp only [adl]
      case measure => simp [intOf]; omega
    · obtain rfl : k = n := by omega
      have HT : Hid ((adls xs).2 * 65536 + (adls xs).1 = adler xs) := rfl
      rw [show xs.take k = xs from by rw [← Hl.out, List.take_length]] at *
      have h1 := hd.1; have h2 := hd.2.1; have h3 := hd.2.2.1; have h4 := hd.2.2.2
      generalize (adls xs).1 = x at *
      generalize (adls xs).2 = y at *
      have hor : bits BinOp.or IntKind.u32 (y * 65536) x = y * 65536 + x := or_join_u32 16 _ _ (by omega) (by omega) (by omega) (by omega) (by omega) (by omega)
      clear hr hb hd
      go_wp2
      go_ret
      exact ⟨by rw [← HT.out]; rfl, rfl⟩


def crcTab : List Int := [0, 498536548, 997073096, 651767980, 1994146192, 1802195444, 1303535960, 1342533948, 3988292384, 4027552580, 3604390888, 3412177804, 2607071920, 2262029012, 2685067896, 3183342108]
theorem table_of {w : World} (h : ∀ i : Nat, i < crcTab.length → w.cell? ⟨0, i, Option.none⟩ = some (.int .u32 (crcTab.getD i 0))) : Table w := by
  intro i hi
  rw [h i hi]
  have e : ∀ i : Nat, i < 16 → crcTab.getD i 0 = ((stN 4 i : Nat) : Int) := by decide
  rw [e i hi]
theorem Table.below {w w' : World} (h : Table w) (hb : Below w.heap.size w w') : Table w' := fun i hi =>
  (hb.cell (p := ⟨0, i, Option.none⟩) (World.block_lt_of_cell? _ _ (h i hi))).trans (h i hi)
end Go.Proofs.YtckekklmjegajaaDoor
