/-
  The reference's writer of bits.
-/
import Derived.Test.YteancefgkllgoaaBitsFour
namespace Go.Proofs.Yteancefgkllgoaa
open Go.RowKit

/-- The reference's writer at block g, its bits in block o: the number N, c bits. -/
def RWr (w : World) (g : Nat) (o : Option Nat) (N c : Nat) : Prop :=
  ∃ (a : Option Addr) (cap : Nat) (zs : List Int), (Value.slice a c cap).ownBlock = o ∧ g < w.heap.size ∧ w.cell? ⟨g, 0, Option.none⟩ = some (.slice a c cap) ∧
    w.frozen? ⟨g, 0, Option.none⟩ = false ∧ w.ownsRow (g + 1) 5 1 (.slice a c cap) c (zs.map (Value.int .u8)) ∧ (∀ i, i < c → zs.getD i 0 = ((N / 2 ^ i % 2 : Nat) : Int)) ∧ N < 2 ^ c

theorem RWr.drew {w : World} {g : Nat} {o : Option Nat} {N c : Nat} (h : RWr w g o N c) : RWr w.drew g o N c := h

theorem RWr.keep {w w' : World} {g : Nat} {o : Option Nat} {N c : Nat} (h : RWr w g o N c) (hs : w.heap.size ≤ w'.heap.size) (hg : w'.heap[g]? = w.heap[g]?) (ho : ∀ b, o = some b → w'.heap[b]? = w.heap[b]?) : RWr w' g o N c := by
  obtain ⟨a, cap, zs, e, h1, h2, h3, h4, h5, h6⟩ := h
  refine ⟨a, cap, zs, e, Nat.lt_of_lt_of_le h1 hs, (World.cell?_of_block (a := ⟨g, 0, Option.none⟩) hg).trans h2, (World.frozen?_of_block (a := ⟨g, 0, Option.none⟩) hg).trans h3, ⟨h4.1, ?_⟩, h5, h6⟩
  rcases h4.2 with h | ⟨q, c', cur, e', hq, hh, r⟩
  · exact .inl h
  · refine .inr ⟨q, c', cur, e', hq, ?_, r⟩
    rw [ho q (by rw [← e, e']; rfl), hh]
theorem RWr.lt {w : World} {g : Nat} {o : Option Nat} {N c : Nat} (h : RWr w g o N c) : g < w.heap.size ∧ ∀ b, o = some b → g < b ∧ b < w.heap.size := by
  obtain ⟨a, cap, zs, e, h1, h2, h3, h4, h5, h6⟩ := h
  exact ⟨h1, fun b hb => by have := h4.lt b (e.trans hb); omega⟩
theorem RWr.below {w w' : World} {g : Nat} {o : Option Nat} {N c : Nat} (h : RWr w g o N c) (hb : Below w.heap.size w w') : RWr w' g o N c :=
  h.keep hb.size (hb.block g h.lt.1) (fun b e => hb.block b (h.lt.2 b e).2)
theorem RWr.moved {w w' : World} {g : Nat} {o : Option Nat} {N c : Nat} {g1 : Nat} {o1 o1' : Option Nat} (h : RWr w g o N c) (m : Moved g1 o1 o1' w w') (hne : g ≠ g1) (h1 : o1 ≠ some g) (h2 : o ≠ some g1) (h3 : ∀ b, o = some b → o1 ≠ some b) : RWr w' g o N c :=
  h.keep m.1.size (m.1.block g h.lt.1 (fun e => e.elim hne (fun e => h1 e.symm))) (fun b e => m.1.block b (h.lt.2 b e).2 (fun e' => e'.elim (fun e' => h2 (e' ▸ e)) (fun e' => h3 b e e'.symm)))

theorem dig_low (N x c i : Nat) (h : i < c) : (N + x * 2 ^ c) / 2 ^ i % 2 = N / 2 ^ i % 2 := by
  obtain ⟨d, rfl⟩ : ∃ d, c = i + 1 + d := ⟨c - i - 1, by omega⟩
  have e : x * 2 ^ (i + 1 + d) = 2 ^ i * (2 * (x * 2 ^ d)) := by
    rw [Nat.pow_add, Nat.pow_succ]
    simp only [Nat.mul_comm, Nat.mul_left_comm, Nat.mul_assoc]
  rw [e, Nat.add_mul_div_left _ _ (Nat.pow_pos (by decide))]
  omega
theorem dig_top (N x c : Nat) (h : N < 2 ^ c) (hx : x < 2) : (N + x * 2 ^ c) / 2 ^ c % 2 = x := by
  rw [Nat.add_mul_div_right _ _ (Nat.pow_pos (by decide)), Nat.div_eq_of_lt h]
  omega

theorem rwr_close {wr w2 : World} {g c cap cap' N x : Nat} {o : Option Nat} {a a' : Option Addr} {zs : List Int} {ob : Obj} (ho : (Value.slice a c cap).ownBlock = o) (hg : g < wr.heap.size) (c0 : wr.cell? ⟨g, 0, Option.none⟩ = some (.slice a c cap)) (f0 : wr.frozen? ⟨g, 0, Option.none⟩ = false)
    (own : wr.ownsRow (g + 1) 5 1 (.slice a c cap) c (zs.map (Value.int .u8))) (hz : ∀ i, i < c → zs.getD i 0 = ((N / 2 ^ i % 2 : Nat) : Int)) (hN : N < 2 ^ c) (hx : x < 2)
    (own2 : w2.ownsRow (g + 1) 5 1 (.slice a' (c + 1) cap') (c + 1) ((zs ++ [(x : Int)]).map (Value.int .u8))) (hg2 : (wr.alloc ob).grownBy w2 (Value.slice a c cap).ownBlock)
    (hfr : ∀ r, (Value.slice a' (c + 1) cap').ownBlock = some r → (Value.slice a c cap).ownBlock = some r ∨ wr.heap.size + 1 ≤ r) :
    RWr (w2.setCell ⟨g, 0, Option.none⟩ (.slice a' (c + 1) cap')) g (Value.slice a' (c + 1) cap').ownBlock (N + x * 2 ^ c) (c + 1) ∧ Moved g o (Value.slice a' (c + 1) cap').ownBlock wr (w2.setCell ⟨g, 0, Option.none⟩ (.slice a' (c + 1) cap')) ∧
      w2.cell? ⟨g, 0, Option.none⟩ = some (.slice a c cap) ∧ w2.frozen? ⟨g, 0, Option.none⟩ = false := by
  subst ho
  have hne := owns_ne own
  have hB := grown_block hg2 hg hne
  have d0 := (World.cell?_of_block (a := ⟨g, 0, Option.none⟩) hB).trans c0
  have k0 := (World.frozen?_of_block (a := ⟨g, 0, Option.none⟩) hB).trans f0
  have hsz := hg2.size
  have hl : zs.length = c := by have := own.1; simpa using this
  refine ⟨⟨a', cap', zs ++ [(x : Int)], rfl, by simp at hsz ⊢; omega, World.cell?_setCell_same _ _ _ d0, by simpa [World.frozen?_setCell] using k0, World.ownsRow.kept own2 (grownBy_setCell w2 ⟨g, 0, Option.none⟩ _) (.inr (owns_ne own2).symm), fun i hi => ?_, ?_⟩, (Moved.grown hg2 (by simpa using hfr)).setCell _ _ (.inl rfl), d0, k0⟩
  · by_cases h : i < c
    · rw [dig_low N x c i h, ← hz i h]
      simp [List.getD, List.getElem?_append_left (show i < zs.length by omega)]
    · obtain rfl : i = c := by omega
      rw [dig_top N x i hN hx]
      simp [List.getD, List.getElem?_append_right (show zs.length ≤ i by omega), hl]
  · have : x * 2 ^ c ≤ 1 * 2 ^ c := Nat.mul_le_mul_right _ (by omega)
    rw [Nat.pow_succ]; omega

set_option maxHeartbeats 400000 in
theorem rput_fits (n : Nat) (k : Int) (w : World) (hn : n < 4294967296) (hk : -9223372036854775808 ≤ k ∧ k ≤ 9223372036854775807) :
    Calls Try.prog 31 #[.int .u32 n, .int .i64 k] w fun e w' => e = .returned (.bool (fitB n k)) ∧ w' = w := by
  have HB := fun b h => Lib.hid (show b = fitB n k from (Bool.eq_iff_iff.2 (by rw [fitB, decide_eq_true_iff]; exact h)))
  generalize fitB n k = r at *
  by_cases h1 : 0 ≤ k
  · obtain ⟨m, rfl⟩ := Int.eq_ofNat_of_zero_le h1
    by_cases h2 : (m : Int) ≤ 24
    · go_enter Try.func31, Try.ntmps31
      go_wp2
      go_ret
      refine ⟨ret_bool ((HB _ ?_).out), rfl⟩
      simp
      omega
    · go_enter Try.func31, Try.ntmps31
      go_wp2
      go_ret
      refine ⟨ret_bool ((HB _ ?_).out), rfl⟩
      simp
      omega
  · go_enter Try.func31, Try.ntmps31
    go_wp2
    go_ret
    refine ⟨ret_bool ((HB _ ?_).out), rfl⟩
    simp
    omega

theorem rput_no (p : Option Addr) (n : Nat) (k : Int) (w : World) (hn : n < 4294967296) (hk : -9223372036854775808 ≤ k ∧ k ≤ 9223372036854775807) (h : fitB n k = false) :
    Calls Try.prog 11 #[.pointer p, .int .u32 n, .int .i64 k] w fun e w' => e = .returned (.int .i64 1) ∧ w' = w := by
  go_enter Try.func11, Try.ntmps11
  go_wp2_with fail
  refine (rput_fits n k w hn hk).mono ?_; rintro e w1 ⟨rfl, rfl⟩
  rw [h]
  go_wp2
  go_ret
  exact ⟨rfl, rfl⟩
theorem rcode_no (p : Option Addr) (n : Nat) (k : Int) (w : World) (hn : n < 4294967296) (hk : -9223372036854775808 ≤ k ∧ k ≤ 9223372036854775807) (h : fitB n k = false) :
    Calls Try.prog 13 #[.pointer p, .int .u32 n, .int .i64 k] w fun e w' => e = .returned (.int .i64 1) ∧ w' = w := by
  go_enter Try.func13, Try.ntmps13
  go_wp2_with fail
  refine (rput_fits n k w hn hk).mono ?_; rintro e w1 ⟨rfl, rfl⟩
  rw [h]
  go_wp2
  go_ret
  exact ⟨rfl, rfl⟩

theorem rbits_any {g : Nat} {o : Option Nat} {N c : Nat} {w : World} (hw : RWr w g o N c) :
    Calls Try.prog 17 #[.pointer (some ⟨g, 0, Option.none⟩)] w fun e w' => e = .returned (.int .i64 c) ∧ w' = w := by
  obtain ⟨a, cap, zs, _, _, c0, _⟩ := hw
  go_enter Try.func17, Try.ntmps17
  go_wp2
  go_ret
  exact ⟨rfl, rfl⟩

/-- What the calls of the writer leave. -/
def RPut (g : Nat) (o : Option Nat) (N c : Nat) (w : World) (e : Ending) (w' : World) : Prop := e = .returned (.int .i64 0) ∧ ∃ o', RWr w' g o' N c ∧ Moved g o o' w w'

theorem bit_u32 (q : Nat) (hq : q < 4294967296) : bits .and .u32 (q : Int) 1 = ((q % 2 : Nat) : Int) := by
  have := mask_u32 1 (by omega) (q : Int) (by omega) (by omega)
  simpa using this

set_option maxRecDepth 100000 in
set_option maxHeartbeats 1000000 in
theorem rput_yes (g : Nat) (o : Option Nat) (N c n k : Nat) (w : World) (hw : RWr w g o N c) (hn : n < 2 ^ k) (hk : k ≤ 24) (hc : c ≤ 1000000) :
    Calls Try.prog 11 #[.pointer (some ⟨g, 0, Option.none⟩), .int .u32 n, .int .i64 k] w (RPut g o (N + n * 2 ^ c) (c + k) w) := by
  have hfit := fitB_of hk hn
  have hn32 : n < 4294967296 := Nat.lt_of_lt_of_le hn (Nat.le_trans (Nat.pow_le_pow_right (by decide) hk) (by decide))
  obtain ⟨i0, hi, hz0, hz1, hz2⟩ := info_parts infoC
  have Hi := Lib.hid hi; have Hz0 := Lib.hid hz0; have Hz1 := Lib.hid hz1; have Hz2 := Lib.hid hz2
  have Hn := Lib.hid hn; have HW := Lib.hid hw
  clear hi hz0 hz1 hz2 hn hw
  go_enter Try.func11, Try.ntmps11
  go_wp2_with fail
  refine (rput_fits n k w hn32 (by omega)).mono ?_; rintro e w1 ⟨rfl, rfl⟩
  rw [hfit]
  clear hfit
  go_wp2
  go_loopw [7] (fun vj wr => ∃ (j : Nat) (o' : Option Nat), j ≤ k ∧ vj = .int .i64 j ∧ RWr wr g o' (N + (n % 2 ^ j) * 2 ^ c) (c + j) ∧ Moved g o o' w1 wr) (fun vj _ => k - (intOf vj).toNat)
  case atStart => exact ⟨0, o, Nat.zero_le _, rfl, by simpa [Nat.mod_one] using HW.out, Moved.refl _ _ _⟩
  case round =>
    obtain ⟨j, o', hj, rfl, hw', hm⟩ := hrel
    have HM := Lib.hid hm
    clear hm HW
    by_cases hlt : j < k
    · obtain ⟨a, cap, zs, ho, hg, c0, f0, own, hz, hN⟩ := hw'
      have hM : n / 2 ^ j ≤ n := Nat.div_le_self _ _
      have hx : bits .and .u32 ((n : Int) / 2 ^ j) 1 = ((n / 2 ^ j % 2 : Nat) : Int) := by have := bit_u32 (n / 2 ^ j) (by omega); simpa using this
      have hps := put_step N n c j 1
      rw [show N + n % 2 ^ j * 2 ^ c + n / 2 ^ j % 2 ^ 1 * 2 ^ (c + j) = N + n % 2 ^ j * 2 ^ c + n / 2 ^ j % 2 * 2 ^ (c + j) by simp] at hps
      generalize n / 2 ^ j = q at *
      have hx2 : q % 2 < 2 := Nat.mod_lt _ (by decide)
      have Hps := Lib.hid hps; have HN := Lib.hid hN; have HZ := Lib.hid hz; have HO := Lib.hid ho
      clear hps hN hz ho
      generalize hxx : q % 2 = x at *
      have hx4 : (x : Int) % 256 = x := by omega
      have hrd := reads_alloc (k := .u8) wr [(x : Int)] #[.int .u8 x] 5 (0, 0) rfl (by unfold maxLen; simp) 1 rfl
      go_wp2_with (at_builtin; refine wpList_append_fresh _ rfl _ _ 27 rfl (g + 1) 5 i0 (.int .u8 0) 1 Try.underlying27 Hi.out Hz0.out Hz1.out Hz2.out rfl .u8 a (c + j) cap zs rfl (World.ownsRow.alloc own _) _ 1 1 [(x : Int)] rfl hrd (by omega) (by unfold maxLen; omega) (by omega) (by simp; omega) ?_)
      intro a' cap' w2 own2 hg2 hfr
      obtain ⟨r1, m1, d0, k0⟩ := rwr_close HO.out hg c0 f0 own HZ.out HN.out hx2 (by simpa using own2) hg2 hfr
      have R1 := Lib.hid r1; have M1 := Lib.hid m1
      clear r1 m1 own2 hg2 hfr hrd own c0 f0 hg
      go_wp2_with fail
      go_roundw
      case rel => exact ⟨j + 1, _, by omega, by go_num, by rw [← Hps.out, ← Nat.add_assoc c j 1]; exact R1.out, HM.out.trans M1.out⟩
      case measure => simp [intOf]; omega
    · obtain rfl : j = k := by omega
      go_wp2
      go_ret
      refine ⟨rfl, o', ?_, HM.out⟩
      rw [Nat.mod_eq_of_lt Hn.out] at hw'
      exact hw'
set_option maxRecDepth 100000 in
set_option maxHeartbeats 1000000 in
theorem rcode_yes (g : Nat) (o : Option Nat) (N c n k : Nat) (w : World) (hw : RWr w g o N c) (hn : n < 2 ^ k) (hk : k ≤ 24) (hc : c ≤ 1000000) :
    Calls Try.prog 13 #[.pointer (some ⟨g, 0, Option.none⟩), .int .u32 n, .int .i64 k] w (RPut g o (N + revb n k * 2 ^ c) (c + k) w) := by
  have hfit := fitB_of hk hn
  have hn32 : n < 4294967296 := Nat.lt_of_lt_of_le hn (Nat.le_trans (Nat.pow_le_pow_right (by decide) hk) (by decide))
  obtain ⟨i0, hi, hz0, hz1, hz2⟩ := info_parts infoC
  have Hi := Lib.hid hi; have Hz0 := Lib.hid hz0; have Hz1 := Lib.hid hz1; have Hz2 := Lib.hid hz2
  have Hn := Lib.hid hn; have HW := Lib.hid hw
  clear hi hz0 hz1 hz2 hn hw
  go_enter Try.func13, Try.ntmps13
  go_wp2_with fail
  refine (rput_fits n k w hn32 (by omega)).mono ?_; rintro e w1 ⟨rfl, rfl⟩
  rw [hfit]
  clear hfit
  go_wp2
  go_loopw [7] (fun vj wr => ∃ (j : Nat) (o' : Option Nat), j ≤ k ∧ vj = .int .i64 ((k : Int) - 1 - j) ∧ RWr wr g o' (N + revb (n / 2 ^ (k - j)) j * 2 ^ c) (c + j) ∧ Moved g o o' w1 wr) (fun vj _ => (intOf vj + 1).toNat)
  case atStart => exact ⟨0, o, Nat.zero_le _, by simp, by simpa [revb] using HW.out, Moved.refl _ _ _⟩
  case round =>
    obtain ⟨j, o', hj, rfl, hw', hm⟩ := hrel
    have HM := Lib.hid hm
    clear hm HW
    by_cases hlt : j < k
    · obtain ⟨a, cap, zs, ho, hg, c0, f0, own, hz, hN⟩ := hw'
      have hM : n / 2 ^ (k - 1 - j) ≤ n := Nat.div_le_self _ _
      obtain ⟨r, hr⟩ : ∃ r : Nat, k - 1 - j = r := ⟨_, rfl⟩
      have hkj : (k : Int) - 1 - j = r := by omega
      have hx : bits .and .u32 ((n : Int) / 2 ^ r) 1 = ((n / 2 ^ r % 2 : Nat) : Int) := by have := bit_u32 (n / 2 ^ r) (by rw [hr] at hM; omega); simpa using this
      have hps : N + revb (n / 2 ^ (k - j)) j * 2 ^ c + n / 2 ^ r % 2 * 2 ^ (c + j) = N + revb (n / 2 ^ (k - (j + 1))) (j + 1) * 2 ^ c := by
        rw [revb_top, show k - (j + 1) = r by omega, Nat.div_div_eq_div_mul, ← Nat.pow_succ, show r.succ = k - j by omega, Nat.add_mul, Nat.mul_assoc (n / 2 ^ r % 2), ← Nat.pow_add, Nat.add_comm j c]
        omega
      have hr24 : r < 24 := by omega
      rw [hkj]
      generalize n / 2 ^ r = q at *
      have hx2 : q % 2 < 2 := Nat.mod_lt _ (by decide)
      have Hps := Lib.hid hps; have HN := Lib.hid hN; have HZ := Lib.hid hz; have HO := Lib.hid ho
      have Hkj := Lib.hid hkj; have Hr := Lib.hid hr
      clear hps hN hz ho hkj hr hM
      generalize hxx : q % 2 = x at *
      have hx4 : (x : Int) % 256 = x := by omega
      have hrd := reads_alloc (k := .u8) wr [(x : Int)] #[.int .u8 x] 5 (0, 0) rfl (by unfold maxLen; simp) 1 rfl
      go_wp2_with (at_builtin; refine wpList_append_fresh _ rfl _ _ 27 rfl (g + 1) 5 i0 (.int .u8 0) 1 Try.underlying27 Hi.out Hz0.out Hz1.out Hz2.out rfl .u8 a (c + j) cap zs rfl (World.ownsRow.alloc own _) _ 1 1 [(x : Int)] rfl hrd (by omega) (by unfold maxLen; omega) (by omega) (by simp; omega) ?_)
      intro a' cap' w2 own2 hg2 hfr
      obtain ⟨r1, m1, d0, k0⟩ := rwr_close HO.out hg c0 f0 own HZ.out HN.out hx2 (by simpa using own2) hg2 hfr
      have R1 := Lib.hid r1; have M1 := Lib.hid m1
      clear r1 m1 own2 hg2 hfr hrd own c0 f0 hg
      go_wp2_with fail
      go_roundw
      case rel => exact ⟨j + 1, _, by omega, by have := Hkj.out; congr 1 <;> omega, by rw [← Hps.out, ← Nat.add_assoc c j 1]; exact R1.out, HM.out.trans M1.out⟩
      case measure => have := Hkj.out; simp [intOf]
    · obtain rfl : j = k := by omega
      have hlast : (j : Int) - 1 - j = -1 := by omega
      rw [hlast]
      rw [Nat.sub_self, Nat.pow_zero, Nat.div_one] at hw'
      have HWE := Lib.hid hw'
      clear hw'
      go_wp2
      go_ret
      exact ⟨rfl, o', HWE.out, HM.out⟩

/-- How long the list of bits is. -/
def lenOf (w : World) (g : Nat) : Nat := match w.cell? ⟨g, 0, Option.none⟩ with
  | some (.slice _ n _) => n
  | _ => 0

set_option maxRecDepth 100000 in
set_option maxHeartbeats 1000000 in
theorem rwalign_any (g : Nat) (o : Option Nat) (N c : Nat) (w : World) (hw : RWr w g o N c) (hc : c ≤ 1000000) :
    Calls Try.prog 15 #[.pointer (some ⟨g, 0, Option.none⟩)] w fun e w' => e = .returned (.tuple #[]) ∧ ∃ o', RWr w' g o' N ((c + 7) / 8 * 8) ∧ Moved g o o' w w' := by
  obtain ⟨i0, hi, hz0, hz1, hz2⟩ := info_parts infoC
  have Hi := Lib.hid hi; have Hz0 := Lib.hid hz0; have Hz1 := Lib.hid hz1; have Hz2 := Lib.hid hz2
  have HW := Lib.hid hw
  clear hi hz0 hz1 hz2 hw
  go_enter Try.func15, Try.ntmps15
  go_wp2_with fail
  go_loopw [] (fun wr => ∃ (j : Nat) (o' : Option Nat), c + j ≤ (c + 7) / 8 * 8 ∧ RWr wr g o' N (c + j) ∧ Moved g o o' w wr) (fun wr => (8 - lenOf wr g % 8) % 8)
  case atStart => exact ⟨0, o, by omega, HW.out, Moved.refl _ _ _⟩
  case round =>
    obtain ⟨j, o', hj, hw', hm⟩ := hrel
    have HM := Lib.hid hm
    clear hm HW
    obtain ⟨a, cap, zs, ho, hg, c0, f0, own, hz, hN⟩ := hw'
    have hlen : lenOf wr g = c + j := by unfold lenOf; rw [c0]
    by_cases hlt : (c + j) % 8 = 0
    · have HWE := Lib.hid (show RWr wr g o' N (c + j) from ⟨a, cap, zs, ho, hg, c0, f0, own, hz, hN⟩)
      have hlast : c + j = (c + 7) / 8 * 8 := by omega
      have hr0 : (((c : Int) + (j : Int)) % 8 != 0) = false := by simp; omega
      clear own hz hN
      go_wp2
      go_end0
      exact ⟨rfl, o', by rw [← hlast]; exact HWE.out, HM.out⟩
    · have HN := Lib.hid hN; have HZ := Lib.hid hz; have HO := Lib.hid ho
      have HL := Lib.hid hlen
      have hr0 : (((c : Int) + (j : Int)) % 8 != 0) = true := by simp; omega
      have hcj : c + j ≤ 2000000 := by omega
      have Hj := Lib.hid hj
      clear hN hz ho hlen hj
      have hrd := reads_alloc (k := .u8) wr [0] #[.int .u8 0] 5 (0, 0) rfl (by unfold maxLen; simp) 1 rfl
      go_wp2_with (at_builtin; refine wpList_append_fresh _ rfl _ _ 27 rfl (g + 1) 5 i0 (.int .u8 0) 1 Try.underlying27 Hi.out Hz0.out Hz1.out Hz2.out rfl .u8 a (c + j) cap zs rfl (World.ownsRow.alloc own _) _ 1 1 [0] rfl hrd (by omega) (by unfold maxLen; omega) (by omega) (by simp; omega) ?_)
      intro a' cap' w2 own2 hg2 hfr
      obtain ⟨r1, m1, d0, k0⟩ := rwr_close (x := 0) HO.out hg c0 f0 own HZ.out HN.out (by decide) (by simpa using own2) hg2 hfr
      rw [Nat.zero_mul, Nat.add_zero] at r1
      have R1 := Lib.hid r1; have M1 := Lib.hid m1
      clear r1 m1 own2 hg2 hfr hrd own c0 f0 hg
      go_wp2_with fail
      go_roundw
      case rel => exact ⟨j + 1, _, by have := Hj.out; omega, by rw [← Nat.add_assoc c j 1]; exact R1.out, HM.out.trans M1.out⟩
      case measure =>
        have h1 : lenOf (w2.setCell ⟨g, 0, Option.none⟩ (.slice a' (c + j + 1) cap')) g = c + j + 1 := by unfold lenOf; rw [World.cell?_setCell_same _ _ _ d0]
        have h2 := HL.out
        rw [h1, h2]
        omega
end Go.Proofs.Yteancefgkllgoaa
