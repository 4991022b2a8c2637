/-
  The reference's writer: its bytes.
-/
import Derived.Test.YteancefgkllgoaaBitsWRef
namespace Go.Proofs.Yteancefgkllgoaa
open Go.RowKit

theorem rlit_of_digits (xs : List Int) (N : Nat) (h : ∀ q, q < xs.length → xs.getD q 0 = ((N / 256 ^ q % 256 : Nat) : Int)) : rlit xs = ((N % 256 ^ xs.length : Nat) : Int) := by
  induction xs generalizing N with
  | nil => simp [rlit, Nat.mod_one]
  | cons x xs ih =>
    have h0 := h 0 (by simp)
    have ih' := ih (N / 256) (fun q hq => by
      have := h (q + 1) (by simpa using hq)
      rw [List.getD_cons_succ] at this
      rw [this, Nat.div_div_eq_div_mul, Nat.pow_succ, Nat.mul_comm 256])
    rw [rlit_cons, ih', List.length_cons, Nat.pow_succ, Nat.mul_comm _ 256, Nat.mod_mul]
    simp at h0
    rw [h0]
    simp only [Int.natCast_add, Int.natCast_mul]
    omega

/-- A bit more of the number, seen at a byte. -/
theorem byte_more (N i q : Nat) : N % 2 ^ (i + 1) / 256 ^ q % 256 = if q = i / 8 then N % 2 ^ i / 256 ^ q % 256 + N / 2 ^ i % 2 * 2 ^ (i % 8) else N % 2 ^ i / 256 ^ q % 256 := by
  have e : N % 2 ^ (i + 1) = N % 2 ^ i + 2 ^ i * (N / 2 ^ i % 2) := by rw [Nat.pow_succ, Nat.mod_mul]
  have p : (256 : Nat) ^ q = 2 ^ (8 * q) := by rw [Nat.pow_mul]
  have hb : N / 2 ^ i % 2 < 2 := Nat.mod_lt _ (by decide)
  have hA : N % 2 ^ i < 2 ^ i := Nat.mod_lt _ (Nat.pow_pos (by decide))
  rw [e, p]
  generalize N / 2 ^ i % 2 = b at *
  generalize N % 2 ^ i = A at *
  split
  · next h =>
    subst h
    obtain ⟨u, hu⟩ : ∃ u, i % 8 = u := ⟨_, rfl⟩
    obtain ⟨j, hj⟩ : ∃ j, i / 8 = j := ⟨_, rfl⟩
    have hu8 : u < 8 := by omega
    have hi : i = 8 * j + u := by omega
    rw [hi] at hA
    rw [hu, hj, hi]
    rw [Nat.pow_add, Nat.mul_assoc, Nat.add_mul_div_left _ _ (Nat.pow_pos (by decide))]
    have h1 : A / 2 ^ (8 * j) < 2 ^ u := by
      rw [Nat.div_lt_iff_lt_mul (Nat.pow_pos (by decide)), ← Nat.pow_add, Nat.add_comm]; exact hA
    have h2 : (2 : Nat) ^ u ≤ 2 ^ 7 := Nat.pow_le_pow_right (by decide) (by omega)
    have h3 : 2 ^ u * b ≤ 2 ^ u * 1 := Nat.mul_le_mul_left _ (by omega)
    rw [Nat.mul_comm b]
    generalize A / 2 ^ (8 * j) = y at *
    omega
  · next h =>
    rcases Nat.lt_or_gt_of_ne h with hq | hq
    · obtain ⟨d, hd⟩ : ∃ d, i = 8 * q + 8 + d := ⟨i - 8 * q - 8, by omega⟩
      have e2 : 2 ^ i * b = 2 ^ (8 * q) * (256 * (2 ^ d * b)) := by
        rw [hd, Nat.pow_add, Nat.pow_add]
        simp only [Nat.mul_assoc]
      rw [e2, Nat.add_mul_div_left _ _ (Nat.pow_pos (by decide))]
      omega
    · have h1 : 2 ^ (i + 1) ≤ 2 ^ (8 * q) := Nat.pow_le_pow_right (by decide) (by omega)
      have h3 : 2 ^ i * b ≤ 2 ^ i * 1 := Nat.mul_le_mul_left _ (by omega)
      rw [Nat.pow_succ] at h1
      rw [Nat.div_eq_of_lt (by omega), Nat.div_eq_of_lt (show A < 2 ^ (8 * q) by omega)]

/-- The byte that is stored. -/
theorem or_bit (z b u : Nat) (hz : z < 2 ^ u) (hb : b < 2) (hu : u < 8) : bits .or .u8 (z : Int) ((b : Int) * 2 ^ u % 256) = ((z + b * 2 ^ u : Nat) : Int) := by
  have h2 : (2 : Nat) ^ u ≤ 2 ^ 7 := Nat.pow_le_pow_right (by decide) (by omega)
  have h3 : b * 2 ^ u ≤ 1 * 2 ^ u := Nat.mul_le_mul_right _ (by omega)
  have e2 : ((b * 2 ^ u : Nat) : Int) = (b : Int) * 2 ^ u := by simp
  have e3 : ((b * 2 ^ u : Nat) : Int) % 256 = ((b * 2 ^ u : Nat) : Int) := by omega
  rw [← e2, e3, bits_or_comm, bits_join .u8 8 (by decide) wraps_u8 u ((b * 2 ^ u : Nat) : Int) z (by omega) (by rw [e2]; exact Int.mul_emod_left _ _) (by omega) (by omega) (by exact_mod_cast hz) (by omega)]
  omega

set_option maxRecDepth 100000 in
set_option maxHeartbeats 1000000 in
theorem rwbytes_any {g : Nat} {o : Option Nat} {N c : Nat} {w : World} (hw : RWr w g o N c) (hc : c ≤ 1000000) :
    Calls Try.prog 20 #[.pointer (some ⟨g, 0, Option.none⟩)] w (RetN w N c) := by
  obtain ⟨i0, hi, hz0, hz1, hz2⟩ := info_parts infoC
  have Hi := Lib.hid hi; have Hz0 := Lib.hid hz0; have Hz1 := Lib.hid hz1; have Hz2 := Lib.hid hz2
  have HW := Lib.hid hw
  clear hi hz0 hz1 hz2
  obtain ⟨a, cap, zs, ho, hg, c0, f0, own, hz, hN⟩ := hw
  clear own hz hN ho f0
  obtain ⟨m, hm⟩ : ∃ m : Nat, (c + 7) / 8 = m := ⟨_, rfl⟩
  have hmi : ((c : Int) + 7) / 8 = (m : Int) := by omega
  have HM := Lib.hid hm
  have hm2 : m ≤ 200000 := by omega
  go_enter Try.func20, Try.ntmps20
  go_wp2_with (at_make; refine wpList_make_full _ rfl _ _ 27 rfl w.heap.size 5 i0 (.int .u8 0) 1 Try.underlying27 Hi.out Hz0.out Hz1.out _ _ _ _ m rfl rfl (by first | rfl | omega) (by first | rfl | omega) (by rw [Hz2.out]; omega) (by unfold maxLen; omega) (Nat.le_refl _) ?_)
  intro w2 hown hgrow
  rw [toList_made m .u8] at hown
  have hb0 : Below w.heap.size w w2 := (Below.refl _ _).grown hgrow (Nat.le_refl _) (fun k h => nomatch h)
  clear hgrow
  have c0o := c0
  clear c0
  generalize hgs : w.heap.size = gs at *
  have HG := Lib.hid hgs; clear hgs
  generalize hxs : List.replicate m (0 : Int) = xs at hown
  have Hxs := Lib.hid hxs; clear hxs
  have c0 : w2.cell? ⟨g, 0, Option.none⟩ = some (.slice a c cap) := (hb0.cell (p := ⟨g, 0, Option.none⟩) hg).trans c0o
  clear c0o
  go_wp2_with fail
  clear c0
  go_loopw [4] (fun vi wr => ∃ (i : Nat) (os : List Int), i ≤ c ∧ vi = .int .i64 i ∧ wr.ownsRow gs 5 1 (.slice (some ⟨gs, 0, Option.none⟩) m m) m (os.map (Value.int .u8)) ∧ Below gs w wr ∧ Hid (os.length = m ∧ ∀ q, q < m → os.getD q 0 = ((N % 2 ^ i / 256 ^ q % 256 : Nat) : Int))) (fun vi _ => c - (intOf vi).toNat)
  case atStart =>
    refine ⟨0, xs, Nat.zero_le _, rfl, hown, hb0, ?_⟩
    rw [← Hxs.out]
    exact ⟨by simp, fun q hq => by simp [List.getD, hq, Nat.mod_one]⟩
  case round =>
    obtain ⟨i, os, hi, rfl, ho, hbel, Hy⟩ := hrel
    clear hown hb0 Hxs
    have hR := HW.out.below (by rw [HG.out]; exact hbel)
    have HR := Lib.hid hR
    have HBel := Lib.hid hbel
    obtain ⟨a2, cap2, zs2, _, hg2, c0, _, own, hz, hN⟩ := hR
    clear hbel
    by_cases hlt : i < c
    · obtain ⟨j, hj⟩ : ∃ j : Nat, i / 8 = j := ⟨_, rfl⟩
      obtain ⟨u, hu⟩ : ∃ u : Nat, i % 8 = u := ⟨_, rfl⟩
      have hdiv : (i : Int) / 8 = j := by omega
      have hrem : (i : Int) % 8 = u := by omega
      have hjm : j < m := by have := HM.out; omega
      have hu8 : u < 8 := by omega
      obtain ⟨b2, rfl⟩ : ∃ b, a2 = some ⟨b, 0, Option.none⟩ := by
        obtain ⟨b, e, _⟩ := owns_addr own (by omega)
        exact ⟨b, e⟩
      have x0 := owns_cell own i hlt
      have y0 := owns_cell ho j hjm
      have hfz := ho.frozenAt j
      have bm := byte_more N i j
      rw [if_pos hj.symm, hu] at bm
      have hzi := hz i hlt
      have hyj := Hy.out.2 j hjm
      have hb : N / 2 ^ i % 2 < 2 := Nat.mod_lt _ (by decide)
      have hA : N % 2 ^ i < 2 ^ i := Nat.mod_lt _ (Nat.pow_pos (by decide))
      have hlow : N % 2 ^ i / 256 ^ j % 256 < 2 ^ u := by
        have e : i = 8 * j + u := by omega
        rw [e] at hA ⊢
        have p : (256 : Nat) ^ j = 2 ^ (8 * j) := by rw [Nat.pow_mul]
        rw [p]
        have h1 : N % 2 ^ (8 * j + u) / 2 ^ (8 * j) < 2 ^ u := by
          exact Nat.div_lt_of_lt_mul (by rw [← Nat.pow_add]; exact hA)
        have := Nat.mod_le (N % 2 ^ (8 * j + u) / 2 ^ (8 * j)) 256
        omega
      rw [hzi] at x0
      rw [hyj] at y0
      have ob := or_bit _ _ u hlow hb hu8
      rw [← bm] at ob
      generalize N % 2 ^ i / 256 ^ j % 256 = z at *
      generalize N / 2 ^ i % 2 = x at *
      have HO := Lib.hid ho; have HJ := Lib.hid hj
      have q1 : (i : Int).tdiv 8 = j := by rw [Int.tdiv_eq_ediv_of_nonneg (by omega)]; exact hdiv
      have q2 : IntKind.i64.wrap (j : Int) = j := Go.IntWalk.i64_in _ (by omega)
      have q3 : (j : Int) < m := by omega
      have q4 : (i : Int) < c := by omega
      clear own hz hN hzi hyj hA hlow bm ho hj hu
      go_wp2_with fail
      refine wp_region_still_tail 18 (by kernel_rfl) (by kernel_rfl) ?_
      simp only [List.take_succ_cons, List.take_zero, List.drop_succ_cons, List.drop_zero]
      repeat still_step
      refine wpStill_nil ?_
      change wpList _ _ _ _ _ wr.drew
      go_wp2_with fail
      try rw [ob]
      go_roundw
      case rel =>
        obtain ⟨hyl, hyq⟩ := Hy.out
        refine ⟨i + 1, os.set j _, by omega, by go_num, owns_set HO.out j _, (HBel.out.setCell (p := ⟨gs, j, Option.none⟩) (Nat.le_refl _) _).drew, by simpa using hyl, fun q hq => ?_⟩
        rw [getD_set]
        by_cases e : j = q
        · rw [if_pos ⟨e, by omega⟩, ← e, show min (i % 8) 8 = u by omega]
          exact ob
        · rw [if_neg (fun h => e h.1), hyq q hq, byte_more N i q, if_neg (by have := HJ.out; omega)]
      case measure => simp [intOf]; omega
    · obtain rfl : i = c := by omega
      have HO := Lib.hid ho
      clear own hz ho
      go_wp2
      go_ret
      obtain ⟨hyl, hyq⟩ := Hy.out
      have hmm := HM.out
      subst hmm
      rw [Nat.mod_eq_of_lt hN] at hyq
      refine ⟨_, _, os, rfl, hyl, fun y hy => ?_, ?_, by rw [HG.out]; exact HO.out, by rw [HG.out]; exact HBel.out⟩
      · obtain ⟨q, hq, rfl⟩ := List.getElem_of_mem hy
        have := hyq q (by omega)
        rw [List.getD, List.getElem?_eq_getElem hq] at this
        simp only [Option.getD_some] at this
        rw [this]
        omega
      · rw [rlit_of_digits os N (fun q hq => hyq q (by omega)), Nat.mod_eq_of_lt]
        have p : (256 : Nat) ^ os.length = 2 ^ (8 * os.length) := by rw [Nat.pow_mul]
        rw [p]
        exact Nat.lt_of_lt_of_le hN (Nat.pow_le_pow_right (by decide) (by omega))
end Go.Proofs.Yteancefgkllgoaa
