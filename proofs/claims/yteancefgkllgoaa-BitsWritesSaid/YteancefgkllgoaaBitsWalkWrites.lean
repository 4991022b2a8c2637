/-
  The walk of BitsWrites.
-/
import Derived.Test.YteancefgkllgoaaBitsTwo
import Derived.Test.YteancefgkllgoaaBitsOps
import Derived.Deep.RegionHeld3
import Derived.Deep.DeepCutAuto
namespace Go.Proofs.Yteancefgkllgoaa
open Go.RowKit

set_option maxHeartbeats 1000000 in
theorem writes_not (a : Option Addr) (m ca : Nat) (w : World) (hm : m ≤ 9223372036854775807) (h : ¬ m ≤ 500) :
    Calls Try.prog 3 #[.slice a m ca] w fun e w' => e = .returned (.bool true) ∧ Below w.heap.size w w' := by
  have h2 : (500 : Int) < m := by omega
  go_enter Try.func3, Try.ntmps3
  go_wp2_with fail
  refine (first_any w).mono ?_; rintro e w1 ⟨rfl, b1⟩
  go_wp2_with fail
  refine (newWriter_any w1).mono ?_; rintro e w2 ⟨rfl, W2, s2, b2⟩
  have B2 := Lib.hid (below_size b1 b2)
  clear b1 b2 W2 s2
  go_wp2_with fail
  refine (first_any _).mono ?_; rintro e w3 ⟨rfl, b3⟩
  have B3 : Below w.heap.size w w3 := below_size (B2.out.alloc B2.out.size _) b3
  clear B2
  go_wp2_with fail
  go_ret
  exact ⟨rfl, B3⟩

theorem isB_set' {xs : List Int} (h : isB xs) (i : Nat) (x : Int) (hx : 0 ≤ x ∧ x < 256) : isB (xs.set i x) := fun y hy => (List.mem_or_eq_of_mem_set hy).elim (h y) (fun e => e ▸ hx)

set_option maxRecDepth 100000 in
set_option maxHeartbeats 2000000 in
theorem writes_in (a : Option Addr) (m ca : Nat) (kd ct nm : Nat → Int) (w : World) (ho : Ops w a m ca kd ct nm) (hm : m ≤ 500) :
    Calls Try.prog 3 #[.slice a m ca] w fun e w' => e = .returned (.bool true) ∧ Below w.heap.size w w' := by
  have HO := Lib.hid ho
  have c2 : decide ((500 : Int) < m) = false := by simp; omega
  clear ho
  go_enter Try.func3, Try.ntmps3
  go_wp2_with fail
  refine (first_any w).mono ?_; rintro e w1 ⟨rfl, b1⟩
  replace HO := Lib.hid (HO.out.below b1)
  have BI := Lib.hid b1
  go_wp2_with fail
  refine (newWriter_any w1).mono ?_; rintro e w2 ⟨rfl, W2, s2, b2⟩
  have HW2 := Lib.hid W2
  have hs2 := Lib.hid s2
  have HB2 := Lib.hid b2
  clear b1 b2 W2 s2
  go_wp2_with fail
  have bl : Below w2.heap.size w2 (w2.alloc (.cells #[.slice Option.none 0 0] 29)) := (Below.refl _ _).alloc (Nat.le_refl _) _
  have T0 : TwoW (w2.alloc (.cells #[.slice Option.none 0 0] 29)) w1.heap.size Option.none Option.none 0 0 0 0 := by
    have hh : (w2.alloc (.cells #[.slice Option.none 0 0] 29)).heap[w2.heap.size]? = some (.cells #[.slice Option.none 0 0] 29) := by
      show (w2.heap.push _)[w2.heap.size]? = _
      simp
    rw [hs2.out] at hh
    refine ⟨HW2.out.below bl, ⟨Option.none, 0, [], rfl, by rw [World.size_alloc, hs2.out]; omega, ?_, ?_, World.ownsRow_nil _ _ _ _, fun i hi => absurd hi (Nat.not_lt_zero _), by decide⟩, (fun r h => nomatch h), (fun r h => nomatch h), (fun r h => nomatch h), by rw [World.size_alloc, hs2.out]; omega⟩
    · unfold World.cell?; rw [hh]; rfl
    · unfold World.frozen?; rw [hh]; rfl
  have HT := Lib.hid T0
  have HB := Lib.hid (below_size HB2.out bl)
  clear T0 bl HW2 HB2
  rw [hs2.out]
  generalize w2.alloc (.cells #[.slice Option.none 0 0] 29) = w4 at *
  go_loopw [5] (fun vi wr => ∃ (i c N : Nat) (o ox : Option Nat), i ≤ m ∧ vi = .int .i64 i ∧ c ≤ 32 * i ∧ TwoW wr w1.heap.size o ox N c N c ∧ Below w1.heap.size w1 wr) (fun vi _ => m - (intOf vi).toNat)
  case atStart => exact ⟨0, 0, 0, _, _, Nat.zero_le _, rfl, Nat.zero_le _, HT.out, HB.out⟩
  case round =>
    obtain ⟨i, c, N, o, ox, hi, rfl, hc, hT, hB⟩ := hrel
    clear HT HB
    by_cases hlt : i < m
    · obtain ⟨ga, off, rfl, hgl, k0, k1, k2⟩ := (HO.out.below hB).at i hlt
      obtain ⟨d0, d1, d2⟩ := HO.out.bd i hlt
      obtain ⟨κ, hκ⟩ : ∃ κ, kd i = κ := ⟨_, rfl⟩
      obtain ⟨ψ, hψ⟩ : ∃ ψ, ct i = ψ := ⟨_, rfl⟩
      obtain ⟨ν, hν'⟩ : ∃ ν : Nat, nm i = (ν : Int) := ⟨(nm i).toNat, by omega⟩
      rw [hκ] at k0 d0
      rw [hψ] at k1 d1
      rw [hν'] at k2 d2
      have hν : ν < 4294967296 := by omega
      have HPS := Lib.hid hψ; have HNU := Lib.hid hν'
      clear hκ hψ hν' d2
      have HT := Lib.hid hT; have HB := Lib.hid hB
      clear hT hB
      by_cases e0 : κ = 0
      · subst e0
        have Keep : Hid (∀ w', Below w1.heap.size w1 w' → w'.cell? ⟨ga, off + i * 3 + 1, Option.none⟩ = some (.int .i64 ψ) ∧ w'.cell? ⟨ga, off + i * 3 + 2, Option.none⟩ = some (.int .u32 (ν : Nat))) := by
          refine Lib.hid (fun w' hb' => ?_)
          obtain ⟨ga', off', e, _, _, j1, j2⟩ := (HO.out.below hb').at i hlt
          obtain ⟨rfl, rfl⟩ : ga = ga' ∧ off = off' := by simpa using e
          rw [HPS.out] at j1; rw [HNU.out] at j2
          exact ⟨j1, j2⟩
        clear k1 k2
        go_wp2_with fail
        go_region_held3 (fun w' => w'.cell? ⟨ga, off + i * 3 + 1, Option.none⟩ = some (.int .i64 ψ) ∧ w'.cell? ⟨ga, off + i * 3 + 2, Option.none⟩ = some (.int .u32 (ν : Nat)))
          (first | exact Keep.out _ HB.out.drew | exact Keep.out _ B1 | exact Keep.out _ B2)
          (first
          | (go_at_call 10; refine (put_any ν ψ (HT.out.below (Below.refl _ _).drew).a (by omega) hν d1).mono ?_; rintro e x1 ⟨rfl, o1, R1, M1⟩; have T1 := Lib.hid ((HT.out.below (Below.refl _ _).drew).putA R1 M1); have B1 : Below w1.heap.size w1 x1 := moved_below HB.out.drew M1 (Nat.le_refl _) HB.out.drew.size (fun r hr => by have := HT.out.la r hr; omega))
          | (go_at_call 11; refine (rput_any ν ψ T1.out.b (by omega) hν d1).mono ?_; rintro e x2 ⟨rfl, o2, R2, M2⟩; have T2 := Lib.hid (T1.out.putB R2 M2); have B2 : Below w1.heap.size w1 x2 := moved_below B1 M2 (by omega) B1.size (fun r hr => by have := T1.out.lb r hr; omega)))
        replace HT := T2; replace HB := Lib.hid B2
        clear T1 B1 R1 M1 R2 M2 B2 T2 Keep
        have hc' : pC c ν ψ ≤ 32 * (i + 1) := by have := pC_le c ν ψ; omega
        generalize pN N c ν ψ = N' at *
        generalize pC c ν ψ = c' at *
        go_wp2_with fail
        refine (bits_any HT.out.a).mono ?_; rintro e wy ⟨rfl, rfl⟩
        go_wp2_with fail
        refine (rbits_any HT.out.b).mono ?_; rintro e wy ⟨rfl, rfl⟩
        go_wp2_with fail
        go_roundw
        case rel => exact ⟨i + 1, _, _, _, _, by omega, by go_num, hc', HT.out, HB.out⟩
        case measure => simp [intOf]; omega
      by_cases e1 : κ = 1
      · subst e1
        have Keep : Hid (∀ w', Below w1.heap.size w1 w' → w'.cell? ⟨ga, off + i * 3 + 1, Option.none⟩ = some (.int .i64 ψ) ∧ w'.cell? ⟨ga, off + i * 3 + 2, Option.none⟩ = some (.int .u32 (ν : Nat))) := by
          refine Lib.hid (fun w' hb' => ?_)
          obtain ⟨ga', off', e, _, _, j1, j2⟩ := (HO.out.below hb').at i hlt
          obtain ⟨rfl, rfl⟩ : ga = ga' ∧ off = off' := by simpa using e
          rw [HPS.out] at j1; rw [HNU.out] at j2
          exact ⟨j1, j2⟩
        clear k1 k2
        go_wp2_with fail
        go_region_held3 (fun w' => w'.cell? ⟨ga, off + i * 3 + 1, Option.none⟩ = some (.int .i64 ψ) ∧ w'.cell? ⟨ga, off + i * 3 + 2, Option.none⟩ = some (.int .u32 (ν : Nat)))
          (first | exact Keep.out _ HB.out.drew | exact Keep.out _ B1 | exact Keep.out _ B2)
          (first
          | (go_at_call 12; refine (code_any ν ψ (HT.out.below (Below.refl _ _).drew).a (by omega) hν d1).mono ?_; rintro e x1 ⟨rfl, o1, R1, M1⟩; have T1 := Lib.hid ((HT.out.below (Below.refl _ _).drew).putA R1 M1); have B1 : Below w1.heap.size w1 x1 := moved_below HB.out.drew M1 (Nat.le_refl _) HB.out.drew.size (fun r hr => by have := HT.out.la r hr; omega))
          | (go_at_call 13; refine (rcode_any ν ψ T1.out.b (by omega) hν d1).mono ?_; rintro e x2 ⟨rfl, o2, R2, M2⟩; have T2 := Lib.hid (T1.out.putB R2 M2); have B2 : Below w1.heap.size w1 x2 := moved_below B1 M2 (by omega) B1.size (fun r hr => by have := T1.out.lb r hr; omega)))
        replace HT := T2; replace HB := Lib.hid B2
        clear T1 B1 R1 M1 R2 M2 B2 T2 Keep
        have hc' : pC c ν ψ ≤ 32 * (i + 1) := by have := pC_le c ν ψ; omega
        generalize cN N c ν ψ = N' at *
        generalize pC c ν ψ = c' at *
        go_wp2_with fail
        refine (bits_any HT.out.a).mono ?_; rintro e wy ⟨rfl, rfl⟩
        go_wp2_with fail
        refine (rbits_any HT.out.b).mono ?_; rintro e wy ⟨rfl, rfl⟩
        go_wp2_with fail
        go_roundw
        case rel => exact ⟨i + 1, _, _, _, _, by omega, by go_num, hc', HT.out, HB.out⟩
        case measure => simp [intOf]; omega
      by_cases e2 : κ = 2
      · subst e2
        clear k1 k2
        go_wp2_with fail
        refine (walign_any _ _ _ _ _ HT.out.a (by omega)).mono ?_; rintro e x1 ⟨rfl, R1, M1⟩
        have T1 := Lib.hid (HT.out.putA R1 M1)
        have B1 : Below w1.heap.size w1 x1 := moved_below HB.out M1 (Nat.le_refl _) HB.out.size (fun r hr => by have := HT.out.la r hr; omega)
        clear R1 M1 k0
        go_wp2_with fail
        refine (rwalign_any _ _ _ _ _ T1.out.b (by omega)).mono ?_; rintro e x2 ⟨rfl, o2, R2, M2⟩
        replace HT := Lib.hid (T1.out.putB R2 M2)
        replace HB := Lib.hid (moved_below B1 M2 (by omega) B1.size (fun r hr => by have := T1.out.lb r hr; omega))
        clear T1 B1 R2 M2
        have hc' : (c + 7) / 8 * 8 ≤ 32 * (i + 1) := by omega
        generalize (c + 7) / 8 * 8 = c' at *
        go_wp2_with fail
        refine (bits_any HT.out.a).mono ?_; rintro e wy ⟨rfl, rfl⟩
        go_wp2_with fail
        refine (rbits_any HT.out.b).mono ?_; rintro e wy ⟨rfl, rfl⟩
        go_wp2_with fail
        go_roundw
        case rel => exact ⟨i + 1, _, _, _, _, by omega, by go_num, hc', HT.out, HB.out⟩
        case measure => simp [intOf]; omega
      · clear k1 k2
        have hc' : c ≤ 32 * (i + 1) := by omega
        go_wp2_with fail
        refine (bits_any HT.out.a).mono ?_; rintro e wy ⟨rfl, rfl⟩
        go_wp2_with fail
        refine (rbits_any HT.out.b).mono ?_; rintro e wy ⟨rfl, rfl⟩
        go_wp2_with fail
        go_roundw
        case rel => exact ⟨i + 1, _, _, _, _, by omega, by go_num, hc', HT.out, HB.out⟩
        case measure => simp [intOf]; omega
    · obtain rfl : i = m := by omega
      have HT := Lib.hid hT; have HB := Lib.hid hB
      clear hT hB
      go_wp2_with fail
      refine (wbytes_any HT.out.a (by omega)).mono ?_; rintro e x1 ⟨a1, k1, xs, rfl, hl1, hb1, hv1, o1, b1⟩
      have HT0 := HT
      replace HT := Lib.hid (HT.out.below b1)
      have B1 := Lib.hid b1
      clear b1
      go_wp2_with fail
      refine (rwbytes_any HT.out.b (by omega)).mono ?_; rintro e x2 ⟨a2, k2, ys, rfl, hl2, hb2, hv2, o2, b2⟩
      obtain rfl : xs = ys := bytes_are hl1 hb1 hv1 ys hl2 hb2 hv2
      replace HT := Lib.hid (HT.out.below b2)
      have O1 := Lib.hid (owns_below o1 b2)
      replace B1 := Lib.hid (below_size B1.out b2)
      have O2 := Lib.hid o2
      have HB1 := Lib.hid hb1; have HL1 := Lib.hid hl1
      clear o1 o2 b2 hb1 hb2 hv1 hv2 hl1 hl2
      clear HT
      have hq : (c + 7) / 8 ≤ 100000 := by omega
      have HC := Lib.hid hc
      generalize hcq : (c + 7) / 8 = q at *
      have HCQ := Lib.hid hcq
      clear hcq
      have q1 := bytes_any _ _ _ _ _ _ _ _ _ (reads_of_owns O1.out) (reads_of_owns O2.out) HB1.out HB1.out
      rw [decide_eq_true rfl] at q1
      have Q1 := Lib.hid q1; clear q1
      go_wp2_with fail
      refine Q1.out.mono ?_; rintro e x3 ⟨rfl, rfl⟩
      clear Q1 O2
      go_wp2_with fail
      go_loopw [8] (fun vj wz => ∃ (j : Nat) (zs : List Int), j ≤ q ∧ vj = .int .i64 j ∧ wz.ownsRow wr.heap.size 5 1 (.slice a1 q k1) q (zs.map (Value.int .u8)) ∧ Hid (isB zs) ∧ Hid (zs.length = q) ∧ Below wr.heap.size wr wz) (fun vj _ => q - (intOf vj).toNat)
      case atStart => exact ⟨0, xs, Nat.zero_le _, rfl, O1.out, HB1, HL1, B1.out⟩
      case round =>
        obtain ⟨j, zs, hj, rfl, ho, Hb, Hl, hbz⟩ := hrel
        clear O1 B1
        by_cases hlt : j < q
        · obtain ⟨b, rfl, hbr⟩ := owns_addr ho (by omega)
          have hc := owns_cell ho j hlt
          have hfz := ho.frozenAt j
          have hz := Hb.out.get j (by rw [Hl.out]; exact hlt)
          generalize zs.getD j 0 = z at *
          have OZ := Lib.hid ho; have BZ := Lib.hid hbz
          clear ho hbz
          go_wp2_with fail
          go_roundw
          case rel => exact ⟨j + 1, zs.set j ((z + 1) % 256), by omega, by go_num, owns_set OZ.out j _, Lib.hid (isB_set' Hb.out _ _ (by omega)), Lib.hid (by simpa using Hl.out), BZ.out.setCell (p := ⟨b, j, Option.none⟩) hbr _⟩
          case measure => simp [intOf]; omega
        · have BZ := Lib.hid hbz
          clear ho hbz
          go_wp2_with fail
          refine (first_any _).mono ?_; rintro e x4 ⟨rfl, b4⟩
          replace BZ := Lib.hid (below_size BZ.out b4)
          have HT := Lib.hid (HT0.out.below BZ.out)
          have BA := Lib.hid (HB.out.trans (BZ.out.mono HB.out.size))
          clear b4 BZ HT0 HB
          go_wp2_with fail
          refine (wbytes_any HT.out.a (by have := HC.out; omega)).mono ?_; rintro e x5 ⟨a3, k3, us, rfl, hl1, hb1, hv1, o1, b1⟩
          replace HT := Lib.hid (HT.out.below b1)
          replace BA := Lib.hid (below_size BA.out b1)
          have O1 := Lib.hid o1
          have K1 := Lib.hid (And.intro hl1 (And.intro hb1 hv1))
          clear b1 o1 hl1 hb1 hv1
          rw [HCQ.out]
          go_wp2_with fail
          refine (rwbytes_any HT.out.b (by have := HC.out; omega)).mono ?_; rintro e x6 ⟨a4, k4, vs, rfl, hl2, hb2, hv2, o2, b2⟩
          obtain rfl : us = vs := bytes_are K1.out.1 K1.out.2.1 K1.out.2.2 vs hl2 hb2 hv2
          have O2 := Lib.hid o2
          replace O1 := Lib.hid (owns_below O1.out b2)
          replace BA := Lib.hid (below_size BA.out b2)
          have HB2 := Lib.hid hb2
          clear o2 b2 hl2 hb2 hv2 HT
          have q1 := bytes_any _ _ _ _ _ _ _ _ _ (reads_of_owns O1.out) (reads_of_owns O2.out) HB2.out HB2.out
          rw [decide_eq_true rfl] at q1
          have Q1 := Lib.hid q1; clear q1
          rw [HCQ.out] at *
          go_wp2_with fail
          refine Q1.out.mono ?_; rintro e x7 ⟨rfl, rfl⟩
          go_wp2_with fail
          go_ret
          exact ⟨rfl, BI.out.trans (BA.out.mono BI.out.size)⟩

theorem walk_BitsWrites (a : Option Addr) (m ca : Nat) (kd ct nm : Nat → Int) (w : World) (ho : Ops w a m ca kd ct nm) :
    Calls Try.prog 3 #[.slice a m ca] w fun e w' => e = .returned (.bool true) ∧ Below w.heap.size w w' := by
  by_cases h : m ≤ 500
  · exact writes_in a m ca kd ct nm w ho h
  · exact writes_not a m ca w ho.n63 h
end Go.Proofs.Yteancefgkllgoaa
