/-
  The walk of BitsBack.
-/
import Derived.Test.YteancefgkllgoaaBitsTwo
import Derived.Test.YteancefgkllgoaaBitsDone
import Derived.Test.YteancefgkllgoaaBitsRRef
import Derived.Test.YteancefgkllgoaaBitsWalkEnds
import Derived.Deep.RegionHeld3
import Derived.Deep.DeepCutAuto
import Derived.BigQuiet
namespace Go.Proofs.Yteancefgkllgoaa
open Go.RowKit

theorem infoOp : (Try.prog.info? 32).map (fun i => (i.zero, i.size, i.bytes)) = some (some (.agg #[.int .i64 0, .int .i64 0, .int .u32 0]), 3, 24) := by kernel_rfl

theorem cells_alloc3 (w : World) (x y z : Value) (t : TypeId) (fr : Nat × Nat) : ∀ j u, [x, y, z][j]? = some u → (w.alloc (.cells #[x, y, z] t fr)).cell? ((⟨w.heap.size, 0, Option.none⟩ : Addr).add j) = some u := by
  intro j u hu
  have hh : (w.alloc (.cells #[x, y, z] t fr)).heap[w.heap.size]? = some (.cells #[x, y, z] t fr) := by
    show (w.heap.push _)[w.heap.size]? = _
    simp
  rw [Addr.add_lit]
  unfold World.cell?
  rw [hh]
  simpa using hu

set_option maxRecDepth 100000 in
set_option maxHeartbeats 1000000 in
theorem back_not (a : Option Addr) (m ca : Nat) (w : World) (hm : m ≤ 9223372036854775807) (h : ¬ m ≤ 500) :
    Calls Try.prog 5 #[.slice a m ca] w fun e w' => e = .returned (.bool true) ∧ Below w.heap.size w w' := by
  have h2 : (500 : Int) < m := by omega
  go_enter Try.func5, Try.ntmps5
  go_wp2_with fail
  refine (first_any w).mono ?_; rintro e w1 ⟨rfl, b1⟩
  go_wp2_with fail
  refine (newWriter_any w1).mono ?_; rintro e w2 ⟨rfl, W2, s2, b2⟩
  have B2 := Lib.hid (below_size b1 b2)
  clear b1 b2 W2 s2
  go_wp2_with fail
  refine (first_any _).mono ?_; rintro e w3 ⟨rfl, b3⟩
  have B3 : Below w.heap.size w w3 := below_size B2.out b3
  clear B2
  go_wp2_with fail
  go_ret
  exact ⟨rfl, B3⟩

set_option maxRecDepth 100000 in
set_option maxHeartbeats 1000000 in
theorem back_in (a : Option Addr) (m ca : Nat) (kd ct nm : Nat → Int) (w : World) (ho : Ops w a m ca kd ct nm) (hm : m ≤ 500) :
    Calls Try.prog 5 #[.slice a m ca] w fun e w' => e = .returned (.bool true) ∧ Below w.heap.size w w' := by
  obtain ⟨i0, hi, hz0, hz1, hz2⟩ := info_parts infoOp
  have Hi := Lib.hid hi; have Hz0 := Lib.hid hz0; have Hz1 := Lib.hid hz1; have Hz2 := Lib.hid hz2
  have HO := Lib.hid ho
  have c2 : decide ((500 : Int) < m) = false := by simp; omega
  clear ho hi hz0 hz1 hz2
  go_enter Try.func5, Try.ntmps5
  go_wp2_with fail
  refine (first_any w).mono ?_; rintro e w1 ⟨rfl, b1⟩
  replace HO := Lib.hid (HO.out.below b1)
  have BI := Lib.hid b1
  go_wp2_with fail
  refine (newWriter_any w1).mono ?_; rintro e w2 ⟨rfl, W2, s2, b2⟩
  have HT := Lib.hid (show WD w2 w1.heap.size Option.none (encD []) 0 32 Option.none 0 0 (flatD []) from ⟨W2, World.ownsRow_nil _ _ _ _, fun r h => nomatch h⟩)
  have HB := Lib.hid b2
  clear b1 b2 W2 s2
  go_wp2_with fail
  go_loopw [4, 5, 6] (fun va vc vi wr => ∃ (i c : Nat) (ds : List Dn) (o : Option Nat) (a' : Option Addr) (cap : Nat), i ≤ m ∧ vi = .int .i64 i ∧ va = .slice a' ds.length cap ∧ vc = .int .i64 c ∧ ds.length ≤ i ∧ csum ds = c ∧ c ≤ 24 * i ∧ (∀ d ∈ ds, okD d) ∧ WD wr w1.heap.size o (encD ds) c 32 a' ds.length cap (flatD ds) ∧ Below w1.heap.size w1 wr) (fun _ _ vi _ => m - (intOf vi).toNat)
  case atStart => exact ⟨0, 0, [], _, _, _, Nat.zero_le _, rfl, rfl, rfl, Nat.zero_le _, rfl, Nat.zero_le _, (fun d h => nomatch h), HT.out, HB.out⟩
  case round =>
    obtain ⟨i, c, ds, o, a', cap, hi, rfl, rfl, rfl, hl, hcs0, hc, hok0, hT, hB⟩ := hrel
    have hcs := Lib.hid hcs0; have hok := Lib.hid hok0
    clear HT HB hcs0 hok0
    by_cases hlt : i < m
    · obtain ⟨ga, off, rfl, hgl, k0, k1, k2⟩ := (HO.out.below hB).at i hlt
      obtain ⟨d0, d1, d2⟩ := HO.out.bd i hlt
      obtain ⟨κ, hκ⟩ : ∃ κ, kd i = κ := ⟨_, rfl⟩
      obtain ⟨ψ, hψ⟩ : ∃ ψ, ct i = ψ := ⟨_, rfl⟩
      obtain ⟨ν, hν'⟩ : ∃ ν : Nat, nm i = (ν : Int) := ⟨(nm i).toNat, by omega⟩
      rw [hκ] at k0 d0
      rw [hψ] at k1 d1
      rw [hν'] at k2 d2
      have hν : ν < 4294967296 := by omega
      have HKA := Lib.hid hκ; have HPS := Lib.hid hψ; have HNU := Lib.hid hν'
      clear hκ hψ hν' d2
      have HT := Lib.hid hT; have HB := Lib.hid hB
      clear hT hB
      by_cases e0 : κ = 0
      · subst e0
        have Keep : Hid (∀ w', Below w1.heap.size w1 w' → w'.cell? ⟨ga, off + i * 3, Option.none⟩ = some (.int .i64 0) ∧ w'.cell? ⟨ga, off + i * 3 + 1, Option.none⟩ = some (.int .i64 ψ) ∧ w'.cell? ⟨ga, off + i * 3 + 2, Option.none⟩ = some (.int .u32 (ν : Nat))) := by
          refine Lib.hid (fun w' hb' => ?_)
          obtain ⟨ga', off', e, _, j0, j1, j2⟩ := (HO.out.below hb').at i hlt
          obtain ⟨rfl, rfl⟩ : ga = ga' ∧ off = off' := by simpa using e
          rw [HKA.out] at j0; rw [HPS.out] at j1; rw [HNU.out] at j2
          exact ⟨j0, j1, j2⟩
        clear k1 k2
        go_wp2_with fail
        go_region_held3 (fun w' => w'.cell? ⟨ga, off + i * 3, Option.none⟩ = some (.int .i64 0) ∧ w'.cell? ⟨ga, off + i * 3 + 1, Option.none⟩ = some (.int .i64 ψ) ∧ w'.cell? ⟨ga, off + i * 3 + 2, Option.none⟩ = some (.int .u32 (ν : Nat)))
          (first | exact Keep.out _ HB.out.drew | exact Keep.out _ B1)
          (first
          | (go_at_call 10; refine (put_any ν ψ (HT.out.below (Below.refl _ _).drew).wr (by omega) hν d1).mono ?_; rintro e x1 ⟨rfl, o1, R1, M1⟩; have T1 := Lib.hid ((HT.out.below (Below.refl _ _).drew).put R1 M1); have B1 : Below w1.heap.size w1 x1 := moved_below HB.out.drew M1 (Nat.le_refl _) HB.out.drew.size (fun r hr => by have := (HT.out.wr.lt.2 r hr).1; omega)))
        replace HT := T1; replace HB := Lib.hid B1
        clear T1 B1 R1 M1 k0
        obtain ⟨k0, k1, k2⟩ := Keep.out _ HB.out
        have K0 : ∀ q, (x1.drewN q).cell? ⟨ga, off + i * 3 + 1, Option.none⟩ = some (.int .i64 ψ) := fun q => k1
        have K1 : ∀ q, (x1.drewN q).cell? ⟨ga, off + i * 3 + 2, Option.none⟩ = some (.int .u32 (ν : Nat)) := fun q => k2
        clear k0 k1 k2
        by_cases hfit : fitB ν ψ = true
        · obtain ⟨mm, rfl, hm24, hn2⟩ := of_fitB hfit
          have hmx : max (mm : Int) 0 = mm := by omega
          have h24 : (mm : Int) ≤ 24 := by omega
          have hq0 : (ν : Int) / 2 ^ mm = 0 := by
            have h1 : ((ν / 2 ^ mm : Nat) : Int) = 0 := by rw [Nat.div_eq_of_lt hn2]; rfl
            simpa using h1
          have hE : pE ν (mm : Int) = 0 := by rw [pE, if_pos hfit]
          have hN : pN (encD ds) c ν (mm : Int) = encD (ds ++ [(false, mm, ν)]) := by rw [pN, if_pos hfit, encD_append, hcs.out]; simp [vD]
          have hC : pC c ν (mm : Int) = c + mm := by rw [pC, if_pos hfit]; simp
          rw [hE]
          rw [hN, hC] at HT
          clear hE hN hC hfit
          go_wp2_with fail
          go_quiet (fail)
          clear K0 K1 hmx hq0
          replace HT := Lib.hid (HT.out.below (below_drewN (Below.refl _ _) nq))
          replace HB := Lib.hid (below_drewN HB.out nq)
          generalize x1.drewN nq = x2 at *
          go_wp2_with fail
          go_region_held3 (fun w' => w'.cell? ⟨ga, off + i * 3, Option.none⟩ = some (.int .i64 0) ∧ w'.cell? ⟨ga, off + i * 3 + 1, Option.none⟩ = some (.int .i64 (mm : Nat)) ∧ w'.cell? ⟨ga, off + i * 3 + 2, Option.none⟩ = some (.int .u32 (ν : Nat)))
            (first | exact Keep.out _ HB.out.drew | exact Keep.out _ (HB.out.drew.alloc HB.out.drew.size _) | exact Keep.out _ B3)
            (first
            | (refine step_append_any rfl _ _ 22 rfl (w1.heap.size + 1) 32 i0 _ 3 24 Try.underlying22 Hi.out Hz0.out Hz1.out Hz2.out rfl (by decide) a' ds.length cap (flatD ds) rfl (World.ownsRow.alloc (HT.out.below (Below.refl _ _).drew).row _) _ 1 1 _ rfl rfl (cells_alloc3 _ _ _ _ _ _) (by simp [Value.oneCell']) (by decide) (by unfold maxLen; omega) (by omega) (by have := HB.out.size; have := (HT.out.wr.lt).1; simp; omega) ?_; intro a2 cap2 x3 r3 g3 f3; have T3 := Lib.hid ((HT.out.below ((Below.refl _ _).drew.alloc (Nat.le_refl _) _)).app r3 g3 f3); have B3 : Below w1.heap.size w1 x3 := (HB.out.drew.alloc HB.out.drew.size _).grown g3 (by have := HB.out.size; simp; omega) (fun k hk => by have := (HT.out.row.lt k hk).1; omega)))
          have hw : IntKind.i64.wrap ((c : Int) + (mm : Int)) = ((c + mm : Nat) : Int) := by rw [Go.IntWalk.i64_in _ (by omega)]; simp
          rw [hw]
          have HB3 := Lib.hid B3
          have hok2 : ∀ d ∈ ds ++ [(false, mm, ν)], okD d := fun d hd => (List.mem_append.1 hd).elim (hok.out d) (fun h => by simp at h; subst h; exact ⟨hm24, hn2⟩)
          have Hok2 := Lib.hid hok2
          clear r3 g3 f3 B3 hw hok2 Keep HT HB
          go_wp2_with fail
          go_roundw
          case rel =>
            refine ⟨i + 1, c + mm, ds ++ [(false, mm, ν)], o1, a2, cap2, by omega, by go_num, by simp, rfl, by simp; omega, by rw [csum_append, hcs.out]; simp [csum], by omega, Hok2.out, ?_, HB3.out⟩
            rw [flatD_append, List.length_append]
            simpa [flatD] using T3.out
          case measure => simp [intOf]; omega
        · have hE : pE ν ψ = 1 := by rw [pE, if_neg hfit]
          have hN : pN (encD ds) c ν ψ = encD ds := by rw [pN, if_neg hfit]
          have hC : pC c ν ψ = c := by rw [pC, if_neg hfit]
          rw [hE]
          rw [hN, hC] at HT
          clear hE hN hC Keep
          by_cases u0 : 0 ≤ ψ
          · obtain ⟨mm, rfl⟩ := Int.eq_ofNat_of_zero_le u0
            by_cases u1 : (mm : Int) ≤ 24
            · have hmx : max (mm : Int) 0 = mm := by omega
              have hq0 : ¬ (ν : Int) / 2 ^ mm = 0 := fun h => hfit (by
                unfold fitB
                rw [decide_eq_true_iff]
                exact ⟨by omega, u1, by simpa using h⟩)
              have hq1 : ((ν : Int) / 2 ^ mm == 0) = false := by simpa using hq0
              have hdv : 0 ≤ (ν : Int) / 2 ^ mm ∧ (ν : Int) / 2 ^ mm ≤ 4294967295 := by
                have e : (ν : Int) / 2 ^ mm = ((ν / 2 ^ mm : Nat) : Int) := by simp
                have := Nat.div_le_self ν (2 ^ mm)
                rw [e]
                generalize ν / 2 ^ mm = z at *
                omega
              clear hfit
              go_wp2_with fail
              go_quiet (fail)
              replace HT := Lib.hid (HT.out.below (below_drewN (Below.refl _ _) nq))
              replace HB := Lib.hid (below_drewN HB.out nq)
              clear K0 K1
              go_wp2_with fail
              go_roundw
              case rel => exact ⟨i + 1, c, ds, _, a', cap, by omega, by go_num, rfl, rfl, by omega, hcs.out, by omega, hok.out, HT.out, HB.out⟩
              case measure => simp [intOf]; omega
            · have u2' : decide ((mm : Int) ≤ 24) = false := by simp; omega
              clear hfit
              go_wp2_with fail
              go_quiet (fail)
              replace HT := Lib.hid (HT.out.below (below_drewN (Below.refl _ _) nq))
              replace HB := Lib.hid (below_drewN HB.out nq)
              clear K0 K1
              go_wp2_with fail
              go_roundw
              case rel => exact ⟨i + 1, c, ds, _, a', cap, by omega, by go_num, rfl, rfl, by omega, hcs.out, by omega, hok.out, HT.out, HB.out⟩
              case measure => simp [intOf]; omega
          · have u2' : decide (0 ≤ ψ) = false := by simp; omega
            clear hfit
            go_wp2_with fail
            go_quiet (fail)
            replace HT := Lib.hid (HT.out.below (below_drewN (Below.refl _ _) nq))
            replace HB := Lib.hid (below_drewN HB.out nq)
            clear K0 K1
            go_wp2_with fail
            go_roundw
            case rel => exact ⟨i + 1, c, ds, _, a', cap, by omega, by go_num, rfl, rfl, by omega, hcs.out, by omega, hok.out, HT.out, HB.out⟩
            case measure => simp [intOf]; omega
      by_cases e1 : κ = 1
      · subst e1
        have Keep : Hid (∀ w', Below w1.heap.size w1 w' → w'.cell? ⟨ga, off + i * 3, Option.none⟩ = some (.int .i64 1) ∧ w'.cell? ⟨ga, off + i * 3 + 1, Option.none⟩ = some (.int .i64 ψ) ∧ w'.cell? ⟨ga, off + i * 3 + 2, Option.none⟩ = some (.int .u32 (ν : Nat))) := by
          refine Lib.hid (fun w' hb' => ?_)
          obtain ⟨ga', off', e, _, j0, j1, j2⟩ := (HO.out.below hb').at i hlt
          obtain ⟨rfl, rfl⟩ : ga = ga' ∧ off = off' := by simpa using e
          rw [HKA.out] at j0; rw [HPS.out] at j1; rw [HNU.out] at j2
          exact ⟨j0, j1, j2⟩
        clear k1 k2
        go_wp2_with fail
        go_region_held3 (fun w' => w'.cell? ⟨ga, off + i * 3, Option.none⟩ = some (.int .i64 1) ∧ w'.cell? ⟨ga, off + i * 3 + 1, Option.none⟩ = some (.int .i64 ψ) ∧ w'.cell? ⟨ga, off + i * 3 + 2, Option.none⟩ = some (.int .u32 (ν : Nat)))
          (first | exact Keep.out _ HB.out.drew | exact Keep.out _ B1)
          (first
          | (go_at_call 12; refine (code_any ν ψ (HT.out.below (Below.refl _ _).drew).wr (by omega) hν d1).mono ?_; rintro e x1 ⟨rfl, o1, R1, M1⟩; have T1 := Lib.hid ((HT.out.below (Below.refl _ _).drew).put R1 M1); have B1 : Below w1.heap.size w1 x1 := moved_below HB.out.drew M1 (Nat.le_refl _) HB.out.drew.size (fun r hr => by have := (HT.out.wr.lt.2 r hr).1; omega)))
        replace HT := T1; replace HB := Lib.hid B1
        clear T1 B1 R1 M1 k0
        obtain ⟨k0, k1, k2⟩ := Keep.out _ HB.out
        have K0 : ∀ q, (x1.drewN q).cell? ⟨ga, off + i * 3 + 1, Option.none⟩ = some (.int .i64 ψ) := fun q => k1
        have K1 : ∀ q, (x1.drewN q).cell? ⟨ga, off + i * 3 + 2, Option.none⟩ = some (.int .u32 (ν : Nat)) := fun q => k2
        clear k0 k1 k2
        by_cases hfit : fitB ν ψ = true
        · obtain ⟨mm, rfl, hm24, hn2⟩ := of_fitB hfit
          have hmx : max (mm : Int) 0 = mm := by omega
          have h24 : (mm : Int) ≤ 24 := by omega
          have hq0 : (ν : Int) / 2 ^ mm = 0 := by
            have h1 : ((ν / 2 ^ mm : Nat) : Int) = 0 := by rw [Nat.div_eq_of_lt hn2]; rfl
            simpa using h1
          have hE : pE ν (mm : Int) = 0 := by rw [pE, if_pos hfit]
          have hN : cN (encD ds) c ν (mm : Int) = encD (ds ++ [(true, mm, ν)]) := by rw [cN, if_pos hfit, encD_append, hcs.out]; simp [vD]
          have hC : pC c ν (mm : Int) = c + mm := by rw [pC, if_pos hfit]; simp
          rw [hE]
          rw [hN, hC] at HT
          clear hE hN hC hfit
          go_wp2_with fail
          go_quiet (fail)
          clear K0 K1 hmx hq0
          replace HT := Lib.hid (HT.out.below (below_drewN (Below.refl _ _) nq))
          replace HB := Lib.hid (below_drewN HB.out nq)
          generalize x1.drewN nq = x2 at *
          go_wp2_with fail
          go_region_held3 (fun w' => w'.cell? ⟨ga, off + i * 3, Option.none⟩ = some (.int .i64 1) ∧ w'.cell? ⟨ga, off + i * 3 + 1, Option.none⟩ = some (.int .i64 (mm : Nat)) ∧ w'.cell? ⟨ga, off + i * 3 + 2, Option.none⟩ = some (.int .u32 (ν : Nat)))
            (first | exact Keep.out _ HB.out.drew | exact Keep.out _ (HB.out.drew.alloc HB.out.drew.size _) | exact Keep.out _ B3)
            (first
            | (refine step_append_any rfl _ _ 22 rfl (w1.heap.size + 1) 32 i0 _ 3 24 Try.underlying22 Hi.out Hz0.out Hz1.out Hz2.out rfl (by decide) a' ds.length cap (flatD ds) rfl (World.ownsRow.alloc (HT.out.below (Below.refl _ _).drew).row _) _ 1 1 _ rfl rfl (cells_alloc3 _ _ _ _ _ _) (by simp [Value.oneCell']) (by decide) (by unfold maxLen; omega) (by omega) (by have := HB.out.size; have := (HT.out.wr.lt).1; simp; omega) ?_; intro a2 cap2 x3 r3 g3 f3; have T3 := Lib.hid ((HT.out.below ((Below.refl _ _).drew.alloc (Nat.le_refl _) _)).app r3 g3 f3); have B3 : Below w1.heap.size w1 x3 := (HB.out.drew.alloc HB.out.drew.size _).grown g3 (by have := HB.out.size; simp; omega) (fun k hk => by have := (HT.out.row.lt k hk).1; omega)))
          have hw : IntKind.i64.wrap ((c : Int) + (mm : Int)) = ((c + mm : Nat) : Int) := by rw [Go.IntWalk.i64_in _ (by omega)]; simp
          rw [hw]
          have HB3 := Lib.hid B3
          have hok2 : ∀ d ∈ ds ++ [(true, mm, ν)], okD d := fun d hd => (List.mem_append.1 hd).elim (hok.out d) (fun h => by simp at h; subst h; exact ⟨hm24, hn2⟩)
          have Hok2 := Lib.hid hok2
          clear r3 g3 f3 B3 hw hok2 Keep HT HB
          go_wp2_with fail
          go_roundw
          case rel =>
            refine ⟨i + 1, c + mm, ds ++ [(true, mm, ν)], o1, a2, cap2, by omega, by go_num, by simp, rfl, by simp; omega, by rw [csum_append, hcs.out]; simp [csum], by omega, Hok2.out, ?_, HB3.out⟩
            rw [flatD_append, List.length_append]
            simpa [flatD] using T3.out
          case measure => simp [intOf]; omega
        · have hE : pE ν ψ = 1 := by rw [pE, if_neg hfit]
          have hN : cN (encD ds) c ν ψ = encD ds := by rw [cN, if_neg hfit]
          have hC : pC c ν ψ = c := by rw [pC, if_neg hfit]
          rw [hE]
          rw [hN, hC] at HT
          clear hE hN hC Keep
          by_cases u0 : 0 ≤ ψ
          · obtain ⟨mm, rfl⟩ := Int.eq_ofNat_of_zero_le u0
            by_cases u1 : (mm : Int) ≤ 24
            · have hmx : max (mm : Int) 0 = mm := by omega
              have hq0 : ¬ (ν : Int) / 2 ^ mm = 0 := fun h => hfit (by
                unfold fitB
                rw [decide_eq_true_iff]
                exact ⟨by omega, u1, by simpa using h⟩)
              have hq1 : ((ν : Int) / 2 ^ mm == 0) = false := by simpa using hq0
              have hdv : 0 ≤ (ν : Int) / 2 ^ mm ∧ (ν : Int) / 2 ^ mm ≤ 4294967295 := by
                have e : (ν : Int) / 2 ^ mm = ((ν / 2 ^ mm : Nat) : Int) := by simp
                have := Nat.div_le_self ν (2 ^ mm)
                rw [e]
                generalize ν / 2 ^ mm = z at *
                omega
              clear hfit
              go_wp2_with fail
              go_quiet (fail)
              replace HT := Lib.hid (HT.out.below (below_drewN (Below.refl _ _) nq))
              replace HB := Lib.hid (below_drewN HB.out nq)
              clear K0 K1
              go_wp2_with fail
              go_roundw
              case rel => exact ⟨i + 1, c, ds, _, a', cap, by omega, by go_num, rfl, rfl, by omega, hcs.out, by omega, hok.out, HT.out, HB.out⟩
              case measure => simp [intOf]; omega
            · have u2' : decide ((mm : Int) ≤ 24) = false := by simp; omega
              clear hfit
              go_wp2_with fail
              go_quiet (fail)
              replace HT := Lib.hid (HT.out.below (below_drewN (Below.refl _ _) nq))
              replace HB := Lib.hid (below_drewN HB.out nq)
              clear K0 K1
              go_wp2_with fail
              go_roundw
              case rel => exact ⟨i + 1, c, ds, _, a', cap, by omega, by go_num, rfl, rfl, by omega, hcs.out, by omega, hok.out, HT.out, HB.out⟩
              case measure => simp [intOf]; omega
          · have u2' : decide (0 ≤ ψ) = false := by simp; omega
            clear hfit
            go_wp2_with fail
            go_quiet (fail)
            replace HT := Lib.hid (HT.out.below (below_drewN (Below.refl _ _) nq))
            replace HB := Lib.hid (below_drewN HB.out nq)
            clear K0 K1
            go_wp2_with fail
            go_roundw
            case rel => exact ⟨i + 1, c, ds, _, a', cap, by omega, by go_num, rfl, rfl, by omega, hcs.out, by omega, hok.out, HT.out, HB.out⟩
            case measure => simp [intOf]; omega
      · clear k1 k2
        go_wp2_with fail
        go_roundw
        case rel => exact ⟨i + 1, c, ds, o, a', cap, by omega, by go_num, rfl, rfl, by omega, hcs.out, by omega, hok.out, HT.out, HB.out⟩
        case measure => simp [intOf]; omega
    · obtain rfl : i = m := by omega
      have HT := Lib.hid hT; have HB := Lib.hid hB
      clear hT hB
      go_wp2_with fail
      refine (bits_any HT.out.wr).mono ?_; rintro e wy ⟨rfl, rfl⟩
      go_wp2_with fail
      refine (wbytes_any HT.out.wr (by omega)).mono ?_; rintro e x1 ⟨a1, k1, xs, rfl, _, _, _, _, b1⟩
      replace HT := Lib.hid (HT.out.below b1)
      replace HB := Lib.hid (below_size HB.out b1)
      clear b1
      have hq : (((c + 7) / 8 : Nat) : Int) = ((c : Int) + 7) / 8 := by omega
      go_wp2_with fail
      refine (wbytes_any HT.out.wr (by omega)).mono ?_; rintro e x2 ⟨a2, k2, ys, rfl, hl2, hb2, hv2, o2, b2⟩
      replace HT := Lib.hid (HT.out.below b2)
      replace HB := Lib.hid (below_size HB.out b2)
      have O2 := Lib.hid o2; have HL := Lib.hid hl2; have HBy := Lib.hid hb2; have HV := Lib.hid hv2
      clear b2 o2 hl2 hb2 hv2
      go_wp2_with fail
      refine (newReader_any a2 _ k2 ys x2 (reads_of_owns O2.out) HBy.out (by omega)).mono ?_; rintro e x3 ⟨gr, rfl, R3, hgr, b3⟩
      have HR := Lib.hid R3; have B3 := Lib.hid b3
      clear R3 b3 O2
      have Keep : Hid (∀ j, (hj : j < ds.length) → ∃ gd, a' = some ⟨gd, 0, Option.none⟩ ∧ ∀ w', Below x2.heap.size x2 w' → w'.cell? ⟨gd, j * 3, Option.none⟩ = some (.int .i64 (if ds[j].1 = true then 1 else 0)) ∧ w'.cell? ⟨gd, j * 3 + 1, Option.none⟩ = some (.int .i64 (ds[j].2.1 : Nat)) ∧ w'.cell? ⟨gd, j * 3 + 2, Option.none⟩ = some (.int .u32 (ds[j].2.2 : Nat))) := by
        refine Lib.hid (fun j hj => ?_)
        have row := HT.out.row
        rcases id row.2 with ⟨_, h0⟩ | ⟨gd, _, _, e, _⟩
        · omega
        · obtain ⟨rfl, rfl⟩ := (by simpa using e : a' = some ⟨gd, 0, Option.none⟩ ∧ _)
          refine ⟨gd, rfl, fun w' hb' => ?_⟩
          have r2 : w'.ownsRow (w1.heap.size + 1) 32 3 (.slice (some ⟨gd, 0, Option.none⟩) ds.length cap) ds.length (flatD ds) := owns_keep row (fun r e => hb'.block r (row.lt r e).2)
          obtain ⟨f0, f1, f2⟩ := flatD_get ds j hj
          have q0 := r2.cells (g := gd) rfl _ _ f0
          have q1 := r2.cells (g := gd) rfl _ _ f1
          have q2 := r2.cells (g := gd) rfl _ _ f2
          rw [Addr.add_lit, Nat.zero_add] at q0 q1 q2
          exact ⟨q0, q1, q2⟩
      go_wp2_with fail
      go_loopw [10] (fun vi wr => ∃ j, j ≤ ds.length ∧ vi = .int .i64 j ∧ Rdr wr gr ys (csum (ds.take j)) ∧ Below x2.heap.size x2 wr) (fun vi _ => ds.length - (intOf vi).toNat)
      case atStart => exact ⟨0, Nat.zero_le _, rfl, by simpa [csum] using HR.out, B3.out⟩
      case round =>
        obtain ⟨j, hj, rfl, hR, hB⟩ := hrel
        clear HR B3
        have HR := Lib.hid hR; have B4 := Lib.hid hB
        clear hR hB
        by_cases hjl : j < ds.length
        · obtain ⟨gd, rfl, kp⟩ := Keep.out j hjl
          have hge := encD_get ds hok.out j hjl
          have hct := csum_take ds j hjl
          have hcl := csum_le ds (j + 1)
          have hod := hok.out _ (List.getElem_mem hjl)
          obtain ⟨⟨bk, k, n⟩, hd⟩ : ∃ d, ds[j] = d := ⟨_, rfl⟩
          rw [hd] at hge hct hod
          simp only [hd] at kp
          rw [hct, hcs.out] at hcl
          have KP := Lib.hid kp
          have HCT := Lib.hid hct
          clear kp hd hct
          obtain ⟨hk24, hn2⟩ := hod
          dsimp only at hk24 hn2 hge hcl
          have hn32 : n < 4294967296 := Nat.lt_of_lt_of_le hn2 (Nat.le_trans (Nat.pow_le_pow_right (by decide) hk24) (by decide))
          generalize csum (ds.take j) = p at *
          obtain ⟨k0, k1, k2⟩ := KP.out _ B4.out
          have hlen : p + k ≤ 8 * ys.length := by have := HL.out; omega
          have HLN := Lib.hid hlen
          have HGE := Lib.hid hge
          clear hlen hge
          cases bk with
          | false =>
            go_wp2_with fail
            refine (get_yes k _ HR.out HV.out hk24 HLN.out).mono ?_; rintro e w4 ⟨rfl, R4, O4⟩
            replace HR := Lib.hid R4
            replace B4 := Lib.hid (B4.out.trans (O4.below.mono hgr))
            rw [HGE.out]
            have hvd : vD (false, k, n) = n := by simp [vD]
            rw [hvd]
            clear R4 O4 k0 k1 k2 hvd
            obtain ⟨k0, k1, k2⟩ := KP.out _ B4.out
            go_wp2_with fail
            go_loopw [11, 14] (fun vv vk wz => vv = .int .u32 (n : Nat) ∧ vk = .int .i64 0 ∧ wz = w4) (fun _ _ _ => 0)
            case atStart => exact ⟨rfl, rfl, rfl⟩
            case round =>
              obtain ⟨rfl, rfl, rfl⟩ := hrel
              by_cases hk0 : k = 0
              · subst hk0
                go_wp2_with fail
                go_roundw
                case rel => exact ⟨j + 1, by omega, by go_num, by rw [HCT.out]; exact HR.out, B4.out⟩
                case measure => simp [intOf]; omega
              · have hk1 : decide ((0 : Int) < k) = true := by simp; omega
                go_wp2_with fail
                go_roundw
                case rel => exact ⟨j + 1, by omega, by go_num, by rw [HCT.out]; exact HR.out, B4.out⟩
                case measure => simp [intOf]; omega
          | true =>
            clear k0 k1 k2
            obtain ⟨k0, k1, k2⟩ := KP.out _ B4.out
            go_wp2_with fail
            clear k0 k1 k2
            go_loopw [11, 14] (fun vv vk wz => ∃ q : Nat, q ≤ k ∧ vv = .int .u32 ((n / 2 ^ (k - q) : Nat) : Int) ∧ vk = .int .i64 q ∧ Rdr wz gr ys (p + q) ∧ Below x2.heap.size x2 wz) (fun _ vk _ => k - (intOf vk).toNat)
            case atStart => exact ⟨0, Nat.zero_le _, by rw [Nat.sub_zero, Nat.div_eq_of_lt hn2]; rfl, rfl, HR.out, B4.out⟩
            case round =>
              obtain ⟨q, hqk, rfl, rfl, hR, hB⟩ := hrel
              clear HR B4
              have HR := Lib.hid hR; have B4 := Lib.hid hB
              clear hR hB
              obtain ⟨k0, k1, k2⟩ := KP.out _ B4.out
              by_cases hlt2 : q < k
              · have hv : encD ds / 2 ^ (p + q) % 2 ^ 1 = n / 2 ^ (k - 1 - q) % 2 := by
                  have h1 : encD ds / 2 ^ (p + q) % 2 ^ 1 = encD ds / 2 ^ p % 2 ^ k / 2 ^ q % 2 := by
                    rw [Nat.pow_add, ← Nat.div_div_eq_div_mul, Nat.pow_one]
                    generalize encD ds / 2 ^ p = y
                    obtain ⟨t, rfl⟩ : ∃ t, k = q + 1 + t := ⟨k - q - 1, by omega⟩
                    rw [Nat.add_assoc, Nat.pow_add, Nat.mod_mul, Nat.add_mul_div_left _ _ (Nat.pow_pos (by decide)), Nat.div_eq_of_lt (Nat.mod_lt _ (Nat.pow_pos (by decide))), Nat.zero_add]
                    rw [Nat.add_comm 1 t, Nat.pow_succ, Nat.mul_comm (2 ^ t) 2, Nat.mod_mul_right_mod]
                  rw [h1, HGE.out]
                  simp only [vD, if_true]
                  exact revb_dig n k q hlt2
                have hstep : n / 2 ^ (k - q) * 2 + n / 2 ^ (k - 1 - q) % 2 = n / 2 ^ (k - (q + 1)) := by
                  rw [show k - (q + 1) = k - 1 - q by omega, show k - q = k - 1 - q + 1 by omega, Nat.pow_succ, ← Nat.div_div_eq_div_mul]
                  omega
                have hle : n / 2 ^ (k - (q + 1)) ≤ n := Nat.div_le_self _ _
                have hb2 : n / 2 ^ (k - 1 - q) % 2 < 2 := Nat.mod_lt _ (by decide)
                go_wp2_with fail
                refine (get_yes 1 _ HR.out HV.out (by decide) (by have := HLN.out; omega)).mono ?_; rintro e w5 ⟨rfl, R5, O5⟩
                rw [hv]
                have HST := Lib.hid hstep
                generalize n / 2 ^ (k - q) = v1 at *
                generalize n / 2 ^ (k - 1 - q) % 2 = v2 at *
                generalize hv3 : n / 2 ^ (k - (q + 1)) = v3 at *
                have HV3 := Lib.hid hv3
                have hor : bits .or .u32 ((v1 : Int) * 2 % 4294967296) (v2 : Int) = (v3 : Int) := by
                  rw [show (v1 : Int) * 2 % 4294967296 = ((v1 * 2 : Nat) : Int) by omega]
                  rw [or_join_u32 1 ((v1 * 2 : Nat) : Int) (v2 : Int) (by omega) (by simp) (by omega) (by omega) (by simp; omega) (by omega)]
                  omega
                have HR5 := Lib.hid R5
                have B5 := Lib.hid (B4.out.trans (O5.below.mono hgr))
                clear R5 O5 hv hstep hv3 k0 k1 k2
                go_wp2_with fail
                go_roundw
                case rel => exact ⟨q + 1, by omega, by rw [HV3.out], by go_num, by rw [← Nat.add_assoc]; exact HR5.out, B5.out⟩
                case measure => simp [intOf]; omega
              · obtain rfl : q = k := by omega
                rw [Nat.sub_self, Nat.pow_zero, Nat.div_one]
                have hk1 : decide ((q : Int) < q) = false := by simp
                go_wp2_with fail
                go_roundw
                case rel => exact ⟨j + 1, by omega, by go_num, by rw [HCT.out]; exact HR.out, B4.out⟩
                case measure => simp [intOf]; omega
        · obtain rfl : j = ds.length := by omega
          have hend : csum (ds.take ds.length) = c := by rw [List.take_length, hcs.out]
          rw [hend] at HR
          clear Keep
          go_wp2_with fail
          refine (first_any _).mono ?_; rintro e x5 ⟨rfl, b5⟩
          have HR5 := Lib.hid (HR.out.below b5)
          have BA := Lib.hid (BI.out.trans ((below_size HB.out (below_size B4.out b5)).mono BI.out.size))
          clear b5 HR B4 HB HT
          go_wp2_with fail
          refine (at_any HR5.out).mono ?_; rintro e w9 ⟨rfl, rfl⟩
          go_wp2_with fail
          have hl8 : 8 * ys.length - c < 8 := by have := HL.out; omega
          generalize hQ : 8 * ys.length - c = Q at *
          have HLF := left_any (g := gr) (xs := ys) (p := c) HR5.out
          rw [hQ] at HLF
          have HLL := Lib.hid HLF; clear HLF hQ
          refine HLL.out.mono ?_; rintro e w6 ⟨rfl, qq, rfl⟩
          clear HLL HR5
          go_wp2_with fail
          go_ret
          exact ⟨ret_bool (by simp; omega), below_drewN BA.out qq⟩

theorem walk_BitsBack (a : Option Addr) (m ca : Nat) (kd ct nm : Nat → Int) (w : World) (ho : Ops w a m ca kd ct nm) :
    Calls Try.prog 5 #[.slice a m ca] w fun e w' => e = .returned (.bool true) ∧ Below w.heap.size w w' := by
  by_cases h : m ≤ 500
  · exact back_in a m ca kd ct nm w ho h
  · exact back_not a m ca w ho.n63 h
end Go.Proofs.Yteancefgkllgoaa
