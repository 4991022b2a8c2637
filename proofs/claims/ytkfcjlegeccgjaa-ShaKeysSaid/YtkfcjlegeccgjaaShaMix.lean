/-
  sha.mix: a block taken into the state.
-/
import Derived.Test.YtkfcjlegeccgjaaABox
import Derived.Deep.DeepCutAuto
import Derived.Deep.RegionWith
namespace Go.Proofs.Ytkfcjlegeccgjaa
open Go.RowKit

theorem set8 {v : List Int} (h : v.length = 8) (a b c d e f g k : Int) : (((((((v.set 0 a).set 1 b).set 2 c).set 3 d).set 4 e).set 5 f).set 6 g).set 7 k = [a, b, c, d, e, f, g, k] := by
  match v, h with
  | [_, _, _, _, _, _, _, _], _ => rfl
theorem list8 {v : List Int} (h : v.length = 8) : ∃ a b c d e f g k, v = [a, b, c, d, e, f, g, k] := by
  match v, h with
  | [a, b, c, d, e, f, g, k], _ => exact ⟨a, b, c, d, e, f, g, k, rfl⟩
theorem arr8 : Try.prog.underlying 32 = some (.array 8 31) := Try.underlying32
theorem arrInfo8 : (Try.prog.info? 32).map (·.size) = some 8 := by kernel_rfl

set_option maxRecDepth 100000 in
set_option maxHeartbeats 8000000 in
theorem mix_any (s0 s1 s2 s3 s4 s5 s6 s7 : Int) (gk : Nat) (b : Option Addr) (cap : Nat) (bs : List Int) (w : World) (hs : isWs [s0, s1, s2, s3, s4, s5, s6, s7]) (hk : ABox w gk 34 kSha) (hr : Reads .u8 w b 64 cap bs) (hb : isB bs) :
    Calls Try.prog 17 #[.agg #[.int .u32 s0, .int .u32 s1, .int .u32 s2, .int .u32 s3, .int .u32 s4, .int .u32 s5, .int .u32 s6, .int .u32 s7], .pointer (some ⟨gk, 0, Option.none⟩), .slice b 64 cap] w
      fun e w' => e = .returned (.agg ((mixS [s0, s1, s2, s3, s4, s5, s6, s7] bs).map (Value.int .u32)).toArray) ∧ Below w.heap.size w w' := by
  have hl := hr.len
  have HR := Lib.hid hr
  have HB := Lib.hid hb; have HS := Lib.hid hs
  have HL := Lib.hid hl
  have hcap := hr.le
  have B0 : Below w.heap.size w (((w.alloc (.cells #[.int .u32 s0, .int .u32 s1, .int .u32 s2, .int .u32 s3, .int .u32 s4, .int .u32 s5, .int .u32 s6, .int .u32 s7] 32)).alloc (.cells #[.int .u32 0, .int .u32 0, .int .u32 0, .int .u32 0, .int .u32 0, .int .u32 0, .int .u32 0, .int .u32 0] 32)).alloc (.cells #[.int .u32 0, .int .u32 0, .int .u32 0, .int .u32 0, .int .u32 0, .int .u32 0, .int .u32 0, .int .u32 0, .int .u32 0, .int .u32 0, .int .u32 0, .int .u32 0, .int .u32 0, .int .u32 0, .int .u32 0, .int .u32 0, .int .u32 0, .int .u32 0, .int .u32 0, .int .u32 0, .int .u32 0, .int .u32 0, .int .u32 0, .int .u32 0, .int .u32 0, .int .u32 0, .int .u32 0, .int .u32 0, .int .u32 0, .int .u32 0, .int .u32 0, .int .u32 0, .int .u32 0, .int .u32 0, .int .u32 0, .int .u32 0, .int .u32 0, .int .u32 0, .int .u32 0, .int .u32 0, .int .u32 0, .int .u32 0, .int .u32 0, .int .u32 0, .int .u32 0, .int .u32 0, .int .u32 0, .int .u32 0, .int .u32 0, .int .u32 0, .int .u32 0, .int .u32 0, .int .u32 0, .int .u32 0, .int .u32 0, .int .u32 0, .int .u32 0, .int .u32 0, .int .u32 0, .int .u32 0, .int .u32 0, .int .u32 0, .int .u32 0, .int .u32 0] 34)) := (((Below.refl _ _).alloc (Nat.le_refl _) _).alloc (by simp) _).alloc (by simp; omega) _
  have b1 : ABox (w.alloc (.cells #[.int .u32 s0, .int .u32 s1, .int .u32 s2, .int .u32 s3, .int .u32 s4, .int .u32 s5, .int .u32 s6, .int .u32 s7] 32)) w.heap.size 32 [s0, s1, s2, s3, s4, s5, s6, s7] := ABox.new _ _ _ _ rfl
  have b2 : ABox ((w.alloc (.cells #[.int .u32 s0, .int .u32 s1, .int .u32 s2, .int .u32 s3, .int .u32 s4, .int .u32 s5, .int .u32 s6, .int .u32 s7] 32)).alloc (.cells #[.int .u32 0, .int .u32 0, .int .u32 0, .int .u32 0, .int .u32 0, .int .u32 0, .int .u32 0, .int .u32 0] 32)) (w.heap.size + 1) 32 (List.replicate 8 0) := by have := ABox.new (w.alloc (.cells #[.int .u32 s0, .int .u32 s1, .int .u32 s2, .int .u32 s3, .int .u32 s4, .int .u32 s5, .int .u32 s6, .int .u32 s7] 32)) 32 (List.replicate 8 0) #[.int .u32 0, .int .u32 0, .int .u32 0, .int .u32 0, .int .u32 0, .int .u32 0, .int .u32 0, .int .u32 0] rfl; rwa [World.size_alloc] at this
  have b3 : ABox (((w.alloc (.cells #[.int .u32 s0, .int .u32 s1, .int .u32 s2, .int .u32 s3, .int .u32 s4, .int .u32 s5, .int .u32 s6, .int .u32 s7] 32)).alloc (.cells #[.int .u32 0, .int .u32 0, .int .u32 0, .int .u32 0, .int .u32 0, .int .u32 0, .int .u32 0, .int .u32 0] 32)).alloc (.cells #[.int .u32 0, .int .u32 0, .int .u32 0, .int .u32 0, .int .u32 0, .int .u32 0, .int .u32 0, .int .u32 0, .int .u32 0, .int .u32 0, .int .u32 0, .int .u32 0, .int .u32 0, .int .u32 0, .int .u32 0, .int .u32 0, .int .u32 0, .int .u32 0, .int .u32 0, .int .u32 0, .int .u32 0, .int .u32 0, .int .u32 0, .int .u32 0, .int .u32 0, .int .u32 0, .int .u32 0, .int .u32 0, .int .u32 0, .int .u32 0, .int .u32 0, .int .u32 0, .int .u32 0, .int .u32 0, .int .u32 0, .int .u32 0, .int .u32 0, .int .u32 0, .int .u32 0, .int .u32 0, .int .u32 0, .int .u32 0, .int .u32 0, .int .u32 0, .int .u32 0, .int .u32 0, .int .u32 0, .int .u32 0, .int .u32 0, .int .u32 0, .int .u32 0, .int .u32 0, .int .u32 0, .int .u32 0, .int .u32 0, .int .u32 0, .int .u32 0, .int .u32 0, .int .u32 0, .int .u32 0, .int .u32 0, .int .u32 0, .int .u32 0, .int .u32 0] 34)) (w.heap.size + 1 + 1) 34 (List.replicate 64 0) := by have := ABox.new ((w.alloc (.cells #[.int .u32 s0, .int .u32 s1, .int .u32 s2, .int .u32 s3, .int .u32 s4, .int .u32 s5, .int .u32 s6, .int .u32 s7] 32)).alloc (.cells #[.int .u32 0, .int .u32 0, .int .u32 0, .int .u32 0, .int .u32 0, .int .u32 0, .int .u32 0, .int .u32 0] 32)) 34 (List.replicate 64 0) #[.int .u32 0, .int .u32 0, .int .u32 0, .int .u32 0, .int .u32 0, .int .u32 0, .int .u32 0, .int .u32 0, .int .u32 0, .int .u32 0, .int .u32 0, .int .u32 0, .int .u32 0, .int .u32 0, .int .u32 0, .int .u32 0, .int .u32 0, .int .u32 0, .int .u32 0, .int .u32 0, .int .u32 0, .int .u32 0, .int .u32 0, .int .u32 0, .int .u32 0, .int .u32 0, .int .u32 0, .int .u32 0, .int .u32 0, .int .u32 0, .int .u32 0, .int .u32 0, .int .u32 0, .int .u32 0, .int .u32 0, .int .u32 0, .int .u32 0, .int .u32 0, .int .u32 0, .int .u32 0, .int .u32 0, .int .u32 0, .int .u32 0, .int .u32 0, .int .u32 0, .int .u32 0, .int .u32 0, .int .u32 0, .int .u32 0, .int .u32 0, .int .u32 0, .int .u32 0, .int .u32 0, .int .u32 0, .int .u32 0, .int .u32 0, .int .u32 0, .int .u32 0, .int .u32 0, .int .u32 0, .int .u32 0, .int .u32 0, .int .u32 0, .int .u32 0] rfl; rwa [World.size_alloc, World.size_alloc] at this
  have l2 := b2.lt; have l1 := b1.lt
  replace b1 := (b1.below ((Below.refl _ _).alloc (Nat.le_refl _) (.cells #[.int .u32 0, .int .u32 0, .int .u32 0, .int .u32 0, .int .u32 0, .int .u32 0, .int .u32 0, .int .u32 0] 32))).below ((Below.refl _ _).alloc (Nat.le_refl _) (.cells #[.int .u32 0, .int .u32 0, .int .u32 0, .int .u32 0, .int .u32 0, .int .u32 0, .int .u32 0, .int .u32 0, .int .u32 0, .int .u32 0, .int .u32 0, .int .u32 0, .int .u32 0, .int .u32 0, .int .u32 0, .int .u32 0, .int .u32 0, .int .u32 0, .int .u32 0, .int .u32 0, .int .u32 0, .int .u32 0, .int .u32 0, .int .u32 0, .int .u32 0, .int .u32 0, .int .u32 0, .int .u32 0, .int .u32 0, .int .u32 0, .int .u32 0, .int .u32 0, .int .u32 0, .int .u32 0, .int .u32 0, .int .u32 0, .int .u32 0, .int .u32 0, .int .u32 0, .int .u32 0, .int .u32 0, .int .u32 0, .int .u32 0, .int .u32 0, .int .u32 0, .int .u32 0, .int .u32 0, .int .u32 0, .int .u32 0, .int .u32 0, .int .u32 0, .int .u32 0, .int .u32 0, .int .u32 0, .int .u32 0, .int .u32 0, .int .u32 0, .int .u32 0, .int .u32 0, .int .u32 0, .int .u32 0, .int .u32 0, .int .u32 0, .int .u32 0] 34))
  replace b2 := b2.below ((Below.refl _ _).alloc (Nat.le_refl _) (.cells #[.int .u32 0, .int .u32 0, .int .u32 0, .int .u32 0, .int .u32 0, .int .u32 0, .int .u32 0, .int .u32 0, .int .u32 0, .int .u32 0, .int .u32 0, .int .u32 0, .int .u32 0, .int .u32 0, .int .u32 0, .int .u32 0, .int .u32 0, .int .u32 0, .int .u32 0, .int .u32 0, .int .u32 0, .int .u32 0, .int .u32 0, .int .u32 0, .int .u32 0, .int .u32 0, .int .u32 0, .int .u32 0, .int .u32 0, .int .u32 0, .int .u32 0, .int .u32 0, .int .u32 0, .int .u32 0, .int .u32 0, .int .u32 0, .int .u32 0, .int .u32 0, .int .u32 0, .int .u32 0, .int .u32 0, .int .u32 0, .int .u32 0, .int .u32 0, .int .u32 0, .int .u32 0, .int .u32 0, .int .u32 0, .int .u32 0, .int .u32 0, .int .u32 0, .int .u32 0, .int .u32 0, .int .u32 0, .int .u32 0, .int .u32 0, .int .u32 0, .int .u32 0, .int .u32 0, .int .u32 0, .int .u32 0, .int .u32 0, .int .u32 0, .int .u32 0] 34))
  have R := Lib.hid (hr.below B0); have K := Lib.hid (hk.below B0)
  have hkl := hk.lt
  have B := Lib.hid B0; have S := Lib.hid b1; have Z := Lib.hid b2; have X := Lib.hid b3
  clear hr hb hs hk hl B0 b1 b2 b3 l1 l2
  go_enter Try.func17, Try.ntmps17
  go_wp2_with fail
  generalize (((w.alloc (.cells #[.int .u32 s0, .int .u32 s1, .int .u32 s2, .int .u32 s3, .int .u32 s4, .int .u32 s5, .int .u32 s6, .int .u32 s7] 32)).alloc (.cells #[.int .u32 0, .int .u32 0, .int .u32 0, .int .u32 0, .int .u32 0, .int .u32 0, .int .u32 0, .int .u32 0] 32)).alloc (.cells #[.int .u32 0, .int .u32 0, .int .u32 0, .int .u32 0, .int .u32 0, .int .u32 0, .int .u32 0, .int .u32 0, .int .u32 0, .int .u32 0, .int .u32 0, .int .u32 0, .int .u32 0, .int .u32 0, .int .u32 0, .int .u32 0, .int .u32 0, .int .u32 0, .int .u32 0, .int .u32 0, .int .u32 0, .int .u32 0, .int .u32 0, .int .u32 0, .int .u32 0, .int .u32 0, .int .u32 0, .int .u32 0, .int .u32 0, .int .u32 0, .int .u32 0, .int .u32 0, .int .u32 0, .int .u32 0, .int .u32 0, .int .u32 0, .int .u32 0, .int .u32 0, .int .u32 0, .int .u32 0, .int .u32 0, .int .u32 0, .int .u32 0, .int .u32 0, .int .u32 0, .int .u32 0, .int .u32 0, .int .u32 0, .int .u32 0, .int .u32 0, .int .u32 0, .int .u32 0, .int .u32 0, .int .u32 0, .int .u32 0, .int .u32 0, .int .u32 0, .int .u32 0, .int .u32 0, .int .u32 0, .int .u32 0, .int .u32 0, .int .u32 0, .int .u32 0] 34)) = v0 at *
  go_loopw [22] (fun vi wr => ∃ i : Nat, i ≤ 16 ∧ vi = .int .i64 i ∧ Hid (ABox wr (w.heap.size + 1 + 1) 34 (wArr bs (List.replicate 64 0) i)) ∧ Hid (ABox wr w.heap.size 32 [s0, s1, s2, s3, s4, s5, s6, s7]) ∧ Hid (ABox wr (w.heap.size + 1) 32 (List.replicate 8 0)) ∧ Hid (Below w.heap.size w wr) ∧ Hid (Below (w.heap.size + 1 + 1) v0 wr)) (fun vi _ => 16 - (intOf vi).toNat)
  case atStart => exact ⟨0, Nat.zero_le _, rfl, X, S, Z, B, Lib.hid (Below.refl _ _)⟩
  case round =>
    obtain ⟨i, hi, rfl, X, S, Z, B, V⟩ := hrel
    by_cases hlt : i < 16
    · have hrr := HR.out.below B.out
      obtain ⟨b, off, rfl, hbl, hc⟩ := hrr.cells (by decide)
      have d0 := fun x : GrownW wr => x.cell hbl (hc (4 * i) (by omega))
      have d1 := fun x : GrownW wr => x.cell hbl (hc (4 * i + 1) (by omega))
      have d2 := fun x : GrownW wr => x.cell hbl (hc (4 * i + 2) (by omega))
      have d3 := fun x : GrownW wr => x.cell hbl (hc (4 * i + 3) (by omega))
      have e0 := HB.out.get (4 * i) (by rw [HL.out]; omega)
      have e1 := HB.out.get (4 * i + 1) (by rw [HL.out]; omega)
      have e2 := HB.out.get (4 * i + 2) (by rw [HL.out]; omega)
      have e3 := HB.out.get (4 * i + 3) (by rw [HL.out]; omega)
      have HWD := Lib.hid (show wWord bs i = word4 (bs.getD (4 * i) 0) (bs.getD (4 * i + 1) 0) (bs.getD (4 * i + 2) 0) (bs.getD (4 * i + 3) 0) from rfl)
      have HNX := Lib.hid (show wArr bs (List.replicate 64 0) (i + 1) = (wArr bs (List.replicate 64 0) i).set i (wWord bs i) by rw [wArr, if_pos hlt])
      generalize bs.getD (4 * i) 0 = x0 at *
      generalize bs.getD (4 * i + 1) 0 = x1 at *
      generalize bs.getD (4 * i + 2) 0 = x2 at *
      generalize bs.getD (4 * i + 3) 0 = x3 at *
      obtain ⟨q0, q1⟩ := e0; obtain ⟨q2, q3⟩ := e1; obtain ⟨q4, q5⟩ := e2; obtain ⟨q6, q7⟩ := e3
      have t0 : ((4 : Int) * i).toNat = 4 * i := by omega
      have t1 : ((4 : Int) * i + 1).toNat = 4 * i + 1 := by omega
      have t2 : ((4 : Int) * i + 2).toNat = 4 * i + 2 := by omega
      have t3 : ((4 : Int) * i + 3).toNat = 4 * i + 3 := by omega
      have u0 : (0 : Int) ≤ 4 * i := by omega
      have u1 : (0 : Int) ≤ 4 * (i : Int) + 1 := by omega
      have u2 : (0 : Int) ≤ 4 * (i : Int) + 2 := by omega
      have u3 : (0 : Int) ≤ 4 * (i : Int) + 3 := by omega
      have y0 : (4 : Int) * i < 64 := by omega
      have y1 : (4 : Int) * (i : Int) + 1 < 64 := by omega
      have y2 : (4 : Int) * (i : Int) + 2 < 64 := by omega
      have y3 : (4 : Int) * (i : Int) + 3 < 64 := by omega
      have z0 : IntKind.i64.wrap ((4 : Int) * i) = 4 * i := Go.IntWalk.i64_in _ (by omega)
      have z1 : IntKind.i64.wrap ((4 : Int) * i + 1) = 4 * i + 1 := Go.IntWalk.i64_in _ (by omega)
      have z2 : IntKind.i64.wrap ((4 : Int) * i + 2) = 4 * i + 2 := Go.IntWalk.i64_in _ (by omega)
      have z3 : IntKind.i64.wrap ((4 : Int) * i + 3) = 4 * i + 3 := Go.IntWalk.i64_in _ (by omega)
      have i9 : (i : Int) < 64 := by omega
      have i8 : (0 : Int) ≤ i := by omega
      clear hc hrr
      go_wp2_with fail
      refine wp_region_any (by kernel_rfl) ?_
      change wpAny _ _ _ _ _ _ _ (World.drew _)
      refine wpAny_grow_tail [0, 1, 2, 3, 4, 5, 6, 7, 8, 9, 10, 11, 12, 13, 14, 15, 16, 17, 18, 19, 20, 21, 22, 23, 24, 25, 26, 27, 28, 29, 30, 31, 32, 33] [34, 35] (by kernel_rfl) ?_
      simp only [pickOps, List.getElem?_toArray, List.getElem?_cons_zero, List.getElem?_cons_succ, Option.toList_some, List.cons_append, List.nil_append]
      repeat (go_big_quiet_step (fail))
      refine wpQuiet_nil ?_
      intro wg hw'
      obtain ⟨⟨wz, hbg⟩, hw''⟩ := hw'
      subst hw''
      have X2 := X.out.below hbg
      have c := X2.cell i (by rw [wArr_len]; simp; omega)
      have f := X2.frozen i
      clear d0 d1 d2 d3
      go_wp2_with fail
      go_roundw
      case rel =>
        refine ⟨i + 1, by omega, by go_num, Lib.hid ?_, Lib.hid ((S.out.below hbg).far _ _ _ (by omega)), Lib.hid ((Z.out.below hbg).far _ _ _ (by omega)), Lib.hid ((below_size B.out hbg).setCell (by simp; omega) _), Lib.hid ((V.out.trans (hbg.mono (Nat.le_of_lt X.out.lt))).setCell (Nat.le_refl _) _)⟩
        rw [HNX.out, HWD.out]
        exact X2.set i _
      case measure => simp [intOf]; omega
    · have hi16 : i = 16 := by omega
      rw [hi16] at X
      have hnl : ¬ (i : Int) < 16 := by omega
      clear hi HB hi16
      go_wp2_with fail
      clear hnl hlt
      go_loopw [9] (fun vi wr => ∃ i : Nat, 16 ≤ i ∧ i ≤ 64 ∧ vi = .int .i64 i ∧ Hid (ABox wr (w.heap.size + 1 + 1) 34 (wArr bs (List.replicate 64 0) i)) ∧ Hid (ABox wr w.heap.size 32 [s0, s1, s2, s3, s4, s5, s6, s7]) ∧ Hid (ABox wr (w.heap.size + 1) 32 (List.replicate 8 0)) ∧ Hid (Below w.heap.size w wr) ∧ Hid (Below (w.heap.size + 1 + 1) v0 wr)) (fun vi _ => 64 - (intOf vi).toNat)
      case atStart => exact ⟨16, Nat.le_refl _, by decide, rfl, X, S, Z, B, V⟩
      case round =>
        obtain ⟨i, hi0, hi, rfl, X, S, Z, B, V⟩ := hrel
        by_cases hlt : i < 64
        · have hwl := wArr_len bs (List.replicate 64 0) i
          rw [List.length_replicate] at hwl
          have hww := wArr_isWs bs (ws0 := List.replicate 64 0) (by intro x hx; simp at hx; subst hx; decide) i
          have HNX := Lib.hid (show wArr bs (List.replicate 64 0) (i + 1) = (wArr bs (List.replicate 64 0) i).set i (add32 (add32 (add32 ((wArr bs (List.replicate 64 0) i).getD (i - 16) 0) (sig0 ((wArr bs (List.replicate 64 0) i).getD (i - 15) 0))) ((wArr bs (List.replicate 64 0) i).getD (i - 7) 0)) (sig1 ((wArr bs (List.replicate 64 0) i).getD (i - 2) 0))) by rw [wArr, if_neg (by omega)]; rfl)
          have d0 := fun x : GrownW wr => x.cell X.out.lt (X.out.cell (i - 16) (by rw [hwl]; omega))
          have d1 := fun x : GrownW wr => x.cell X.out.lt (X.out.cell (i - 15) (by rw [hwl]; omega))
          have d2 := fun x : GrownW wr => x.cell X.out.lt (X.out.cell (i - 7) (by rw [hwl]; omega))
          have d3 := fun x : GrownW wr => x.cell X.out.lt (X.out.cell (i - 2) (by rw [hwl]; omega))
          have e1 := hww.get (i - 15) (by rw [hwl]; omega)
          have e3 := hww.get (i - 2) (by rw [hwl]; omega)
          have e0 := hww.get (i - 16) (by rw [hwl]; omega)
          have e2 := hww.get (i - 7) (by rw [hwl]; omega)
          have HWS := Lib.hid hwl
          clear hww hwl
          generalize (wArr bs (List.replicate 64 0) i).getD (i - 16) 0 = a0 at *
          generalize (wArr bs (List.replicate 64 0) i).getD (i - 15) 0 = a1 at *
          generalize (wArr bs (List.replicate 64 0) i).getD (i - 7) 0 = a2 at *
          generalize (wArr bs (List.replicate 64 0) i).getD (i - 2) 0 = a3 at *
          have T7 : ∀ w, Calls Try.prog 25 #[.int .u32 a1, .int .i64 7] w fun e w' => e = .returned (.int .u32 (rot a1 7)) ∧ w = w' := fun w => turn_any a1 7 w e1 (by decide) (by decide)
          have T18 : ∀ w, Calls Try.prog 25 #[.int .u32 a1, .int .i64 18] w fun e w' => e = .returned (.int .u32 (rot a1 18)) ∧ w = w' := fun w => turn_any a1 18 w e1 (by decide) (by decide)
          have T17 : ∀ w, Calls Try.prog 25 #[.int .u32 a3, .int .i64 17] w fun e w' => e = .returned (.int .u32 (rot a3 17)) ∧ w = w' := fun w => turn_any a3 17 w e3 (by decide) (by decide)
          have T19 : ∀ w, Calls Try.prog 25 #[.int .u32 a3, .int .i64 19] w fun e w' => e = .returned (.int .u32 (rot a3 19)) ∧ w = w' := fun w => turn_any a3 19 w e3 (by decide) (by decide)
          have H7 := Lib.hid T7; have H18 := Lib.hid T18; have H17 := Lib.hid T17; have H19 := Lib.hid T19
          have HS0 := Lib.hid (show sig0 a1 = xor32 (xor32 (rot a1 7) (rot a1 18)) (a1 / 8) from rfl)
          have HS1 := Lib.hid (show sig1 a3 = xor32 (xor32 (rot a3 17) (rot a3 19)) (a3 / 1024) from rfl)
          generalize rot a1 7 = r1 at *
          generalize rot a1 18 = r2 at *
          generalize rot a3 17 = r3 at *
          generalize rot a3 19 = r4 at *
          clear T7 T18 T17 T19
          obtain ⟨q0, q1⟩ := e0; obtain ⟨q2, q3⟩ := e1; obtain ⟨q4, q5⟩ := e2; obtain ⟨q6, q7⟩ := e3
          have t0 : ((i : Int) - 16).toNat = i - 16 := by omega
          have t1 : ((i : Int) - 15).toNat = i - 15 := by omega
          have t2 : ((i : Int) - 7).toNat = i - 7 := by omega
          have t3 : ((i : Int) - 2).toNat = i - 2 := by omega
          have u0 : (0 : Int) ≤ (i : Int) - 16 := by omega
          have u1 : (0 : Int) ≤ (i : Int) - 15 := by omega
          have u2 : (0 : Int) ≤ (i : Int) - 7 := by omega
          have u3 : (0 : Int) ≤ (i : Int) - 2 := by omega
          have y0 : (i : Int) - 16 < 64 := by omega
          have y1 : (i : Int) - 15 < 64 := by omega
          have y2 : (i : Int) - 7 < 64 := by omega
          have y3 : (i : Int) - 2 < 64 := by omega
          have z0 : IntKind.i64.wrap ((i : Int) - 16) = i - 16 := Go.IntWalk.i64_in _ (by omega)
          have z1 : IntKind.i64.wrap ((i : Int) - 15) = i - 15 := Go.IntWalk.i64_in _ (by omega)
          have z2 : IntKind.i64.wrap ((i : Int) - 7) = i - 7 := Go.IntWalk.i64_in _ (by omega)
          have z3 : IntKind.i64.wrap ((i : Int) - 2) = i - 2 := Go.IntWalk.i64_in _ (by omega)
          have i9 : (i : Int) < 64 := by omega
          have i8 : (0 : Int) ≤ i := by omega
          go_wp2_with fail
          refine wp_region_grow_lit (by kernel_rfl) (by kernel_rfl) ?_
          repeat (go_big_quiet_step (fail))
          refine wpQuiet_nil ?_
          intro wg hw'
          obtain ⟨⟨wz, hbg⟩, hw''⟩ := hw'
          subst hw''
          obtain ⟨wh, rfl⟩ : ∃ wh : World, wh = wg := ⟨_, rfl⟩
          have Xh := Lib.hid (X.out.below hbg); have Sh := Lib.hid (S.out.below hbg); have Zh := Lib.hid (Z.out.below hbg); have Bh := Lib.hid (below_size B.out hbg); have Vh := Lib.hid (V.out.trans (hbg.mono (Nat.le_of_lt X.out.lt)))
          have d0 := fun x : GrownW wh => x.cell Xh.out.lt ((hbg.cell X.out.lt).trans (d0 ⟨_, Below.refl _ _⟩))
          have d2 := fun x : GrownW wh => x.cell Xh.out.lt ((hbg.cell X.out.lt).trans (d2 ⟨_, Below.refl _ _⟩))
          clear hbg d1 d3
          go_wp2_with (first
            | (go_at_call 25; (with_reducible refine (H7.out _).mono ?_); rintro e w' ⟨rfl, rfl⟩)
            | (go_at_call 25; (with_reducible refine (H18.out _).mono ?_); rintro e w' ⟨rfl, rfl⟩)
            | (go_at_call 25; (with_reducible refine (H17.out _).mono ?_); rintro e w' ⟨rfl, rfl⟩)
            | (go_at_call 25; (with_reducible refine (H19.out _).mono ?_); rintro e w' ⟨rfl, rfl⟩))
          refine wp_region_any (by kernel_rfl) ?_
          change wpAny _ _ _ _ _ _ _ (World.drew _)
          refine wpAny_grow_tail [0, 1, 2, 3, 4, 5, 6, 7, 8, 9, 10, 11, 12, 13] [14, 15] (by kernel_rfl) ?_
          simp only [pickOps, List.getElem?_toArray, List.getElem?_cons_zero, List.getElem?_cons_succ, Option.toList_some, List.cons_append, List.nil_append]
          repeat (go_big_quiet_step (fail))
          refine wpQuiet_nil ?_
          intro wg hw'
          obtain ⟨⟨wz, hbg⟩, hw''⟩ := hw'
          subst hw''
          have X2 := Xh.out.below hbg
          have c := X2.cell i (by rw [HWS.out]; omega)
          have f := X2.frozen i
          clear d0 d2
          go_wp2_with fail
          go_roundw
          case rel =>
            refine ⟨i + 1, by omega, by omega, by go_num, Lib.hid ?_, Lib.hid ((Sh.out.below hbg).far _ _ _ (by omega)), Lib.hid ((Zh.out.below hbg).far _ _ _ (by omega)), Lib.hid ((below_size Bh.out hbg).setCell (by simp; omega) _), Lib.hid ((Vh.out.trans (hbg.mono (Nat.le_of_lt Xh.out.lt))).setCell (Nat.le_refl _) _)⟩
            rw [HNX.out, HS0.out, HS1.out]
            rw [add32_3]
            exact X2.set i _
          case measure => simp [intOf]; omega
        · have hi64 : i = 64 := by omega
          rw [hi64] at X
          have hnl : ¬ (i : Int) < 64 := by omega
          have K := Lib.hid (K.out.low V.out (by omega))
          have hwl := wArr_len bs (List.replicate 64 0) 64
          rw [List.length_replicate] at hwl
          have hww := wArr_isWs bs (ws0 := List.replicate 64 0) (by intro x hx; simp at hx; subst hx; decide) 64
          have HWL := Lib.hid hwl; have HWW := Lib.hid hww
          obtain ⟨ws, hws⟩ : ∃ ws, wArr bs (List.replicate 64 0) 64 = ws := ⟨_, rfl⟩
          rw [hws] at X HWL HWW
          have HWE := Lib.hid hws
          clear hi hi0 hi64 hwl hww hws
          have c0 : wr.cell? ⟨w.heap.size, 0, Option.none⟩ = some (.int .u32 s0) := S.out.cell 0 (by simp)
          have c1 : wr.cell? ⟨w.heap.size, 1, Option.none⟩ = some (.int .u32 s1) := S.out.cell 1 (by simp)
          have c2 : wr.cell? ⟨w.heap.size, 2, Option.none⟩ = some (.int .u32 s2) := S.out.cell 2 (by simp)
          have c3 : wr.cell? ⟨w.heap.size, 3, Option.none⟩ = some (.int .u32 s3) := S.out.cell 3 (by simp)
          have c4 : wr.cell? ⟨w.heap.size, 4, Option.none⟩ = some (.int .u32 s4) := S.out.cell 4 (by simp)
          have c5 : wr.cell? ⟨w.heap.size, 5, Option.none⟩ = some (.int .u32 s5) := S.out.cell 5 (by simp)
          have c6 : wr.cell? ⟨w.heap.size, 6, Option.none⟩ = some (.int .u32 s6) := S.out.cell 6 (by simp)
          have c7 : wr.cell? ⟨w.heap.size, 7, Option.none⟩ = some (.int .u32 s7) := S.out.cell 7 (by simp)
          have hx2 : w.heap.size + 1 + 1 < wr.heap.size := X.out.lt
          go_wp2_with fail
          clear hnl hlt c0 c1 c2 c3 c4 c5 c6 c7
          have bl : Below wr.heap.size wr (wr.alloc (.cells #[.int .u32 s0, .int .u32 s1, .int .u32 s2, .int .u32 s3, .int .u32 s4, .int .u32 s5, .int .u32 s6, .int .u32 s7] 32)) := (Below.refl _ _).alloc (Nat.le_refl _) _
          have Y := Lib.hid (ABox.new wr 32 [s0, s1, s2, s3, s4, s5, s6, s7] #[.int .u32 s0, .int .u32 s1, .int .u32 s2, .int .u32 s3, .int .u32 s4, .int .u32 s5, .int .u32 s6, .int .u32 s7] rfl)
          replace X := Lib.hid (X.out.below bl); replace S := Lib.hid (S.out.below bl); replace Z := Lib.hid (Z.out.below bl); replace K := Lib.hid (K.out.below bl); replace B := Lib.hid (below_size B.out bl)
          clear bl
          generalize wr.alloc (.cells #[.int .u32 s0, .int .u32 s1, .int .u32 s2, .int .u32 s3, .int .u32 s4, .int .u32 s5, .int .u32 s6, .int .u32 s7] 32) = v1 at *
          generalize wr.heap.size = g3 at *
          go_loopw [105] (fun vi wr => ∃ i : Nat, i ≤ 64 ∧ vi = .int .i64 i ∧ Hid (ABox wr g3 32 (rnds kSha ws [s0, s1, s2, s3, s4, s5, s6, s7] i)) ∧ Hid (Below g3 v1 wr)) (fun vi _ => 64 - (intOf vi).toNat)
          case atStart => exact ⟨0, by omega, rfl, Y, Lib.hid (Below.refl _ _)⟩
          case round =>
            obtain ⟨i, hi, rfl, Y, V⟩ := hrel
            by_cases hlt : i < 64
            · have hvl := rnds_len kSha ws [s0, s1, s2, s3, s4, s5, s6, s7] rfl i
              have hvw := rnds_isWs (ks := kSha) (ws := ws) (v := [s0, s1, s2, s3, s4, s5, s6, s7]) rfl HS.out i
              have HNX := Lib.hid (show rnds kSha ws [s0, s1, s2, s3, s4, s5, s6, s7] (i + 1) = rnd (kSha.getD i 0) (ws.getD i 0) (rnds kSha ws [s0, s1, s2, s3, s4, s5, s6, s7] i) from rfl)
              have hkw := kSha_isWs.get i (by show i < 64; exact hlt)
              have hwd := HWW.out.get i (by rw [HWL.out]; exact hlt)
              have Kz := Lib.hid (K.out.low V.out (by omega)); have Xz := Lib.hid (X.out.low V.out hx2)
              have dk := fun x : GrownW wr => x.cell Kz.out.lt (Kz.out.cell i (by show i < 64; exact hlt))
              have dw := fun x : GrownW wr => x.cell Xz.out.lt (Xz.out.cell i (by rw [HWL.out]; exact hlt))
              obtain ⟨kk, hkk⟩ : ∃ x, kSha.getD i 0 = x := ⟨_, rfl⟩
              obtain ⟨wd, hwd0⟩ : ∃ x, ws.getD i 0 = x := ⟨_, rfl⟩
              rw [hkk] at HNX hkw dk
              rw [hwd0] at HNX hwd dw
              have HKK := Lib.hid hkk; have HWD := Lib.hid hwd0
              clear hkk hwd0
              generalize rnds kSha ws [s0, s1, s2, s3, s4, s5, s6, s7] i = v at *
              have e0 := hvw.get 0 (by rw [hvl]; decide)
              obtain ⟨x0, hx0⟩ : ∃ x, v.getD 0 0 = x := ⟨_, rfl⟩
              have HX0 := Lib.hid hx0
              rw [hx0] at e0
              clear hx0
              have e1 := hvw.get 1 (by rw [hvl]; decide)
              obtain ⟨x1, hx1⟩ : ∃ x, v.getD 1 0 = x := ⟨_, rfl⟩
              have HX1 := Lib.hid hx1
              rw [hx1] at e1
              clear hx1
              have e2 := hvw.get 2 (by rw [hvl]; decide)
              obtain ⟨x2, hx2⟩ : ∃ x, v.getD 2 0 = x := ⟨_, rfl⟩
              have HX2 := Lib.hid hx2
              rw [hx2] at e2
              clear hx2
              have e3 := hvw.get 3 (by rw [hvl]; decide)
              obtain ⟨x3, hx3⟩ : ∃ x, v.getD 3 0 = x := ⟨_, rfl⟩
              have HX3 := Lib.hid hx3
              rw [hx3] at e3
              clear hx3
              have e4 := hvw.get 4 (by rw [hvl]; decide)
              obtain ⟨x4, hx4⟩ : ∃ x, v.getD 4 0 = x := ⟨_, rfl⟩
              have HX4 := Lib.hid hx4
              rw [hx4] at e4
              clear hx4
              have e5 := hvw.get 5 (by rw [hvl]; decide)
              obtain ⟨x5, hx5⟩ : ∃ x, v.getD 5 0 = x := ⟨_, rfl⟩
              have HX5 := Lib.hid hx5
              rw [hx5] at e5
              clear hx5
              have e6 := hvw.get 6 (by rw [hvl]; decide)
              obtain ⟨x6, hx6⟩ : ∃ x, v.getD 6 0 = x := ⟨_, rfl⟩
              have HX6 := Lib.hid hx6
              rw [hx6] at e6
              clear hx6
              have e7 := hvw.get 7 (by rw [hvl]; decide)
              obtain ⟨x7, hx7⟩ : ∃ x, v.getD 7 0 = x := ⟨_, rfl⟩
              have HX7 := Lib.hid hx7
              rw [hx7] at e7
              clear hx7
              obtain ⟨k0, k1⟩ := hkw; obtain ⟨k2, k3⟩ := hwd
              clear hvw
              have T6 : ∀ w, Calls Try.prog 25 #[.int .u32 x4, .int .i64 6] w fun e w' => e = .returned (.int .u32 (rot x4 6)) ∧ w = w' := fun w => turn_any x4 6 w e4 (by decide) (by decide)
              have T11 : ∀ w, Calls Try.prog 25 #[.int .u32 x4, .int .i64 11] w fun e w' => e = .returned (.int .u32 (rot x4 11)) ∧ w = w' := fun w => turn_any x4 11 w e4 (by decide) (by decide)
              have T25 : ∀ w, Calls Try.prog 25 #[.int .u32 x4, .int .i64 25] w fun e w' => e = .returned (.int .u32 (rot x4 25)) ∧ w = w' := fun w => turn_any x4 25 w e4 (by decide) (by decide)
              have T2 : ∀ w, Calls Try.prog 25 #[.int .u32 x0, .int .i64 2] w fun e w' => e = .returned (.int .u32 (rot x0 2)) ∧ w = w' := fun w => turn_any x0 2 w e0 (by decide) (by decide)
              have T13 : ∀ w, Calls Try.prog 25 #[.int .u32 x0, .int .i64 13] w fun e w' => e = .returned (.int .u32 (rot x0 13)) ∧ w = w' := fun w => turn_any x0 13 w e0 (by decide) (by decide)
              have T22 : ∀ w, Calls Try.prog 25 #[.int .u32 x0, .int .i64 22] w fun e w' => e = .returned (.int .u32 (rot x0 22)) ∧ w = w' := fun w => turn_any x0 22 w e0 (by decide) (by decide)
              have H6 := Lib.hid T6; have H11 := Lib.hid T11; have H25 := Lib.hid T25; have H2 := Lib.hid T2; have H13 := Lib.hid T13; have H22 := Lib.hid T22
              have HB1 := Lib.hid (show big1 x4 = xor32 (xor32 (rot x4 6) (rot x4 11)) (rot x4 25) from rfl)
              have HB0 := Lib.hid (show big0 x0 = xor32 (xor32 (rot x0 2) (rot x0 13)) (rot x0 22) from rfl)
              generalize rot x4 6 = r1 at *
              generalize rot x4 11 = r2 at *
              generalize rot x4 25 = r3 at *
              generalize rot x0 2 = r4 at *
              generalize rot x0 13 = r5 at *
              generalize rot x0 22 = r6 at *
              clear T6 T11 T25 T2 T13 T22
              have i9 : (i : Int) < 64 := by omega
              have i8 : (0 : Int) ≤ i := by omega
              have c0 := fun x : GrownW wr => x.cell Y.out.lt (Y.out.cell 0 (by rw [hvl]; decide))
              rw [HX0.out] at c0
              have c1 := fun x : GrownW wr => x.cell Y.out.lt (Y.out.cell 1 (by rw [hvl]; decide))
              rw [HX1.out] at c1
              have c2 := fun x : GrownW wr => x.cell Y.out.lt (Y.out.cell 2 (by rw [hvl]; decide))
              rw [HX2.out] at c2
              have c3 := fun x : GrownW wr => x.cell Y.out.lt (Y.out.cell 3 (by rw [hvl]; decide))
              rw [HX3.out] at c3
              have c4 := fun x : GrownW wr => x.cell Y.out.lt (Y.out.cell 4 (by rw [hvl]; decide))
              rw [HX4.out] at c4
              have c5 := fun x : GrownW wr => x.cell Y.out.lt (Y.out.cell 5 (by rw [hvl]; decide))
              rw [HX5.out] at c5
              have c6 := fun x : GrownW wr => x.cell Y.out.lt (Y.out.cell 6 (by rw [hvl]; decide))
              rw [HX6.out] at c6
              have c7 := fun x : GrownW wr => x.cell Y.out.lt (Y.out.cell 7 (by rw [hvl]; decide))
              rw [HX7.out] at c7
              go_wp2_with fail
              refine wp_region_grow_lit (by kernel_rfl) (by kernel_rfl) ?_
              repeat (go_big_quiet_step (first
                | (go_at_call 25; (with_reducible refine grow_call_eq (H6.out _)))
                | (go_at_call 25; (with_reducible refine grow_call_eq (H11.out _)))
                | (go_at_call 25; (with_reducible refine grow_call_eq (H25.out _)))))
              refine wpQuiet_nil ?_
              intro wg hw'
              obtain ⟨⟨wz, hbg⟩, hw''⟩ := hw'
              subst hw''
              clear c0 c1 c2 c3 c4 c5 c6 c7 dk dw
              obtain ⟨wh, rfl⟩ : ∃ wh : World, wh = wg := ⟨_, rfl⟩
              have Yh := Lib.hid (Y.out.below hbg); have Kh := Lib.hid (Kz.out.below hbg); have Xh := Lib.hid (Xz.out.below hbg); have Vh := Lib.hid (V.out.trans (hbg.mono (Nat.le_of_lt Y.out.lt)))
              clear hbg
              have c0 := Yh.out.cell 0 (by rw [hvl]; decide)
              rw [HX0.out] at c0
              have c1 := Yh.out.cell 1 (by rw [hvl]; decide)
              rw [HX1.out] at c1
              have c2 := Yh.out.cell 2 (by rw [hvl]; decide)
              rw [HX2.out] at c2
              have c3 := Yh.out.cell 3 (by rw [hvl]; decide)
              rw [HX3.out] at c3
              have c4 := Yh.out.cell 4 (by rw [hvl]; decide)
              rw [HX4.out] at c4
              have c5 := Yh.out.cell 5 (by rw [hvl]; decide)
              rw [HX5.out] at c5
              have c6 := Yh.out.cell 6 (by rw [hvl]; decide)
              rw [HX6.out] at c6
              have c7 := Yh.out.cell 7 (by rw [hvl]; decide)
              rw [HX7.out] at c7
              go_upto_region 20 with (fail)
              rw [show bits .xor .u32 (bits .and .u32 x4 x5) (bits .and .u32 (bits .xor .u32 (if IntKind.u32.signed = true then -1 else IntKind.u32.max) x4) x6) = chF x4 x5 x6 from rfl, show bits BinOp.xor IntKind.u32 (bits BinOp.xor IntKind.u32 r1 r2) r3 = big1 x4 from HB1.out.symm]
              obtain ⟨ch, hch⟩ : ∃ x, chF x4 x5 x6 = x := ⟨_, rfl⟩
              obtain ⟨bg, hbg⟩ : ∃ x, big1 x4 = x := ⟨_, rfl⟩
              rw [hch, hbg]
              have HCH := Lib.hid hch; have HBG := Lib.hid hbg
              clear hch hbg
              clear c0 c1 c2 c3 c4 c5 c6 c7
              have c0 := fun x : GrownW wh => x.cell Yh.out.lt (Yh.out.cell 0 (by rw [hvl]; decide))
              rw [HX0.out] at c0
              have c1 := fun x : GrownW wh => x.cell Yh.out.lt (Yh.out.cell 1 (by rw [hvl]; decide))
              rw [HX1.out] at c1
              have c2 := fun x : GrownW wh => x.cell Yh.out.lt (Yh.out.cell 2 (by rw [hvl]; decide))
              rw [HX2.out] at c2
              have c3 := fun x : GrownW wh => x.cell Yh.out.lt (Yh.out.cell 3 (by rw [hvl]; decide))
              rw [HX3.out] at c3
              have c4 := fun x : GrownW wh => x.cell Yh.out.lt (Yh.out.cell 4 (by rw [hvl]; decide))
              rw [HX4.out] at c4
              have c5 := fun x : GrownW wh => x.cell Yh.out.lt (Yh.out.cell 5 (by rw [hvl]; decide))
              rw [HX5.out] at c5
              have c6 := fun x : GrownW wh => x.cell Yh.out.lt (Yh.out.cell 6 (by rw [hvl]; decide))
              rw [HX6.out] at c6
              have c7 := fun x : GrownW wh => x.cell Yh.out.lt (Yh.out.cell 7 (by rw [hvl]; decide))
              rw [HX7.out] at c7
              have dk := fun x : GrownW wh => x.cell Kh.out.lt (Kh.out.cell i (by show i < 64; exact hlt))
              have dw := fun x : GrownW wh => x.cell Xh.out.lt (Xh.out.cell i (by rw [HWL.out]; exact hlt))
              rw [HKK.out] at dk
              rw [HWD.out] at dw
              refine wp_region_grow_lit (by kernel_rfl) (by kernel_rfl) ?_
              repeat (go_big_quiet_step (fail))
              refine wpQuiet_nil ?_
              intro wg hw'
              obtain ⟨⟨wz, hbg⟩, hw''⟩ := hw'
              subst hw''
              obtain ⟨wi, rfl⟩ : ∃ wi : World, wi = wg := ⟨_, rfl⟩
              rw [show ((x7 + bg + ch + kk) % 4294967296 + wd) % 4294967296 = add32 (add32 (add32 (add32 x7 bg) ch) kk) wd by unfold add32; omega]
              obtain ⟨t1, ht1⟩ : ∃ x, add32 (add32 (add32 (add32 x7 bg) ch) kk) wd = x := ⟨_, rfl⟩
              rw [ht1]
              have HT1 := Lib.hid ht1
              go_upto_region 21 with (fail)
              clear ht1 c0 c1 c2 c3 c4 c5 c6 c7 dk dw
              have Yi := Lib.hid (Yh.out.below hbg); have Vi := Lib.hid (Vh.out.trans (hbg.mono (Nat.le_of_lt Yh.out.lt)))
              clear hbg
              have c0 := fun x : GrownW wi => x.cell Yi.out.lt (Yi.out.cell 0 (by rw [hvl]; decide))
              rw [HX0.out] at c0
              have c1 := fun x : GrownW wi => x.cell Yi.out.lt (Yi.out.cell 1 (by rw [hvl]; decide))
              rw [HX1.out] at c1
              have c2 := fun x : GrownW wi => x.cell Yi.out.lt (Yi.out.cell 2 (by rw [hvl]; decide))
              rw [HX2.out] at c2
              have c3 := fun x : GrownW wi => x.cell Yi.out.lt (Yi.out.cell 3 (by rw [hvl]; decide))
              rw [HX3.out] at c3
              have c4 := fun x : GrownW wi => x.cell Yi.out.lt (Yi.out.cell 4 (by rw [hvl]; decide))
              rw [HX4.out] at c4
              have c5 := fun x : GrownW wi => x.cell Yi.out.lt (Yi.out.cell 5 (by rw [hvl]; decide))
              rw [HX5.out] at c5
              have c6 := fun x : GrownW wi => x.cell Yi.out.lt (Yi.out.cell 6 (by rw [hvl]; decide))
              rw [HX6.out] at c6
              have c7 := fun x : GrownW wi => x.cell Yi.out.lt (Yi.out.cell 7 (by rw [hvl]; decide))
              rw [HX7.out] at c7
              refine wp_region_grow_lit (by kernel_rfl) (by kernel_rfl) ?_
              repeat (go_big_quiet_step (first
                | (go_at_call 25; (with_reducible refine grow_call_eq (H2.out _)))
                | (go_at_call 25; (with_reducible refine grow_call_eq (H13.out _)))
                | (go_at_call 25; (with_reducible refine grow_call_eq (H22.out _)))))
              refine wpQuiet_nil ?_
              intro wg hw'
              obtain ⟨⟨wz, hbg⟩, hw''⟩ := hw'
              subst hw''
              obtain ⟨wj, rfl⟩ : ∃ wj : World, wj = wg := ⟨_, rfl⟩
              rw [show bits BinOp.xor IntKind.u32 (bits BinOp.xor IntKind.u32 r4 r5) r6 = big0 x0 from HB0.out.symm]
              obtain ⟨bh, hbh⟩ : ∃ x, big0 x0 = x := ⟨_, rfl⟩
              rw [hbh]
              have HBH := Lib.hid hbh
              go_upto_region 22 with (fail)
              clear hbh c0 c1 c2 c3 c4 c5 c6 c7
              have Yj := Lib.hid (Yi.out.below hbg); have Vj := Lib.hid (Vi.out.trans (hbg.mono (Nat.le_of_lt Yi.out.lt)))
              clear hbg
              have c0 := Yj.out.cell 0 (by rw [hvl]; decide)
              rw [HX0.out] at c0
              have c1 := Yj.out.cell 1 (by rw [hvl]; decide)
              rw [HX1.out] at c1
              have c2 := Yj.out.cell 2 (by rw [hvl]; decide)
              rw [HX2.out] at c2
              have c3 := Yj.out.cell 3 (by rw [hvl]; decide)
              rw [HX3.out] at c3
              have c4 := Yj.out.cell 4 (by rw [hvl]; decide)
              rw [HX4.out] at c4
              have c5 := Yj.out.cell 5 (by rw [hvl]; decide)
              rw [HX5.out] at c5
              have c6 := Yj.out.cell 6 (by rw [hvl]; decide)
              rw [HX6.out] at c6
              have c7 := Yj.out.cell 7 (by rw [hvl]; decide)
              rw [HX7.out] at c7
              go_upto_region 23 with (fail)
              rw [show bits BinOp.xor IntKind.u32 (bits BinOp.xor IntKind.u32 (bits BinOp.and IntKind.u32 x0 x1) (bits BinOp.and IntKind.u32 x0 x2)) (bits BinOp.and IntKind.u32 x1 x2) = maF x0 x1 x2 from rfl]
              obtain ⟨mj, hmj⟩ : ∃ x, maF x0 x1 x2 = x := ⟨_, rfl⟩
              rw [hmj]
              have HMJ := Lib.hid hmj
              clear hmj
              have f0 := Yj.out.frozen 0
              have f1 := Yj.out.frozen 1
              have f2 := Yj.out.frozen 2
              have f3 := Yj.out.frozen 3
              have f4 := Yj.out.frozen 4
              have f5 := Yj.out.frozen 5
              have f6 := Yj.out.frozen 6
              have f7 := Yj.out.frozen 7
              go_wp2_with (fail)
              go_roundw
              case rel =>
                refine ⟨i + 1, by omega, by go_num, Lib.hid ?_, Lib.hid ?_⟩
                rotate_left
                · iterate 8 (refine Below.setCell ?_ (by exact Nat.le_refl _) _)
                  exact Vj.out
                have HY := (((((((Yj.out.set 0 ((t1 + bh + mj) % 4294967296)).set 1 x0).set 2 x1).set 3 x2).set 4 ((x3 + t1) % 4294967296)).set 5 x4).set 6 x5).set 7 x6
                rw [set8 hvl] at HY
                rw [HNX.out]
                unfold rnd t1F
                rw [HX0.out, HX1.out, HX2.out, HX3.out, HX4.out, HX5.out, HX6.out, HX7.out, HBG.out, HCH.out, HT1.out, HBH.out, HMJ.out, add32_2]
                exact HY
              case measure => simp [intOf]; omega
            · have hi64 : i = 64 := by omega
              rw [hi64] at Y
              have hnl : ¬ (i : Int) < 64 := by omega
              have S := Lib.hid (S.out.low V.out (by omega)); have Z := Lib.hid (Z.out.low V.out (by omega)); have B := Lib.hid (B.out.trans (V.out.mono (by omega)))
              have hvl := rnds_len kSha ws [s0, s1, s2, s3, s4, s5, s6, s7] rfl 64
              have hvw := rnds_isWs (ks := kSha) (ws := ws) (v := [s0, s1, s2, s3, s4, s5, s6, s7]) rfl HS.out 64
              obtain ⟨rs, hrs⟩ : ∃ x, rnds kSha ws [s0, s1, s2, s3, s4, s5, s6, s7] 64 = x := ⟨_, rfl⟩
              rw [hrs] at Y hvl hvw
              have HRS := Lib.hid hrs; have HVL := Lib.hid hvl; have HVW := Lib.hid hvw
              clear hrs hvl hvw hi hi64 V
              go_upto_region 25 with (fail)
              clear hnl hlt
              go_wp2_with fail
              go_loopw [198] (fun vi wr => ∃ i : Nat, i ≤ 8 ∧ vi = .int .i64 i ∧ Hid (ABox wr w.heap.size 32 (addS [s0, s1, s2, s3, s4, s5, s6, s7] rs i)) ∧ Hid (ABox wr g3 32 rs) ∧ Hid (ABox wr (w.heap.size + 1) 32 (List.replicate 8 0)) ∧ Hid (Below w.heap.size w wr)) (fun vi _ => 8 - (intOf vi).toNat)
              case atStart => exact ⟨0, by omega, rfl, S, Y, Z, B⟩
              case round =>
                obtain ⟨i, hi, rfl, S, Y, Z, B⟩ := hrel
                have hsl := addS_len [s0, s1, s2, s3, s4, s5, s6, s7] rs i
                have hsw := addS_isWs HS.out (v := rs) i
                by_cases hlt : i < 8
                · have HNX := Lib.hid (show addS [s0, s1, s2, s3, s4, s5, s6, s7] rs (i + 1) = (addS [s0, s1, s2, s3, s4, s5, s6, s7] rs i).set i (add32 ((addS [s0, s1, s2, s3, s4, s5, s6, s7] rs i).getD i 0) (rs.getD i 0)) from rfl)
                  have e0 := hsw.get i (by rw [hsl]; exact hlt)
                  have e1 := HVW.out.get i (by rw [HVL.out]; exact hlt)
                  have d0 := fun x : GrownW wr => x.cell S.out.lt (S.out.cell i (by rw [hsl]; exact hlt))
                  have d1 := fun x : GrownW wr => x.cell Y.out.lt (Y.out.cell i (by rw [HVL.out]; exact hlt))
                  have HSL := Lib.hid hsl
                  clear hsl hsw
                  generalize addS [s0, s1, s2, s3, s4, s5, s6, s7] rs i = st at *
                  generalize st.getD i 0 = x0 at *
                  generalize rs.getD i 0 = x1 at *
                  obtain ⟨q0, q1⟩ := e0; obtain ⟨q2, q3⟩ := e1
                  have i9 : (i : Int) < 8 := by omega
                  have i8 : (0 : Int) ≤ i := by omega
                  go_wp2_with fail
                  refine wp_region_any (by kernel_rfl) ?_
                  change wpAny _ _ _ _ _ _ _ (World.drew _)
                  refine wpAny_grow_tail [0, 1, 2, 3, 4, 5, 6] [7, 8] (by kernel_rfl) ?_
                  simp only [pickOps, List.getElem?_toArray, List.getElem?_cons_zero, List.getElem?_cons_succ, Option.toList_some, List.cons_append, List.nil_append]
                  repeat (go_big_quiet_step (fail))
                  refine wpQuiet_nil ?_
                  intro wg hw'
                  obtain ⟨⟨wz, hbg⟩, hw''⟩ := hw'
                  subst hw''
                  have S2 := S.out.below hbg
                  have c := S2.cell i (by rw [HSL.out]; exact hlt)
                  have f := S2.frozen i
                  clear d0 d1
                  go_wp2_with fail
                  go_roundw
                  case rel =>
                    refine ⟨i + 1, by omega, by go_num, Lib.hid ?_, Lib.hid ((Y.out.below hbg).far _ _ _ (by omega)), Lib.hid ((Z.out.below hbg).far _ _ _ (by omega)), Lib.hid ((below_size B.out hbg).setCell (by exact Nat.le_refl _) _)⟩
                    rw [HNX.out]
                    exact S2.set i _
                  case measure => simp [intOf]; omega
                · have hi8 : i = 8 := by omega
                  rw [hi8] at S hsl hsw
                  have hnl : ¬ (i : Int) < 8 := by omega
                  go_upto_region 30 with (fail)
                  obtain ⟨st, hst⟩ : ∃ x, addS [s0, s1, s2, s3, s4, s5, s6, s7] rs 8 = x := ⟨_, rfl⟩
                  rw [hst] at S hsl hsw
                  have HM := Lib.hid (show mixS [s0, s1, s2, s3, s4, s5, s6, s7] bs = st by unfold mixS; rw [HWE.out, HRS.out, hst])
                  obtain ⟨y0, y1, y2, y3, y4, y5, y6, y7, rfl⟩ := list8 hsl
                  clear hst hi8 hnl hlt hsw hsl hi
                  have c0 : wr.cell? ⟨w.heap.size, 0, Option.none⟩ = some (.int .u32 y0) := S.out.cell 0 (by simp)
                  have c1 : wr.cell? ⟨w.heap.size, 1, Option.none⟩ = some (.int .u32 y1) := S.out.cell 1 (by simp)
                  have c2 : wr.cell? ⟨w.heap.size, 2, Option.none⟩ = some (.int .u32 y2) := S.out.cell 2 (by simp)
                  have c3 : wr.cell? ⟨w.heap.size, 3, Option.none⟩ = some (.int .u32 y3) := S.out.cell 3 (by simp)
                  have c4 : wr.cell? ⟨w.heap.size, 4, Option.none⟩ = some (.int .u32 y4) := S.out.cell 4 (by simp)
                  have c5 : wr.cell? ⟨w.heap.size, 5, Option.none⟩ = some (.int .u32 y5) := S.out.cell 5 (by simp)
                  have c6 : wr.cell? ⟨w.heap.size, 6, Option.none⟩ = some (.int .u32 y6) := S.out.cell 6 (by simp)
                  have c7 : wr.cell? ⟨w.heap.size, 7, Option.none⟩ = some (.int .u32 y7) := S.out.cell 7 (by simp)
                  have f0 := Z.out.frozen 0
                  have z0 : wr.cell? ⟨w.heap.size + 1, 0, Option.none⟩ = some (.int .u32 0) := Z.out.cell 0 (by simp)
                  have f1 := Z.out.frozen 1
                  have z1 : wr.cell? ⟨w.heap.size + 1, 1, Option.none⟩ = some (.int .u32 0) := Z.out.cell 1 (by simp)
                  have f2 := Z.out.frozen 2
                  have z2 : wr.cell? ⟨w.heap.size + 1, 2, Option.none⟩ = some (.int .u32 0) := Z.out.cell 2 (by simp)
                  have f3 := Z.out.frozen 3
                  have z3 : wr.cell? ⟨w.heap.size + 1, 3, Option.none⟩ = some (.int .u32 0) := Z.out.cell 3 (by simp)
                  have f4 := Z.out.frozen 4
                  have z4 : wr.cell? ⟨w.heap.size + 1, 4, Option.none⟩ = some (.int .u32 0) := Z.out.cell 4 (by simp)
                  have f5 := Z.out.frozen 5
                  have z5 : wr.cell? ⟨w.heap.size + 1, 5, Option.none⟩ = some (.int .u32 0) := Z.out.cell 5 (by simp)
                  have f6 := Z.out.frozen 6
                  have z6 : wr.cell? ⟨w.heap.size + 1, 6, Option.none⟩ = some (.int .u32 0) := Z.out.cell 6 (by simp)
                  have f7 := Z.out.frozen 7
                  have z7 : wr.cell? ⟨w.heap.size + 1, 7, Option.none⟩ = some (.int .u32 0) := Z.out.cell 7 (by simp)
                  go_wp2_with (fail)
                  clear c0 c1 c2 c3 c4 c5 c6 c7 f0 f1 f2 f3 f4 f5 f6 f7 z0 z1 z2 z3 z4 z5 z6 z7
                  have HZ := (((((((Z.out.set 0 y0).set 1 y1).set 2 y2).set 3 y3).set 4 y4).set 5 y5).set 6 y6).set 7 y7
                  rw [set8 (by rfl)] at HZ
                  refine bodyPost_ret (results_arr rfl arr8 _ _ _ rfl HZ arrInfo8) rfl ?_
                  refine ⟨by rw [HM.out], ?_⟩
                  iterate 8 (refine Below.setCell ?_ (by exact Nat.le_succ _) _)
                  exact B.out
end Go.Proofs.Ytkfcjlegeccgjaa
