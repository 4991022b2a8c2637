/-
  aquref1.Sum.
-/
import Derived.Test.YtkfcjlegeccgjaaShaRLast
namespace Go.Proofs.Ytkfcjlegeccgjaa
open Go.RowKit

set_option maxRecDepth 100000 in
set_option maxHeartbeats 8000000 in
theorem rsum_any (b : Option Addr) (n cap : Nat) (xs : List Int) (w : World) (hr : Reads .u8 w b n cap xs) (hb : isB xs) (hn : n ≤ 1000000) :
    Calls Try.prog 9 #[.slice b n cap] w (RetS w (shaB xs)) := by
  have hxl := hr.len
  have HR := Lib.hid hr; have HB := Lib.hid hb; have HX := Lib.hid hxl
  obtain ⟨i0, hi, hz0, hz1, hz2⟩ := info_parts infoC
  have Hi := Lib.hid hi; have Hz0 := Lib.hid hz0; have Hz1 := Lib.hid hz1; have Hz2 := Lib.hid hz2
  clear hr hb hxl hi hz0 hz1 hz2
  go_enter Try.func9, Try.ntmps9
  go_upto_region 2 with (first
    | (go_at_call 19; refine (rconst_any _).mono ?_; rintro e wa ⟨rfl, KA, BA⟩))
  go_upto_region 3 with (fail)
  have hgk := KA.lt
  have K := Lib.hid (KA.below ((Below.refl _ _).alloc (Nat.le_refl _) (.cells #[.int .u32 1779033703, .int .u32 3144134277, .int .u32 1013904242, .int .u32 2773480762, .int .u32 1359893119, .int .u32 2600822924, .int .u32 528734635, .int .u32 1541459225] 31)))
  have H := Lib.hid (ABox.new wa 31 hSha #[.int .u32 1779033703, .int .u32 3144134277, .int .u32 1013904242, .int .u32 2773480762, .int .u32 1359893119, .int .u32 2600822924, .int .u32 528734635, .int .u32 1541459225] rfl)
  have B := Lib.hid (BA.alloc BA.size (.cells #[.int .u32 1779033703, .int .u32 3144134277, .int .u32 1013904242, .int .u32 2773480762, .int .u32 1359893119, .int .u32 2600822924, .int .u32 528734635, .int .u32 1541459225] 31))
  have hsz := World.size_alloc wa (.cells #[.int .u32 1779033703, .int .u32 3144134277, .int .u32 1013904242, .int .u32 2773480762, .int .u32 1359893119, .int .u32 2600822924, .int .u32 528734635, .int .u32 1541459225] 31)
  clear KA BA
  generalize wa.alloc (.cells #[.int .u32 1779033703, .int .u32 3144134277, .int .u32 1013904242, .int .u32 2773480762, .int .u32 1359893119, .int .u32 2600822924, .int .u32 528734635, .int .u32 1541459225] 31) = w2 at *
  generalize hgh : wa.heap.size = gh at *
  have R := Lib.hid (HR.out.below B.out)
  go_upto_region 4 with (first
    | (go_at_call 6; refine (copyBytes_any b n cap xs _ R.out (by omega)).mono ?_; rintro e w3 ⟨a3, c3, rfl, O3, B3⟩; rw [HX.out, hsz] at O3; rw [HX.out])
    | (at_builtin; go_loud (refine wpList_append_reads _ rfl _ _ 22 rfl (gh + 1) 5 i0 (.int .u8 0) 1 Try.underlying22 Hi.out Hz0.out Hz1.out Hz2.out rfl .u8 a3 n c3 xs rfl (World.ownsRow.alloc O3 _) _ 1 1 [128] rfl (reads_alloc (k := .u8) w3 [128] #[.int .u8 128] 5 (0, 0) rfl (by unfold maxLen; simp) 1 rfl) (by unfold maxLen; omega) (by omega) (by have := B3.size; simp; omega) ?_); intro a4 c4 w4 O4 G4 N4))
  have B4 : Below (gh + 1) w2 w4 := below_grown ((B3.alloc B3.size _).mono (by omega)) (World.ownsRow.alloc O3 _) G4 (Nat.le_refl _) (by have := B3.size; simp; omega)
  clear O3 B3 G4 N4
  obtain ⟨pd, hpd⟩ : ∃ pd, padN n = pd := ⟨_, rfl⟩
  have hpd1 : (n + 1 + pd) % 64 = 56 ∧ pd < 64 := by unfold padN at hpd; omega
  have hpd2 : ∀ j, j < pd → (n + 1 + j) % 64 ≠ 56 := by unfold padN at hpd; intro j hj; omega
  have HPD := Lib.hid hpd
  clear hpd
  go_wp2_with fail
  go_loopw [5] (fun v5 wr => ∃ (j : Nat) (a : Option Addr) (c : Nat), j ≤ pd ∧ v5 = .slice a (n + 1 + j) c ∧ wr.ownsRow (gh + 1) 5 1 (.slice a (n + 1 + j) c) (n + 1 + j) ((xs ++ ([128] ++ List.replicate j 0)).map (Value.int .u8)) ∧ Hid (Below (gh + 1) w2 wr)) (fun v5 _ => n + 1 + pd - (match v5 with | .slice _ m _ => m | _ => 0))
  case atStart => exact ⟨0, a4, c4, Nat.zero_le _, rfl, by simpa using O4, Lib.hid B4⟩
  case round =>
    obtain ⟨j, a, c, hj, rfl, O, BW⟩ := hrel
    clear O4 B4
    by_cases hlt : j < pd
    · have hne := hpd2 j hlt
      have ht : ¬ ((n : Int) + 1 + (j : Int)) % 64 = 56 := by omega
      have hbs := BW.out.size
      go_wp2_with (at_builtin; go_loud (refine wpList_append_reads _ rfl _ _ 22 rfl (gh + 1) 5 i0 (.int .u8 0) 1 Try.underlying22 Hi.out Hz0.out Hz1.out Hz2.out rfl .u8 a (n + 1 + j) c (xs ++ ([128] ++ List.replicate j 0)) rfl (World.ownsRow.alloc O _) _ 1 1 [0] rfl (reads_alloc (k := .u8) wr [0] #[.int .u8 0] 5 (0, 0) rfl (by unfold maxLen; simp) 1 rfl) (by unfold maxLen; omega) (by omega) (by simp; omega) ?_); intro a5 c5 w5 O5 G5 N5)
      have B5 : Below (gh + 1) w2 w5 := below_grown (BW.out.alloc (by omega) _) (World.ownsRow.alloc O _) G5 (Nat.le_refl _) (by simp; omega)
      clear O G5 N5 ht hne
      go_roundw
      case rel =>
        refine ⟨j + 1, a5, c5, by omega, rfl, ?_, Lib.hid B5⟩
        rw [List.append_assoc, List.append_assoc, ← List.replicate_succ'] at O5
        exact O5
      case measure => show n + 1 + pd - (n + 1 + j + 1) < n + 1 + pd - (n + 1 + j); omega
    · have hjp : j = pd := by omega
      have ht : ((n : Int) + 1 + (j : Int)) % 64 = 56 := by omega
      have hu1 : IntKind.u64.wrap (n : Int) = n := by rw [IntKind.wrap_u64]; omega
      have hu2 : IntKind.u64.wrap ((n : Int) * 8) = (n : Int) * 8 := by rw [IntKind.wrap_u64]; omega
      go_upto_region 7 with (fail)
      rw [hjp] at O ht ⊢
      rw [show (((n : Int) + 1 + (pd : Int)) % 64 != 56) = false by simp [ht]]
      clear ht hjp hlt hj
      obtain ⟨ys, hys⟩ : ∃ ys, xs ++ ([128] ++ List.replicate pd (0 : Int)) = ys := ⟨_, rfl⟩
      rw [hys] at O
      have HYS := Lib.hid hys; clear hys
      have hyl : ys.length = n + 1 + pd := by rw [← HYS.out]; simp [HX.out]; omega
      have HYL := Lib.hid hyl; clear hyl
      obtain ⟨N, hN⟩ : ∃ N, n + 1 + pd = N := ⟨_, rfl⟩
      rw [hN] at O HYL hpd1 ⊢
      have hN1 : N ≤ 1000100 := by omega
      go_wp2_with fail
      go_loopw [5, 7] (fun v5 v7 wr => ∃ (t : Nat) (a : Option Addr) (c : Nat), t ≤ 8 ∧ v7 = .int .i64 (7 - (t : Int)) ∧ v5 = .slice a (N + t) c ∧ wr.ownsRow (gh + 1) 5 1 (.slice a (N + t) c) (N + t) ((ys ++ (be8 ((n : Int) * 8)).take t).map (Value.int .u8)) ∧ Hid (Below (gh + 1) w2 wr)) (fun _ v7 _ => (intOf v7 + 1).toNat)
      case atStart => exact ⟨0, a, c, by omega, rfl, rfl, by simpa using O, BW⟩
      case round =>
        obtain ⟨t, a, c, ht, rfl, rfl, O, BW⟩ := hrel
        by_cases hlt : t < 8
        · obtain ⟨u, hu⟩ : ∃ u : Nat, u + t = 7 := ⟨7 - t, by omega⟩
          rw [show (7 : Int) - (t : Int) = (u : Int) by omega]
          have hge : (0 : Int) ≤ (u : Int) := by omega
          have h64 : (0 : Int) ≤ 8 * (u : Int) := by omega
          have hbs := BW.out.size
          have hx0 : (0 : Int) ≤ ((n : Int) * 8) / 2 ^ (8 * u) := Int.ediv_nonneg (by omega) (by exact_mod_cast Nat.zero_le _)
          have HT := Lib.hid (show (be8 ((n : Int) * 8)).take (t + 1) = (be8 ((n : Int) * 8)).take t ++ [((n : Int) * 8) / 2 ^ (8 * u) % 256] by rw [take_getD _ t (by simpa [be8] using hlt), be8_getD _ t hlt, show 7 - t = u by omega])
          go_wp2_with (at_builtin; go_loud (refine wpList_append_reads _ rfl _ _ 22 rfl (gh + 1) 5 i0 (.int .u8 0) 1 Try.underlying22 Hi.out Hz0.out Hz1.out Hz2.out rfl .u8 a (N + t) c (ys ++ (be8 ((n : Int) * 8)).take t) rfl (World.ownsRow.alloc O _) _ 1 1 [((n : Int) * 8) / 2 ^ (8 * u) % 256] rfl (reads_alloc (k := .u8) wr [((n : Int) * 8) / 2 ^ (8 * u) % 256] #[.int .u8 (((n : Int) * 8) / 2 ^ (8 * u) % 256)] 5 (0, 0) rfl (by unfold maxLen; simp) 1 rfl) (by unfold maxLen; omega) (by omega) (by simp; omega) ?_); intro a5 c5 w5 O5 G5 N5)
          have B5 : Below (gh + 1) w2 w5 := below_grown (BW.out.alloc (by omega) _) (World.ownsRow.alloc O _) G5 (Nat.le_refl _) (by simp; omega)
          clear O G5 N5
          go_roundw
          case rel =>
            refine ⟨t + 1, a5, c5, by omega, ?_, rfl, ?_, Lib.hid B5⟩
            · rw [show (u : Int) - 1 = 7 - ((t + 1 : Nat) : Int) by omega]
            · rw [List.append_assoc, ← HT.out] at O5
              exact O5
          case measure => simp [intOf]
        · have ht8 : t = 8 := by omega
          have hge : ¬ (0 : Int) ≤ 7 - (t : Int) := by omega
          have hmk := made_64
          go_upto_region 11 with (fail)
          clear hge hlt ht
          rw [show (be8 ((n : Int) * 8)).take t = be8 ((n : Int) * 8) from List.take_of_length_le (by rw [ht8]; simp [be8])] at O
          have hmm : ys ++ be8 ((n : Int) * 8) = msg xs := by rw [← HYS.out]; unfold msg; rw [HX.out, HPD.out]; simp
          rw [hmm] at O
          have hml := msg_len xs
          rw [HX.out, HPD.out] at hml
          have hMB : isB (msg xs) := by rw [msg_parts xs 0]; simpa using closeS_isB xs xs.length HB.out
          obtain ⟨q, hq⟩ : ∃ q, N + t = 64 * q := ⟨(N + t) / 64, by omega⟩
          have hsha : shaS xs = mixN hSha (msg xs) q := by unfold shaS; rw [hml.2]; congr 1; omega
          obtain ⟨gm, rfl, hgm⟩ := owns_addr O (by omega)
          have R0 := reads_of_owns O
          have hgm2 : gm < wr.heap.size := by obtain ⟨b', o', e, hl, _⟩ := R0.cells (by omega); cases e; exact hl
          rw [hq] at R0 ⊢
          generalize msg xs = m at *
          have HMB := Lib.hid hMB; have HSH := Lib.hid hsha
          have hmL : m.length = 64 * q := by omega
          have HML := Lib.hid hmL
          have hq1 : q ≤ 20000 := by omega
          clear hmm hml O hMB hsha hmL hq hpd1 hpd2 hu1 hu2 hN hN1 HYL HYS ht8
          go_upto_region 12 with (fail)
          have K6 := Lib.hid ((K.out.low BW.out (by omega)).below ((Below.refl _ _).alloc (Nat.le_refl _) (.cells (madeCells #[Value.int .u32 0] 64) 31)))
          have H6 := Lib.hid ((H.out.low BW.out (by omega)).below ((Below.refl _ _).alloc (Nat.le_refl _) (.cells (madeCells #[Value.int .u32 0] 64) 31)))
          have M6 := Lib.hid (R0.below ((Below.refl _ _).alloc (Nat.le_refl _) (.cells (madeCells #[Value.int .u32 0] 64) 31)))
          have X6 := Lib.hid (made64_abox wr)
          have B6 := Lib.hid ((B.out.trans (BW.out.mono (by omega))).alloc (by have := B.out.size; have := BW.out.size; omega) (.cells (madeCells #[Value.int .u32 0] 64) 31))
          clear hmk R0 BW K H B R
          generalize wr.alloc (.cells (madeCells #[Value.int .u32 0] 64) 31) = w6 at *
          generalize wr.heap.size = gw at *
          have hgwz := X6.out.lt
          go_wp2_with fail
          go_loopw [9] (fun v9 wr => ∃ (k : Nat) (ws0 : List Int), k ≤ q ∧ v9 = .int .i64 (64 * (k : Int)) ∧ Hid (ABox wr gh 31 (mixN hSha m k)) ∧ Hid (ABox wr w.heap.size 31 kSha) ∧ Hid (Reads .u8 wr (some ⟨gm, 0, none⟩) (64 * q) c m) ∧ Hid (ws0.length = 64 ∧ isWs ws0) ∧ Hid (ABox wr gw 31 ws0) ∧ Hid (Below w.heap.size w wr)) (fun v9 _ => 64 * q - (intOf v9).toNat)
          case atStart => exact ⟨0, _, Nat.zero_le _, rfl, H6, K6, M6, Lib.hid ⟨by simp, by intro x hx; simp at hx; subst hx; decide⟩, X6, B6⟩
          case round =>
            obtain ⟨k, ws0, hk, rfl, H, K, M, HW0, X, B⟩ := hrel
            clear H6 K6 M6 X6 B6
            by_cases hlt : k < q
            · obtain ⟨w7, rfl⟩ : ∃ w7 : World, w7 = wr := ⟨_, rfl⟩
              have hstl := mixN_len m (show hSha.length = 8 from rfl) k
              have hstw := mixN_isWs m hSha_isWs k
              have HNX := Lib.hid (show mixN hSha m (k + 1) = mixS (mixN hSha m k) (blk m k) from rfl)
              have HST := Lib.hid hstl; have HSW := Lib.hid hstw
              clear hstl hstw
              generalize mixN hSha m k = st at *
              obtain ⟨hw0l, hw0w⟩ := HW0.out
              have HW0L := Lib.hid hw0l; have HW0W := Lib.hid hw0w
              clear hw0l hw0w
              have hmlt := M.out.lt0 (by omega)
              have hklt := K.out.lt; have hhlt := H.out.lt
              have u0 : 64 * (k : Int) < 64 * (q : Int) := by omega
              go_upto_region 15 with (fail)
              clear u0
              go_wp2_with fail
              go_loopw [10] (fun vi wr => ∃ i : Nat, i ≤ 16 ∧ vi = .int .i64 i ∧ Hid (ABox wr gw 31 (wArr (blk m k) ws0 i)) ∧ Hid (Below gw w7 wr) ∧ Hid (Below w.heap.size w wr)) (fun vi _ => 16 - (intOf vi).toNat)
              case atStart => exact ⟨0, Nat.zero_le _, rfl, X, Lib.hid (Below.refl _ _), B⟩
              case round =>
                obtain ⟨i, hi, rfl, X, V, B⟩ := hrel
                by_cases hl4 : i < 16
                · have MR := M.out.low V.out hgm2
                  have d0 := fun x : GrownW wr => x.cell (MR.lt0 (by omega)) (MR.cell0 (64 * k + 4 * i) (by omega))
                  have d1 := fun x : GrownW wr => x.cell (MR.lt0 (by omega)) (MR.cell0 (64 * k + 4 * i + 1) (by omega))
                  have d2 := fun x : GrownW wr => x.cell (MR.lt0 (by omega)) (MR.cell0 (64 * k + 4 * i + 2) (by omega))
                  have d3 := fun x : GrownW wr => x.cell (MR.lt0 (by omega)) (MR.cell0 (64 * k + 4 * i + 3) (by omega))
                  have e0 := HMB.out.get (64 * k + 4 * i) (by rw [HML.out]; omega)
                  have e1 := HMB.out.get (64 * k + 4 * i + 1) (by rw [HML.out]; omega)
                  have e2 := HMB.out.get (64 * k + 4 * i + 2) (by rw [HML.out]; omega)
                  have e3 := HMB.out.get (64 * k + 4 * i + 3) (by rw [HML.out]; omega)
                  have HWD := Lib.hid (wWord_blk m k i hl4)
                  have HNW := Lib.hid (show wArr (blk m k) ws0 (i + 1) = (wArr (blk m k) ws0 i).set i (wWord (blk m k) i) by rw [wArr, if_pos hl4])
                  generalize m.getD (64 * k + 4 * i) 0 = x0 at *
                  generalize m.getD (64 * k + 4 * i + 1) 0 = x1 at *
                  generalize m.getD (64 * k + 4 * i + 2) 0 = x2 at *
                  generalize m.getD (64 * k + 4 * i + 3) 0 = x3 at *
                  obtain ⟨q0, q1⟩ := e0; obtain ⟨q2, q3⟩ := e1; obtain ⟨q4, q5⟩ := e2; obtain ⟨q6, q7⟩ := e3
                  have t0 : (64 * (k : Int) + 4 * (i : Int)).toNat = 64 * k + 4 * i := by omega
                  have v0 : (0 : Int) ≤ 64 * (k : Int) + 4 * (i : Int) := by omega
                  have y0 : 64 * (k : Int) + 4 * (i : Int) < 64 * (q : Int) := by omega
                  have z0 : IntKind.i64.wrap (64 * (k : Int) + 4 * (i : Int)) = 64 * (k : Int) + 4 * (i : Int) := Go.IntWalk.i64_in _ (by omega)
                  have t1 : (64 * (k : Int) + 4 * (i : Int) + 1).toNat = 64 * k + 4 * i + 1 := by omega
                  have v1 : (0 : Int) ≤ 64 * (k : Int) + 4 * (i : Int) + 1 := by omega
                  have y1 : 64 * (k : Int) + 4 * (i : Int) + 1 < 64 * (q : Int) := by omega
                  have z1 : IntKind.i64.wrap (64 * (k : Int) + 4 * (i : Int) + 1) = 64 * (k : Int) + 4 * (i : Int) + 1 := Go.IntWalk.i64_in _ (by omega)
                  have t2 : (64 * (k : Int) + 4 * (i : Int) + 2).toNat = 64 * k + 4 * i + 2 := by omega
                  have v2 : (0 : Int) ≤ 64 * (k : Int) + 4 * (i : Int) + 2 := by omega
                  have y2 : 64 * (k : Int) + 4 * (i : Int) + 2 < 64 * (q : Int) := by omega
                  have z2 : IntKind.i64.wrap (64 * (k : Int) + 4 * (i : Int) + 2) = 64 * (k : Int) + 4 * (i : Int) + 2 := Go.IntWalk.i64_in _ (by omega)
                  have t3 : (64 * (k : Int) + 4 * (i : Int) + 3).toNat = 64 * k + 4 * i + 3 := by omega
                  have v3 : (0 : Int) ≤ 64 * (k : Int) + 4 * (i : Int) + 3 := by omega
                  have y3 : 64 * (k : Int) + 4 * (i : Int) + 3 < 64 * (q : Int) := by omega
                  have z3 : IntKind.i64.wrap (64 * (k : Int) + 4 * (i : Int) + 3) = 64 * (k : Int) + 4 * (i : Int) + 3 := Go.IntWalk.i64_in _ (by omega)
                  have i9 : (i : Int) < 64 := by omega
                  have i16 : (i : Int) < 16 := by omega
                  have i8 : (0 : Int) ≤ i := by omega
                  clear MR
                  go_wp2_with fail
                  refine wp_region_any (by kernel_rfl) ?_
                  change wpAny _ _ _ _ _ _ _ (World.drew _)
                  refine wpAny_grow_tail [0, 1, 2, 3, 4, 5, 6, 7, 8, 9, 10, 11, 12, 13, 14, 15, 16, 17, 18, 19, 20, 21, 22, 23, 24, 25, 26, 27, 28, 29, 30] [31, 32] (by kernel_rfl) ?_
                  simp only [pickOps, List.getElem?_toArray, List.getElem?_cons_zero, List.getElem?_cons_succ, Option.toList_some, List.cons_append, List.nil_append]
                  repeat (go_big_quiet_step (fail))
                  refine wpQuiet_nil ?_
                  intro wg hw'
                  obtain ⟨⟨wz, hbg⟩, hw''⟩ := hw'
                  subst hw''
                  have X2 := X.out.below hbg
                  have c := X2.cell i (by rw [wArr_len, HW0L.out]; omega)
                  have f := X2.frozen i
                  clear d0 d1 d2 d3
                  go_wp2_with fail
                  go_roundw
                  case rel =>
                    refine ⟨i + 1, by omega, by go_num, Lib.hid ?_, Lib.hid ((V.out.trans (hbg.mono (Nat.le_of_lt X.out.lt))).setCell (Nat.le_refl _) _), Lib.hid ((below_size B.out hbg).setCell (by simp; omega) _)⟩
                    rw [HNW.out, HWD.out]
                    exact X2.set i _
                  case measure => simp [intOf]; omega
                · have hi16 : i = 16 := by omega
                  rw [hi16] at X
                  have hnl : ¬ (i : Int) < 16 := by omega
                  clear hi hi16
                  go_wp2_with fail
                  clear hnl hl4
                  go_loopw [12] (fun vi wr => ∃ i : Nat, 16 ≤ i ∧ i ≤ 64 ∧ vi = .int .i64 i ∧ Hid (ABox wr gw 31 (wArr (blk m k) ws0 i)) ∧ Hid (Below gw w7 wr) ∧ Hid (Below w.heap.size w wr)) (fun vi _ => 64 - (intOf vi).toNat)
                  case atStart => exact ⟨16, Nat.le_refl _, by decide, rfl, X, V, B⟩
                  case round =>
                    obtain ⟨i, hi0, hi, rfl, X, V, B⟩ := hrel
                    by_cases hl5 : i < 64
                    · have hwl := wArr_len (blk m k) ws0 i
                      rw [HW0L.out] at hwl
                      have hww := wArr_isWs (blk m k) HW0W.out i
                      have HNW := Lib.hid (show wArr (blk m k) ws0 (i + 1) = (wArr (blk m k) ws0 i).set i (add32 (add32 (add32 ((wArr (blk m k) ws0 i).getD (i - 16) 0) (sig0 ((wArr (blk m k) ws0 i).getD (i - 15) 0))) ((wArr (blk m k) ws0 i).getD (i - 7) 0)) (sig1 ((wArr (blk m k) ws0 i).getD (i - 2) 0))) by rw [wArr, if_neg (by omega)]; rfl)
                      have d0 := fun x : GrownW wr => x.cell X.out.lt (X.out.cell (i - 16) (by rw [hwl]; omega))
                      have d1 := fun x : GrownW wr => x.cell X.out.lt (X.out.cell (i - 15) (by rw [hwl]; omega))
                      have d2 := fun x : GrownW wr => x.cell X.out.lt (X.out.cell (i - 7) (by rw [hwl]; omega))
                      have d3 := fun x : GrownW wr => x.cell X.out.lt (X.out.cell (i - 2) (by rw [hwl]; omega))
                      have e1 := hww.get (i - 15) (by rw [hwl]; omega)
                      have e3 := hww.get (i - 2) (by rw [hwl]; omega)
                      have e0 := hww.get (i - 16) (by rw [hwl]; omega)
                      have e2 := hww.get (i - 7) (by rw [hwl]; omega)
                      have HWS := Lib.hid hwl
                      clear hww hwl
                      generalize (wArr (blk m k) ws0 i).getD (i - 16) 0 = a0 at *
                      generalize (wArr (blk m k) ws0 i).getD (i - 15) 0 = a1 at *
                      generalize (wArr (blk m k) ws0 i).getD (i - 7) 0 = a2 at *
                      generalize (wArr (blk m k) ws0 i).getD (i - 2) 0 = a3' at *
                      have T7 : ∀ w, Calls Try.prog 20 #[.int .u32 a1, .int .i64 7] w fun e w' => e = .returned (.int .u32 (rot a1 7)) ∧ Below w.heap.size w w' := fun w => rturn_any a1 7 w e1 (by decide) (by decide)
                      have T18 : ∀ w, Calls Try.prog 20 #[.int .u32 a1, .int .i64 18] w fun e w' => e = .returned (.int .u32 (rot a1 18)) ∧ Below w.heap.size w w' := fun w => rturn_any a1 18 w e1 (by decide) (by decide)
                      have T17 : ∀ w, Calls Try.prog 20 #[.int .u32 a3', .int .i64 17] w fun e w' => e = .returned (.int .u32 (rot a3' 17)) ∧ Below w.heap.size w w' := fun w => rturn_any a3' 17 w e3 (by decide) (by decide)
                      have T19 : ∀ w, Calls Try.prog 20 #[.int .u32 a3', .int .i64 19] w fun e w' => e = .returned (.int .u32 (rot a3' 19)) ∧ Below w.heap.size w w' := fun w => rturn_any a3' 19 w e3 (by decide) (by decide)
                      have H7 := Lib.hid T7; have H18 := Lib.hid T18; have H17 := Lib.hid T17; have H19 := Lib.hid T19
                      have HS0 := Lib.hid (show sig0 a1 = xor32 (xor32 (rot a1 7) (rot a1 18)) (a1 / 8) from rfl)
                      have HS1 := Lib.hid (show sig1 a3' = xor32 (xor32 (rot a3' 17) (rot a3' 19)) (a3' / 1024) from rfl)
                      generalize rot a1 7 = r1 at *
                      generalize rot a1 18 = r2 at *
                      generalize rot a3' 17 = r3 at *
                      generalize rot a3' 19 = r4 at *
                      clear T7 T18 T17 T19
                      obtain ⟨q0, q1⟩ := e0; obtain ⟨q2, q3⟩ := e1; obtain ⟨q4, q5⟩ := e2; obtain ⟨q6, q7⟩ := e3
                      have t0 : ((i : Int) - 16).toNat = i - 16 := by omega
                      have v0 : (0 : Int) ≤ (i : Int) - 16 := by omega
                      have y0 : (i : Int) - 16 < 64 := by omega
                      have z0 : IntKind.i64.wrap ((i : Int) - 16) = i - 16 := Go.IntWalk.i64_in _ (by omega)
                      have t1 : ((i : Int) - 15).toNat = i - 15 := by omega
                      have v1 : (0 : Int) ≤ (i : Int) - 15 := by omega
                      have y1 : (i : Int) - 15 < 64 := by omega
                      have z1 : IntKind.i64.wrap ((i : Int) - 15) = i - 15 := Go.IntWalk.i64_in _ (by omega)
                      have t2 : ((i : Int) - 7).toNat = i - 7 := by omega
                      have v2 : (0 : Int) ≤ (i : Int) - 7 := by omega
                      have y2 : (i : Int) - 7 < 64 := by omega
                      have z2 : IntKind.i64.wrap ((i : Int) - 7) = i - 7 := Go.IntWalk.i64_in _ (by omega)
                      have t3 : ((i : Int) - 2).toNat = i - 2 := by omega
                      have v3 : (0 : Int) ≤ (i : Int) - 2 := by omega
                      have y3 : (i : Int) - 2 < 64 := by omega
                      have z3 : IntKind.i64.wrap ((i : Int) - 2) = i - 2 := Go.IntWalk.i64_in _ (by omega)
                      have i9 : (i : Int) < 64 := by omega
                      have i8 : (0 : Int) ≤ i := by omega
                      go_wp2_with fail
                      refine wp_region_grow_lit (by kernel_rfl) (by kernel_rfl) ?_
                      repeat (go_big_quiet_step (first
                        | (go_at_call 20; (with_reducible refine grow_call (H7.out _)))
                        | (go_at_call 20; (with_reducible refine grow_call (H18.out _)))))
                      refine wpQuiet_nil ?_
                      intro wg hw'
                      obtain ⟨⟨wz, hbg⟩, hw''⟩ := hw'
                      subst hw''
                      obtain ⟨wh, rfl⟩ : ∃ wh : World, wh = wg := ⟨_, rfl⟩
                      have hbg1 := Lib.hid hbg
                      have Xh := Lib.hid (X.out.below hbg); have Bh := Lib.hid (below_size B.out hbg); have Vh := Lib.hid (V.out.trans (hbg.mono (Nat.le_of_lt X.out.lt)))
                      have d3 := fun x : GrownW wh => x.cell Xh.out.lt ((hbg.cell X.out.lt).trans (d3 ⟨_, Below.refl _ _⟩))
                      have d0 := fun x : GrownW wh => x.cell Xh.out.lt ((hbg.cell X.out.lt).trans (d0 ⟨_, Below.refl _ _⟩))
                      have d2 := fun x : GrownW wh => x.cell Xh.out.lt ((hbg.cell X.out.lt).trans (d2 ⟨_, Below.refl _ _⟩))
                      clear hbg d1
                      go_wp2_with fail
                      refine wp_region_grow_lit (by kernel_rfl) (by kernel_rfl) ?_
                      repeat (go_big_quiet_step (first
                        | (go_at_call 20; (with_reducible refine grow_call (H17.out _)))
                        | (go_at_call 20; (with_reducible refine grow_call (H19.out _)))))
                      refine wpQuiet_nil ?_
                      intro wg hw'
                      obtain ⟨⟨wz, hbg⟩, hw''⟩ := hw'
                      subst hw''
                      obtain ⟨wi, rfl⟩ : ∃ wi : World, wi = wg := ⟨_, rfl⟩
                      have Xi := Lib.hid (Xh.out.below hbg); have Bi := Lib.hid (below_size Bh.out hbg); have Vi := Lib.hid (Vh.out.trans (hbg.mono (Nat.le_of_lt Xh.out.lt)))
                      have d0 := fun x : GrownW wi => x.cell Xi.out.lt ((hbg.cell Xh.out.lt).trans (d0 ⟨_, Below.refl _ _⟩))
                      have d2 := fun x : GrownW wi => x.cell Xi.out.lt ((hbg.cell Xh.out.lt).trans (d2 ⟨_, Below.refl _ _⟩))
                      clear hbg d3
                      go_wp2_with fail
                      refine wp_region_any (by kernel_rfl) ?_
                      change wpAny _ _ _ _ _ _ _ (World.drew _)
                      refine wpAny_grow_tail [0, 1, 2, 3, 4, 5, 6, 7, 8, 9, 10, 11, 12, 13, 14, 15, 16] [17, 18] (by kernel_rfl) ?_
                      simp only [pickOps, List.getElem?_toArray, List.getElem?_cons_zero, List.getElem?_cons_succ, Option.toList_some, List.cons_append, List.nil_append]
                      repeat (go_big_quiet_step (fail))
                      refine wpQuiet_nil ?_
                      intro wg hw'
                      obtain ⟨⟨wz, hbg⟩, hw''⟩ := hw'
                      subst hw''
                      have X2 := Xi.out.below hbg
                      have c := X2.cell i (by rw [HWS.out]; omega)
                      have f := X2.frozen i
                      clear d0 d2
                      go_wp2_with fail
                      go_roundw
                      case rel =>
                        refine ⟨i + 1, by omega, by omega, by go_num, Lib.hid ?_, Lib.hid ((Vi.out.trans (hbg.mono (Nat.le_of_lt Xi.out.lt))).setCell (Nat.le_refl _) _), Lib.hid ((below_size Bi.out hbg).setCell (by simp; omega) _)⟩
                        rw [HNW.out, HS0.out, HS1.out]
                        rw [add32_3]
                        exact X2.set i _
                      case measure => simp [intOf]; omega
                    · have hi64 : i = 64 := by omega
                      rw [hi64] at X
                      have hnl : ¬ (i : Int) < 64 := by omega
                      have hwl := wArr_len (blk m k) ws0 64
                      rw [HW0L.out] at hwl
                      have hww := wArr_isWs (blk m k) HW0W.out 64
                      have hwe := wArr_all (blk m k) ws0 (List.replicate 64 0) HW0L.out (by simp)
                      obtain ⟨ws, hws⟩ : ∃ ws, wArr (blk m k) ws0 64 = ws := ⟨_, rfl⟩
                      rw [hws] at X hwl hww hwe
                      have HWL := Lib.hid hwl; have HWW := Lib.hid hww; have HWE := Lib.hid hwe
                      have K := Lib.hid (K.out.low V.out (by omega)); have H := Lib.hid (H.out.low V.out (by omega)); have M := Lib.hid (M.out.low V.out hgm2)
                      clear hwl hww hwe hws hi hi0 hi64 V
                      have hx2 : gw < wr.heap.size := X.out.lt
                      go_upto_region 27 with (fail)
                      clear hnl hl5
                      have bl : Below wr.heap.size wr (wr.alloc (.cells #[.int .u32 0, .int .u32 0, .int .u32 0, .int .u32 0, .int .u32 0, .int .u32 0, .int .u32 0, .int .u32 0] 32)) := (Below.refl _ _).alloc (Nat.le_refl _) _
                      have Z := Lib.hid (ABox.new wr 32 (List.replicate 8 0) #[.int .u32 0, .int .u32 0, .int .u32 0, .int .u32 0, .int .u32 0, .int .u32 0, .int .u32 0, .int .u32 0] rfl)
                      replace X := Lib.hid (X.out.below bl); replace H := Lib.hid (H.out.below bl); replace M := Lib.hid (M.out.below bl); replace K := Lib.hid (K.out.below bl); replace B := Lib.hid (below_size B.out bl)
                      clear bl
                      generalize wr.alloc (.cells #[.int .u32 0, .int .u32 0, .int .u32 0, .int .u32 0, .int .u32 0, .int .u32 0, .int .u32 0, .int .u32 0] 32) = v0 at *
                      generalize wr.heap.size = g3 at *
                      go_upto_region 28 with (refine wpList_copy_arr rfl _ _ 40 rfl 31 Try.underlying40 sizeU32 g3 gh 8 8 8 rfl rfl (List.replicate 8 0) st 32 31 Z.out H.out rfl HST.out ?_)
                      have Y := Lib.hid (Z.out.row st)
                      replace X := Lib.hid (X.out.rowFar g3 (st.map (Value.int .u32)).toArray (by omega)); replace H := Lib.hid (H.out.rowFar g3 (st.map (Value.int .u32)).toArray (by omega)); replace M := Lib.hid (M.out.rowFar g3 (st.map (Value.int .u32)).toArray (by omega)); replace K := Lib.hid (K.out.rowFar g3 (st.map (Value.int .u32)).toArray (by omega)); replace B := Lib.hid (below_setRow B.out (show w.heap.size ≤ g3 by omega) (st.map (Value.int .u32)).toArray)
                      generalize v0.setRow g3 (st.map (Value.int .u32)).toArray = v1 at *
                      clear Z
                      go_wp2_with fail
                      go_loopw [16] (fun vi wr => ∃ i : Nat, i ≤ 64 ∧ vi = .int .i64 i ∧ Hid (ABox wr g3 32 (rnds kSha ws st i)) ∧ Hid (Below g3 v1 wr)) (fun vi _ => 64 - (intOf vi).toNat)
                      case atStart => exact ⟨0, by omega, rfl, Y, Lib.hid (Below.refl _ _)⟩
                      case round =>
                        obtain ⟨i, hi, rfl, Y, V⟩ := hrel
                        by_cases hlt : i < 64
                        · have hvl := rnds_len kSha ws st HST.out i
                          have hvw := rnds_isWs (ks := kSha) (ws := ws) (v := st) HST.out HSW.out i
                          have HNX := Lib.hid (show rnds kSha ws st (i + 1) = rnd (kSha.getD i 0) (ws.getD i 0) (rnds kSha ws st i) from rfl)
                          have hkw := kSha_isWs.get i (by show i < 64; exact hlt)
                          have hwd := HWW.out.get i (by rw [HWL.out]; exact hlt)
                          have Kz := Lib.hid (K.out.low V.out (by omega)); have Xz := Lib.hid (X.out.low V.out hx2)
                          refine rround6 (by kernel_rfl) w.heap.size gw g3 i wr v1 ws (rnds kSha ws st i) _ _ hlt (Lib.hid rfl) (Lib.hid rfl) HWL hkw hwd hvl hvw Kz Xz Y V (by omega) (by omega) _ ?_
                          intro z16 z17 z18 z19 z20 z21 z166 z167 z168 z169 z170 z171 z172 z173 z174 z175 z176 z177 z178 z179 z180 z181 z182 z183 z184 z185 z186 z187 z188 z189 z190 z191 z192 z193 z194 z195 z196 z197 z198 z199 z200 z201 z202 z203 z204 z205 z206 z207 z208 z209 z210 z211 z212 z213 z214 z215 z216 z217 z218 z219 z220 z221 z222 z223 z224 z225 z226 z227 z228 z229 z230 z231 z232 z233 z234 z235 z236 z237 z238 z239 z240 z241 z242 z243 z244 z245 z246 z247 z248 z249 z250 z251 z252 z253 z254 z255 z256 z257 z258 w2
                          rintro rfl HY HV
                          rw [← HNX.out] at HY
                          change _ ∧ _
                          go_roundw
                          case rel => exact ⟨i + 1, by omega, rfl, Lib.hid HY, Lib.hid HV⟩
                          case measure => simp [intOf]; omega
                        · have hi64 : i = 64 := by omega
                          rw [hi64] at Y
                          have hnl : ¬ (i : Int) < 64 := by omega
                          have K := Lib.hid (K.out.low V.out (by omega)); have H := Lib.hid (H.out.low V.out (by omega)); have M := Lib.hid (M.out.low V.out (by omega)); have X := Lib.hid (X.out.low V.out hx2); have B := Lib.hid (B.out.trans (V.out.mono (by omega)))
                          have hvl := rnds_len kSha ws st HST.out 64
                          have hvw := rnds_isWs (ks := kSha) (ws := ws) (v := st) HST.out HSW.out 64
                          obtain ⟨rs, hrs⟩ : ∃ x, rnds kSha ws st 64 = x := ⟨_, rfl⟩
                          rw [hrs] at Y hvl hvw
                          have HRS := Lib.hid hrs; have HVL := Lib.hid hvl; have HVW := Lib.hid hvw
                          clear hrs hvl hvw hi hi64 V
                          go_upto_region 37 with (fail)
                          clear hnl hlt
                          go_wp2_with fail
                          go_loopw [22] (fun vi wr => ∃ i : Nat, i ≤ 8 ∧ vi = .int .i64 i ∧ Hid (ABox wr gh 31 (addS st rs i)) ∧ Hid (ABox wr g3 32 rs) ∧ Hid (ABox wr w.heap.size 31 kSha) ∧ Hid (Reads .u8 wr (some ⟨gm, 0, none⟩) (64 * q) c m) ∧ Hid (ABox wr gw 31 ws) ∧ Hid (Below w.heap.size w wr)) (fun vi _ => 8 - (intOf vi).toNat)
                          case atStart => exact ⟨0, by omega, rfl, H, Y, K, M, X, B⟩
                          case round =>
                            obtain ⟨i, hi, rfl, H, Y, K, M, X, B⟩ := hrel
                            have hsl := addS_len st rs i
                            rw [HST.out] at hsl
                            have hsw := addS_isWs HSW.out (v := rs) i
                            by_cases hl7 : i < 8
                            · have HNA := Lib.hid (show addS st rs (i + 1) = (addS st rs i).set i (add32 ((addS st rs i).getD i 0) (rs.getD i 0)) from rfl)
                              have e0 := hsw.get i (by rw [hsl]; exact hl7)
                              have e1 := HVW.out.get i (by rw [HVL.out]; exact hl7)
                              have d0 := fun x : GrownW wr => x.cell H.out.lt (H.out.cell i (by rw [hsl]; exact hl7))
                              have d1 := fun x : GrownW wr => x.cell Y.out.lt (Y.out.cell i (by rw [HVL.out]; exact hl7))
                              have HSL := Lib.hid hsl
                              clear hsl hsw
                              generalize addS st rs i = s7 at *
                              generalize s7.getD i 0 = x0 at *
                              generalize rs.getD i 0 = x1 at *
                              obtain ⟨q0, q1⟩ := e0; obtain ⟨q2, q3⟩ := e1
                              have i9 : (i : Int) < 8 := by omega
                              have i8 : (0 : Int) ≤ i := by omega
                              go_wp2_with fail
                              refine wp_region_any (by kernel_rfl) ?_
                              change wpAny _ _ _ _ _ _ _ (World.drew _)
                              refine wpAny_grow_tail [0, 1, 2, 3, 4, 5, 6, 7, 8, 9] [10, 11] (by kernel_rfl) ?_
                              simp only [pickOps, List.getElem?_toArray, List.getElem?_cons_zero, List.getElem?_cons_succ, Option.toList_some, List.cons_append, List.nil_append]
                              repeat (go_big_quiet_step (fail))
                              refine wpQuiet_nil ?_
                              intro wg hw'
                              obtain ⟨⟨wz, hbg⟩, hw''⟩ := hw'
                              subst hw''
                              have S2 := H.out.below hbg
                              have c := S2.cell i (by rw [HSL.out]; exact hl7)
                              have f := S2.frozen i
                              clear d0 d1
                              go_wp2_with fail
                              go_roundw
                              case rel =>
                                refine ⟨i + 1, by omega, by go_num, Lib.hid ?_, Lib.hid ((Y.out.below hbg).far _ _ _ (by omega)), Lib.hid ((K.out.below hbg).far _ _ _ (by omega)), Lib.hid ((M.out.below hbg).far _ _ _ (by omega)), Lib.hid ((X.out.below hbg).far _ _ _ (by omega)), Lib.hid ((below_size B.out hbg).setCell (by simp; omega) _)⟩
                                rw [HNA.out]
                                exact S2.set i _
                              case measure => simp [intOf]; omega
                            · have hi8 : i = 8 := by omega
                              rw [hi8] at H hsl hsw
                              have hnl : ¬ (i : Int) < 8 := by omega
                              have HM := Lib.hid (show mixN hSha m (k + 1) = addS st rs 8 by rw [HNX.out]; unfold mixS; rw [← HWE.out, HRS.out])
                              have h64 : IntKind.i64.wrap (64 * (k : Int) + 64) = 64 * (k : Int) + 64 := Go.IntWalk.i64_in _ (by omega)
                              clear hi hi8 hsl hsw
                              go_wp2_with fail
                              go_roundw
                              case rel => exact ⟨k + 1, ws, by omega, by go_num, by rw [HM.out]; exact H, K, M, Lib.hid ⟨HWL.out, HWW.out⟩, X, B⟩
                              case measure => simp [intOf]; omega
            · have hkq : k = q := by omega
              have u0 : ¬ 64 * (k : Int) < 64 * (q : Int) := by omega
              rw [hkq, ← HSH.out] at H
              have hstl := shaS_len xs
              have hstw := shaS_isWs xs
              have HSB := Lib.hid (show shaB xs = (shaS xs).flatMap bytes4 from rfl)
              generalize shaS xs = st at *
              have HST := Lib.hid hstl; have HSW := Lib.hid hstw
              clear hstl hstw HSH
              go_upto_region 41 with (fail)
              clear u0 hlt hkq hk
              go_wp2_with fail
              go_loopw [23, 24] (fun v9 vi wr => ∃ (i : Nat) (a : Option Addr) (c : Nat), i ≤ 8 ∧ vi = .int .i64 i ∧ v9 = .slice a (4 * i) c ∧ wr.ownsRow (gh + 1) 5 1 (.slice a (4 * i) c) (4 * i) (((st.take i).flatMap bytes4).map (Value.int .u8)) ∧ Hid (ABox wr gh 31 st) ∧ Hid (Below w.heap.size w wr) ∧ Hid (gh + 1 ≤ wr.heap.size)) (fun _ vi _ => 8 - (intOf vi).toNat)
              case atStart => exact ⟨0, _, _, by omega, rfl, rfl, ⟨by simp, .inl ⟨rfl, rfl⟩⟩, H, B, Lib.hid H.out.lt⟩
              case round =>
                obtain ⟨i, a, c, hi, rfl, rfl, own, H, B, hz⟩ := hrel
                by_cases hlt : i < 8
                · refine rround8 (by kernel_rfl) w gh i a c wr st (st.getD i 0) hlt rfl (HSW.out.get i (by rw [HST.out]; exact hlt)) HST own H B (by omega) hz _ (fun _ _ _ d _ h => by cases d <;> exact h) ?_
                  intro z23 z24 z274 z275 z276 z277 z278 z279 z280 z281 z282 z283 z284 z285 z286 z287 z288 z289 z290 z291 z292 z293 z294 z295 z296 z297 z298 z299 z300 z301 z302 z303 a2 c2 w2
                  rintro rfl rfl ho HH HB2 HZ
                  change _ ∧ _
                  go_roundw
                  case rel => exact ⟨i + 1, a2, c2, by omega, rfl, rfl, ho, Lib.hid HH, Lib.hid HB2, Lib.hid HZ⟩
                  case measure => simp [intOf]; omega
                · have hi8 : i = 8 := by omega
                  have hnl : ¬ (i : Int) < 8 := by omega
                  have HL := Lib.hid HST.out
                  rw [hi8, List.take_of_length_le (by rw [HST.out]; exact Nat.le_refl _)] at own
                  go_wp2_with fail
                  go_ret
                  have hl32 := shaB_len xs
                  unfold RetS
                  rw [hl32, HSB.out]
                  exact ⟨a, c, rfl, owns_base own (by omega), B.out⟩
end Go.Proofs.Ytkfcjlegeccgjaa
