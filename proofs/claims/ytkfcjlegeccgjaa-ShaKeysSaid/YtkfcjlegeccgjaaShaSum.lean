/-
  sha.Sum.
-/
import Derived.Test.YtkfcjlegeccgjaaShaSumPure
namespace Go.Proofs.Ytkfcjlegeccgjaa
open Go.RowKit

theorem sizeU8 : (Try.prog.info? 5).map (·.size) = some 1 := by kernel_rfl
theorem Reads.rowFar {k : IntKind} {w : World} {gt o n cap : Nat} {xs : List Int} (h : Reads k w (some ⟨gt, o, Option.none⟩) n cap xs) (g : Nat) (C : Array Value) (hne : gt ≠ g) : Reads k (w.setRow g C) (some ⟨gt, o, Option.none⟩) n cap xs :=
  ⟨h.len, h.le, h.max, h.nil, fun hn => by
    obtain ⟨b, off, e, hl, hc⟩ := h.cells hn
    exact ⟨b, off, e, by simpa using hl, fun i hi => by rw [cell_setRow_other _ _ _ _ (by cases e; exact hne)]; exact hc i hi⟩⟩
theorem run_index_words (st : List Int) (i : Nat) (hn : st.length = 8) (hi : i < 8) (w : World) :
    (Instr.index 32 (.agg (st.map (Value.int .u32)).toArray) (.int .i64 (i : Int))).run Try.prog w = .ok (.int .u32 (st.getD i 0)) w := by
  obtain ⟨inf, h1, h2⟩ := Option.map_eq_some_iff.1 (show (Try.prog.info? 31).map (·.size) = some 1 by kernel_rfl)
  have hb : ((0 : Int) ≤ (i : Int) ∧ (i : Int) < 8) := by omega
  simp [Instr.index, run_underlying arr8, asIntOf, go_sem, sizeOf, typeInfo, h1, h2, part, isAgg, run_underlying Try.underlying31, hb, List.getD]
  have : i < st.length := by omega
  simp [this]
  omega
theorem made0_32 (w : World) : (Instr.makeSlice 22 (.int .i64 0) (.int .i64 32)).run Try.prog w = .ok (.slice (some ⟨w.heap.size, 0, Option.none⟩) 0 32) (w.alloc (.cells (madeCells #[Value.int .u8 0] 32) 5)) := by
  obtain ⟨i0, hi, hz0, hz1, hz2⟩ := info_parts infoC
  have := run_make (P := Try.prog) w 22 5 i0 (.int .u8 0) Try.underlying22 hi hz0 .i64 .i64 0 32 (by omega) (by omega) (by rw [hz2]; omega) (by omega)
  rw [hz1] at this
  refine this.trans ?_
  simp [Value.cells]
theorem box8 (wb : World) : ABox ((wb.alloc (.cells #[.int .u32 0, .int .u32 0, .int .u32 0, .int .u32 0, .int .u32 0, .int .u32 0, .int .u32 0, .int .u32 0] 32)).alloc (.cells #[.int .u32 0, .int .u32 0, .int .u32 0, .int .u32 0, .int .u32 0, .int .u32 0, .int .u32 0, .int .u32 0, .int .u32 0, .int .u32 0, .int .u32 0, .int .u32 0, .int .u32 0, .int .u32 0, .int .u32 0, .int .u32 0, .int .u32 0, .int .u32 0, .int .u32 0, .int .u32 0, .int .u32 0, .int .u32 0, .int .u32 0, .int .u32 0, .int .u32 0, .int .u32 0, .int .u32 0, .int .u32 0, .int .u32 0, .int .u32 0, .int .u32 0, .int .u32 0, .int .u32 0, .int .u32 0, .int .u32 0, .int .u32 0, .int .u32 0, .int .u32 0, .int .u32 0, .int .u32 0, .int .u32 0, .int .u32 0, .int .u32 0, .int .u32 0, .int .u32 0, .int .u32 0, .int .u32 0, .int .u32 0, .int .u32 0, .int .u32 0, .int .u32 0, .int .u32 0, .int .u32 0, .int .u32 0, .int .u32 0, .int .u32 0, .int .u32 0, .int .u32 0, .int .u32 0, .int .u32 0, .int .u32 0, .int .u32 0, .int .u32 0, .int .u32 0] 34)) wb.heap.size 32 (List.replicate 8 0) :=
  (ABox.new wb 32 (List.replicate 8 0) _ rfl).below ((Below.refl _ _).alloc (Nat.le_refl _) _)
theorem box64 (wb : World) : ABox (World.setRow ((wb.alloc (.cells #[.int .u32 0, .int .u32 0, .int .u32 0, .int .u32 0, .int .u32 0, .int .u32 0, .int .u32 0, .int .u32 0] 32)).alloc (.cells #[.int .u32 0, .int .u32 0, .int .u32 0, .int .u32 0, .int .u32 0, .int .u32 0, .int .u32 0, .int .u32 0, .int .u32 0, .int .u32 0, .int .u32 0, .int .u32 0, .int .u32 0, .int .u32 0, .int .u32 0, .int .u32 0, .int .u32 0, .int .u32 0, .int .u32 0, .int .u32 0, .int .u32 0, .int .u32 0, .int .u32 0, .int .u32 0, .int .u32 0, .int .u32 0, .int .u32 0, .int .u32 0, .int .u32 0, .int .u32 0, .int .u32 0, .int .u32 0, .int .u32 0, .int .u32 0, .int .u32 0, .int .u32 0, .int .u32 0, .int .u32 0, .int .u32 0, .int .u32 0, .int .u32 0, .int .u32 0, .int .u32 0, .int .u32 0, .int .u32 0, .int .u32 0, .int .u32 0, .int .u32 0, .int .u32 0, .int .u32 0, .int .u32 0, .int .u32 0, .int .u32 0, .int .u32 0, .int .u32 0, .int .u32 0, .int .u32 0, .int .u32 0, .int .u32 0, .int .u32 0, .int .u32 0, .int .u32 0, .int .u32 0, .int .u32 0] 34)) wb.heap.size (hSha.map (Value.int .u32)).toArray) (wb.heap.size + 1) 34 (List.replicate 64 0) := by
  have h := ABox.new (wb.alloc (.cells #[.int .u32 0, .int .u32 0, .int .u32 0, .int .u32 0, .int .u32 0, .int .u32 0, .int .u32 0, .int .u32 0] 32)) 34 (List.replicate 64 0) #[.int .u32 0, .int .u32 0, .int .u32 0, .int .u32 0, .int .u32 0, .int .u32 0, .int .u32 0, .int .u32 0, .int .u32 0, .int .u32 0, .int .u32 0, .int .u32 0, .int .u32 0, .int .u32 0, .int .u32 0, .int .u32 0, .int .u32 0, .int .u32 0, .int .u32 0, .int .u32 0, .int .u32 0, .int .u32 0, .int .u32 0, .int .u32 0, .int .u32 0, .int .u32 0, .int .u32 0, .int .u32 0, .int .u32 0, .int .u32 0, .int .u32 0, .int .u32 0, .int .u32 0, .int .u32 0, .int .u32 0, .int .u32 0, .int .u32 0, .int .u32 0, .int .u32 0, .int .u32 0, .int .u32 0, .int .u32 0, .int .u32 0, .int .u32 0, .int .u32 0, .int .u32 0, .int .u32 0, .int .u32 0, .int .u32 0, .int .u32 0, .int .u32 0, .int .u32 0, .int .u32 0, .int .u32 0, .int .u32 0, .int .u32 0, .int .u32 0, .int .u32 0, .int .u32 0, .int .u32 0, .int .u32 0, .int .u32 0, .int .u32 0, .int .u32 0] rfl
  rw [World.size_alloc] at h
  exact h.rowFar _ _ (by omega)

set_option maxRecDepth 100000 in
set_option maxHeartbeats 4000000 in
theorem sum_any (b : Option Addr) (n cap : Nat) (xs : List Int) (w : World) (hr : Reads .u8 w b n cap xs) (hb : isB xs) (hn : n ≤ 1000000) :
    Calls Try.prog 7 #[.slice b n cap] w (RetS w (shaB xs)) := by
  have hxl := hr.len
  have hcap := hr.le
  have HR := Lib.hid hr; have HB := Lib.hid hb; have HX := Lib.hid hxl
  clear hr hb hxl
  go_enter Try.func7, Try.ntmps7
  go_upto_region 1 with (fail)
  go_upto_region 2 with (first
    | (go_at_call 15; refine (begin_any _).mono ?_; rintro e wa ⟨rfl, Ba⟩)
    | (go_at_call 16; refine (rounds_any _).mono ?_; rintro e wb ⟨rfl, Bb⟩)
    | (refine wpList_store_arr rfl 32 _ _ rfl wb.heap.size rfl hSha rfl (List.replicate 8 0) 32 (box8 wb) arrInfo8 rfl ?_)
    | (refine wpList_store_arr rfl 34 _ _ rfl (wb.heap.size + 1) rfl kSha rfl (List.replicate 64 0) 34 (box64 wb) (by kernel_rfl) rfl ?_))
  have Bw : Below w.heap.size w wb := below_size Ba Bb
  have S := Lib.hid (((box8 wb).row hSha).rowFar (wb.heap.size + 1) (kSha.map (Value.int .u32)).toArray (by omega))
  have K := Lib.hid ((box64 wb).row kSha)
  have B : Hid (Below w.heap.size w (World.setRow (World.setRow ((wb.alloc (.cells #[.int .u32 0, .int .u32 0, .int .u32 0, .int .u32 0, .int .u32 0, .int .u32 0, .int .u32 0, .int .u32 0] 32)).alloc (.cells #[.int .u32 0, .int .u32 0, .int .u32 0, .int .u32 0, .int .u32 0, .int .u32 0, .int .u32 0, .int .u32 0, .int .u32 0, .int .u32 0, .int .u32 0, .int .u32 0, .int .u32 0, .int .u32 0, .int .u32 0, .int .u32 0, .int .u32 0, .int .u32 0, .int .u32 0, .int .u32 0, .int .u32 0, .int .u32 0, .int .u32 0, .int .u32 0, .int .u32 0, .int .u32 0, .int .u32 0, .int .u32 0, .int .u32 0, .int .u32 0, .int .u32 0, .int .u32 0, .int .u32 0, .int .u32 0, .int .u32 0, .int .u32 0, .int .u32 0, .int .u32 0, .int .u32 0, .int .u32 0, .int .u32 0, .int .u32 0, .int .u32 0, .int .u32 0, .int .u32 0, .int .u32 0, .int .u32 0, .int .u32 0, .int .u32 0, .int .u32 0, .int .u32 0, .int .u32 0, .int .u32 0, .int .u32 0, .int .u32 0, .int .u32 0, .int .u32 0, .int .u32 0, .int .u32 0, .int .u32 0, .int .u32 0, .int .u32 0, .int .u32 0, .int .u32 0] 34)) wb.heap.size (hSha.map (Value.int .u32)).toArray) (wb.heap.size + 1) (kSha.map (Value.int .u32)).toArray)) := Lib.hid (below_setRow (below_setRow ((Bw.alloc (by have := Bw.size; omega) _).alloc (by have := Bw.size; simp; omega) _) (by have := Bw.size; omega) _) (by have := Bw.size; omega) _)
  have hgw : w.heap.size ≤ wb.heap.size := Bw.size
  clear Ba Bb Bw
  generalize (World.setRow (World.setRow ((wb.alloc (.cells #[.int .u32 0, .int .u32 0, .int .u32 0, .int .u32 0, .int .u32 0, .int .u32 0, .int .u32 0, .int .u32 0] 32)).alloc (.cells #[.int .u32 0, .int .u32 0, .int .u32 0, .int .u32 0, .int .u32 0, .int .u32 0, .int .u32 0, .int .u32 0, .int .u32 0, .int .u32 0, .int .u32 0, .int .u32 0, .int .u32 0, .int .u32 0, .int .u32 0, .int .u32 0, .int .u32 0, .int .u32 0, .int .u32 0, .int .u32 0, .int .u32 0, .int .u32 0, .int .u32 0, .int .u32 0, .int .u32 0, .int .u32 0, .int .u32 0, .int .u32 0, .int .u32 0, .int .u32 0, .int .u32 0, .int .u32 0, .int .u32 0, .int .u32 0, .int .u32 0, .int .u32 0, .int .u32 0, .int .u32 0, .int .u32 0, .int .u32 0, .int .u32 0, .int .u32 0, .int .u32 0, .int .u32 0, .int .u32 0, .int .u32 0, .int .u32 0, .int .u32 0, .int .u32 0, .int .u32 0, .int .u32 0, .int .u32 0, .int .u32 0, .int .u32 0, .int .u32 0, .int .u32 0, .int .u32 0, .int .u32 0, .int .u32 0, .int .u32 0, .int .u32 0, .int .u32 0, .int .u32 0, .int .u32 0] 34)) wb.heap.size (hSha.map (Value.int .u32)).toArray) (wb.heap.size + 1) (kSha.map (Value.int .u32)).toArray) = w4 at *
  generalize wb.heap.size = g at *
  have R := Lib.hid (HR.out.below B.out)
  go_upto_region 3 with (fail)
  obtain ⟨q, hq⟩ : ∃ q, n / 64 = q := ⟨_, rfl⟩
  have hq1 : 64 * q ≤ n := by omega
  have hq2 : n < 64 * q + 64 := by omega
  have e0 : ((n : Int) / 64 * 64) = (64 * (q : Int)) := by omega
  have e1 : ((n : Int) / 64) = (q : Int) := by omega
  rw [e0, e1]
  have HQ := Lib.hid hq
  clear e0 e1 hq
  go_wp2_with fail
  go_loopw [6] (fun vi wr => ∃ k : Nat, k ≤ q ∧ vi = .int .i64 (64 * (k : Int)) ∧ Hid (ABox wr g 32 (mixN hSha xs k)) ∧ Hid (ABox wr (g + 1) 34 kSha) ∧ Hid (Below w.heap.size w wr)) (fun vi _ => 64 * q - (intOf vi).toNat)
  case atStart => exact ⟨0, Nat.zero_le _, rfl, S, K, B⟩
  case round =>
    obtain ⟨k, hk, rfl, S, K, B⟩ := hrel
    clear R
    have R := HR.out.below B.out
    by_cases hlt : k < q
    · obtain ⟨bb, off, rfl, hbl, -⟩ := R.cells (by omega)
      have hlen := mixN_len xs (show hSha.length = 8 from rfl) k
      have hws := mixN_isWs xs hSha_isWs k
      have HNX := Lib.hid (show mixN hSha xs (k + 1) = mixS (mixN hSha xs k) (blk xs k) from rfl)
      generalize mixN hSha xs k = st at *
      obtain ⟨s0, s1, s2, s3, s4, s5, s6, s7, rfl⟩ := list8 hlen
      have hcut := R.cut (64 * k) (64 * k + 64) (by omega) (by omega)
      have hc0 : ¬ cap = 64 * k := by omega
      rw [show cutA (some ⟨bb, off, none⟩) (64 * k) cap = some ⟨bb, off + 64 * k, none⟩ by unfold cutA; rw [if_neg hc0, Option.map_some, Addr.add_lit], show 64 * k + 64 - 64 * k = 64 by omega] at hcut
      have HM : ∀ x : GrownW wr, Calls Try.prog 17 #[.agg #[.int .u32 s0, .int .u32 s1, .int .u32 s2, .int .u32 s3, .int .u32 s4, .int .u32 s5, .int .u32 s6, .int .u32 s7], .pointer (some ⟨g + 1, 0, Option.none⟩), .slice (some ⟨bb, off + 64 * k, none⟩) 64 (cap - 64 * k)] x.val
          fun e w' => e = .returned (.agg ((mixS [s0, s1, s2, s3, s4, s5, s6, s7] (blk xs k)).map (Value.int .u32)).toArray) ∧ Below x.val.heap.size x.val w' := fun x =>
        mix_any s0 s1 s2 s3 s4 s5 s6 s7 (g + 1) _ _ (blk xs k) x.val hws (K.out.below x.2) (hcut.below x.2) (blk_isB HB.out k)
      have d0 := fun x : GrownW wr => x.cell S.out.lt (S.out.cell 0 (by simp)); have d1 := fun x : GrownW wr => x.cell S.out.lt (S.out.cell 1 (by simp)); have d2 := fun x : GrownW wr => x.cell S.out.lt (S.out.cell 2 (by simp)); have d3 := fun x : GrownW wr => x.cell S.out.lt (S.out.cell 3 (by simp))
      have d4 := fun x : GrownW wr => x.cell S.out.lt (S.out.cell 4 (by simp)); have d5 := fun x : GrownW wr => x.cell S.out.lt (S.out.cell 5 (by simp)); have d6 := fun x : GrownW wr => x.cell S.out.lt (S.out.cell 6 (by simp)); have d7 := fun x : GrownW wr => x.cell S.out.lt (S.out.cell 7 (by simp))
      simp only [List.getD_cons_zero, List.getD_cons_succ] at d0 d1 d2 d3 d4 d5 d6 d7
      have u0 : (64 * (k : Int)) < (64 * (q : Int)) := by omega
      have u1 : IntKind.i64.wrap ((64 * (k : Int)) + 64) = (64 * (k : Int) + 64) := Go.IntWalk.i64_in _ (by omega)
      clear hlen hws hcut
      go_upto_region 6 with (fail)
      refine wp_region_any (by kernel_rfl) ?_
      change wpAny _ _ _ _ _ _ _ (World.drew _)
      refine wpAny_grow_tail [0, 1, 2, 3, 4, 5, 6] [7] (by kernel_rfl) ?_
      simp only [pickOps, List.getElem?_toArray, List.getElem?_cons_zero, List.getElem?_cons_succ, Option.toList_some, List.cons_append, List.nil_append]
      repeat (go_big_quiet_step (exact grow_call (HM _)))
      refine wpQuiet_nil ?_
      intro wg hw'
      obtain ⟨⟨wz, hbg⟩, hw''⟩ := hw'
      subst hw''
      have S2 := S.out.below hbg
      have hml : (mixS [s0, s1, s2, s3, s4, s5, s6, s7] (blk xs k)).length = 8 := mixS_len _ rfl
      refine wpList_store_arr rfl 32 _ _ rfl g rfl (mixS [s0, s1, s2, s3, s4, s5, s6, s7] (blk xs k)) rfl _ 32 S2 (by rw [hml]; exact arrInfo8) (by rw [hml]; rfl) ?_
      clear d0 d1 d2 d3 d4 d5 d6 d7 HM
      have S3 := Lib.hid (S2.row (mixS [s0, s1, s2, s3, s4, s5, s6, s7] (blk xs k)))
      have K3 := Lib.hid ((K.out.below hbg).rowFar g ((mixS [s0, s1, s2, s3, s4, s5, s6, s7] (blk xs k)).map (Value.int .u32)).toArray (by omega))
      have B3 := Lib.hid (below_setRow (below_size B.out hbg) hgw ((mixS [s0, s1, s2, s3, s4, s5, s6, s7] (blk xs k)).map (Value.int .u32)).toArray)
      generalize World.setRow wg g ((mixS [s0, s1, s2, s3, s4, s5, s6, s7] (blk xs k)).map (Value.int .u32)).toArray = w6 at *
      clear S2 hml
      go_wp2_with fail
      go_roundw
      case rel => exact ⟨k + 1, by omega, by go_num, by rw [HNX.out]; exact S3, K3, B3⟩
      case measure => simp [intOf]; omega
    · have hkq : k = q := by omega
      have u0 : ¬ (64 * (k : Int)) < (64 * (q : Int)) := by omega
      go_upto_region 7 with (fail)
      rw [hkq] at S
      clear hlt u0 hk hkq
      have hs : ∀ w, (Instr.slice 22 (.slice b n cap) (some (.int .i64 (64 * (q : Int)))) none none).run Try.prog w = .ok (.slice (cutA b (64 * q) cap) (n - 64 * q) (cap - 64 * q)) w := fun w => by
        have := run_slice_lo (P := Try.prog) 22 5 Try.underlying22 sizeU8 b n cap (64 * q) .i64 (by omega) w
        simpa using this
      have hct := R.cut (64 * q) n (by omega) (Nat.le_refl _)
      rw [List.take_of_length_le (show (xs.drop (64 * q)).length ≤ n - 64 * q by rw [List.length_drop, HX.out]; exact Nat.le_refl _)] at hct
      go_upto_region 8 with (first
        | (go_at_call 18; refine (closing_any _ _ _ _ (xs.drop (64 * q)) _ hct (by omega) (by omega)).mono ?_; rintro e w5 ⟨at2, cap2, rfl, O2, B2⟩))
      clear hs hct R
      have O := Lib.hid O2
      have htl := closeS_len (xs.drop (64 * q)) n (by rw [List.length_drop, HX.out]; omega)
      have HTB : Hid (isB (closeS (xs.drop (64 * q)) n)) := Lib.hid (closeS_isB _ _ (HB.out.drop _))
      have HST : Hid ((mixN hSha xs q).length = 8 ∧ isWs (mixN hSha xs q)) := Lib.hid ⟨mixN_len xs rfl q, mixN_isWs xs hSha_isWs q⟩
      have HE : Hid (shaS xs = mixN (mixN hSha xs q) (closeS (xs.drop (64 * q)) n) ((closeS (xs.drop (64 * q)) n).length / 64)) := Lib.hid (by rw [← HQ.out]; exact shaS_parts xs n HX.out)
      generalize closeS (xs.drop (64 * q)) n = T at *
      generalize mixN hSha xs q = st0 at *
      obtain ⟨q2, hq2⟩ : ∃ q2, T.length = 64 * q2 ∧ q2 ≤ 2 := by
        split at htl
        · exact ⟨2, htl, by omega⟩
        · exact ⟨1, htl, by omega⟩
      have S5 := Lib.hid (S.out.below B2); have K5 := Lib.hid (K.out.below B2); have B5 := Lib.hid (below_size B.out B2)
      obtain ⟨hTl, hq22⟩ := hq2
      have hq21 : 0 < q2 := by split at htl <;> omega
      obtain ⟨gt, rfl, hgt⟩ := owns_addr O2 (by omega)
      have hgk := K.out.lt
      have R5 := Lib.hid (reads_of_owns O2)
      rw [hTl] at R5 ⊢
      have HTL := Lib.hid hTl
      have hcap2 := R5.out.le
      clear O2 O S K B htl hTl
      go_wp2_with fail
      go_loopw [8] (fun vi wr => ∃ k : Nat, k ≤ q2 ∧ vi = .int .i64 (64 * (k : Int)) ∧ Hid (ABox wr g 32 (mixN st0 T k)) ∧ Hid (ABox wr (g + 1) 34 kSha) ∧ Hid (Reads .u8 wr (some ⟨gt, 0, none⟩) (64 * q2) cap2 T) ∧ Hid (Below w.heap.size w wr)) (fun vi _ => 64 * q2 - (intOf vi).toNat)
      case atStart => exact ⟨0, Nat.zero_le _, rfl, S5, K5, R5, B5⟩
      case round =>
        obtain ⟨k, hk, rfl, S, K, R, B⟩ := hrel
        by_cases hlt : k < q2
        · have hlen := mixN_len T HST.out.1 k
          have hws := mixN_isWs T HST.out.2 k
          have HNX := Lib.hid (show mixN st0 T (k + 1) = mixS (mixN st0 T k) (blk T k) from rfl)
          generalize mixN st0 T k = st at *
          obtain ⟨s0, s1, s2, s3, s4, s5, s6, s7, rfl⟩ := list8 hlen
          have hcut := R.out.cut (64 * k) (64 * k + 64) (by omega) (by omega)
          have hc0 : ¬ cap2 = 64 * k := by omega
          rw [show cutA (some ⟨gt, 0, none⟩) (64 * k) cap2 = some ⟨gt, 64 * k, none⟩ by unfold cutA; rw [if_neg hc0, Option.map_some, Addr.add_lit, Nat.zero_add], show 64 * k + 64 - 64 * k = 64 by omega] at hcut
          have HM : ∀ x : GrownW wr, Calls Try.prog 17 #[.agg #[.int .u32 s0, .int .u32 s1, .int .u32 s2, .int .u32 s3, .int .u32 s4, .int .u32 s5, .int .u32 s6, .int .u32 s7], .pointer (some ⟨g + 1, 0, Option.none⟩), .slice (some ⟨gt, 64 * k, none⟩) 64 (cap2 - 64 * k)] x.val
              fun e w' => e = .returned (.agg ((mixS [s0, s1, s2, s3, s4, s5, s6, s7] (blk T k)).map (Value.int .u32)).toArray) ∧ Below x.val.heap.size x.val w' := fun x =>
            mix_any s0 s1 s2 s3 s4 s5 s6 s7 (g + 1) _ _ (blk T k) x.val hws (K.out.below x.2) (hcut.below x.2) (blk_isB HTB.out k)
          have d0 := fun x : GrownW wr => x.cell S.out.lt (S.out.cell 0 (by simp)); have d1 := fun x : GrownW wr => x.cell S.out.lt (S.out.cell 1 (by simp)); have d2 := fun x : GrownW wr => x.cell S.out.lt (S.out.cell 2 (by simp)); have d3 := fun x : GrownW wr => x.cell S.out.lt (S.out.cell 3 (by simp))
          have d4 := fun x : GrownW wr => x.cell S.out.lt (S.out.cell 4 (by simp)); have d5 := fun x : GrownW wr => x.cell S.out.lt (S.out.cell 5 (by simp)); have d6 := fun x : GrownW wr => x.cell S.out.lt (S.out.cell 6 (by simp)); have d7 := fun x : GrownW wr => x.cell S.out.lt (S.out.cell 7 (by simp))
          simp only [List.getD_cons_zero, List.getD_cons_succ] at d0 d1 d2 d3 d4 d5 d6 d7
          have u0 : (64 * (k : Int)) < (64 * (q2 : Int)) := by omega
          have u1 : IntKind.i64.wrap ((64 * (k : Int)) + 64) = (64 * (k : Int) + 64) := Go.IntWalk.i64_in _ (by omega)
          clear hlen hws hcut
          go_upto_region 11 with (fail)
          refine wp_region_any (by kernel_rfl) ?_
          change wpAny _ _ _ _ _ _ _ (World.drew _)
          refine wpAny_grow_tail [0, 1, 2, 3, 4, 5, 6] [7] (by kernel_rfl) ?_
          simp only [pickOps, List.getElem?_toArray, List.getElem?_cons_zero, List.getElem?_cons_succ, Option.toList_some, List.cons_append, List.nil_append]
          repeat (go_big_quiet_step (exact grow_call (HM _)))
          refine wpQuiet_nil ?_
          intro wg hw'
          obtain ⟨⟨wz, hbg⟩, hw''⟩ := hw'
          subst hw''
          have S2 := S.out.below hbg
          have hml : (mixS [s0, s1, s2, s3, s4, s5, s6, s7] (blk T k)).length = 8 := mixS_len _ rfl
          refine wpList_store_arr rfl 32 _ _ rfl g rfl (mixS [s0, s1, s2, s3, s4, s5, s6, s7] (blk T k)) rfl _ 32 S2 (by rw [hml]; exact arrInfo8) (by rw [hml]; rfl) ?_
          clear d0 d1 d2 d3 d4 d5 d6 d7 HM
          have S3 := Lib.hid (S2.row (mixS [s0, s1, s2, s3, s4, s5, s6, s7] (blk T k)))
          have K3 := Lib.hid ((K.out.below hbg).rowFar g ((mixS [s0, s1, s2, s3, s4, s5, s6, s7] (blk T k)).map (Value.int .u32)).toArray (by omega))
          have R3 := Lib.hid ((R.out.below hbg).rowFar g ((mixS [s0, s1, s2, s3, s4, s5, s6, s7] (blk T k)).map (Value.int .u32)).toArray (by omega))
          have B3 := Lib.hid (below_setRow (below_size B.out hbg) hgw ((mixS [s0, s1, s2, s3, s4, s5, s6, s7] (blk T k)).map (Value.int .u32)).toArray)
          generalize World.setRow wg g ((mixS [s0, s1, s2, s3, s4, s5, s6, s7] (blk T k)).map (Value.int .u32)).toArray = w6 at *
          clear S2 hml
          go_wp2_with fail
          go_roundw
          case rel => exact ⟨k + 1, by omega, by go_num, by rw [HNX.out]; exact S3, K3, R3, B3⟩
          case measure => simp [intOf]; omega
        · have hkq : k = q2 := by omega
          have u0 : ¬ (64 * (k : Int)) < (64 * (q2 : Int)) := by omega
          go_upto_region 12 with (fail)
          have HF : Hid (shaS xs = mixN st0 T q2) := Lib.hid (by rw [HE.out, HTL.out, show 64 * q2 / 64 = q2 by omega])
          have hlen := mixN_len T HST.out.1 q2
          have hws := mixN_isWs T HST.out.2 q2
          rw [hkq] at S
          clear hlt u0 hk hkq R K
          generalize mixN st0 T q2 = st at *
          have hmk := made0_32
          go_upto_region 13 with (fail)
          have own0 : (wr.alloc (.cells (madeCells #[Value.int .u8 0] 32) 5)).ownsRow w.heap.size 5 1 (.slice (some ⟨wr.heap.size, 0, none⟩) 0 32) 0 (([] : List Int).map (Value.int .u8)) :=
            owns_base (World.ownsRow_made (base := wr.heap.size) (e := 5) (size := 1) wr (madeCells #[Value.int .u8 0] 32) 32 (by omega) (by unfold maxLen; omega) (by rw [size_madeCells])) B.out.size
          have S7 := Lib.hid (S.out.below ((Below.refl _ _).alloc (Nat.le_refl _) (.cells (madeCells #[Value.int .u8 0] 32) 5)))
          have B7 := Lib.hid (B.out.alloc B.out.size (.cells (madeCells #[Value.int .u8 0] 32) 5))
          clear hmk S B
          generalize wr.alloc (.cells (madeCells #[Value.int .u8 0] 32) 5) = w7 at *
          obtain ⟨y0, y1, y2, y3, y4, y5, y6, y7, rfl⟩ := list8 hlen
          have c0 : w7.cell? ⟨g, 0, Option.none⟩ = some (.int .u32 y0) := S7.out.cell 0 (by simp)
          have c1 : w7.cell? ⟨g, 1, Option.none⟩ = some (.int .u32 y1) := S7.out.cell 1 (by simp)
          have c2 : w7.cell? ⟨g, 2, Option.none⟩ = some (.int .u32 y2) := S7.out.cell 2 (by simp)
          have c3 : w7.cell? ⟨g, 3, Option.none⟩ = some (.int .u32 y3) := S7.out.cell 3 (by simp)
          have c4 : w7.cell? ⟨g, 4, Option.none⟩ = some (.int .u32 y4) := S7.out.cell 4 (by simp)
          have c5 : w7.cell? ⟨g, 5, Option.none⟩ = some (.int .u32 y5) := S7.out.cell 5 (by simp)
          have c6 : w7.cell? ⟨g, 6, Option.none⟩ = some (.int .u32 y6) := S7.out.cell 6 (by simp)
          have c7 : w7.cell? ⟨g, 7, Option.none⟩ = some (.int .u32 y7) := S7.out.cell 7 (by simp)
          have hix : ∀ (i : Nat) (w : World), i < 8 → (Instr.index 32 (.agg #[.int .u32 y0, .int .u32 y1, .int .u32 y2, .int .u32 y3, .int .u32 y4, .int .u32 y5, .int .u32 y6, .int .u32 y7]) (.int .i64 (i : Int))).run Try.prog w = .ok (.int .u32 ([y0, y1, y2, y3, y4, y5, y6, y7].getD i 0)) w :=
            fun i w hi => run_index_words [y0, y1, y2, y3, y4, y5, y6, y7] i rfl hi w
          have HIX := Lib.hid hix
          clear hix
          go_wp2_with fail
          clear c0 c1 c2 c3 c4 c5 c6 c7
          generalize (Value.agg #[.int .u32 y0, .int .u32 y1, .int .u32 y2, .int .u32 y3, .int .u32 y4, .int .u32 y5, .int .u32 y6, .int .u32 y7]) = V at *
          have HW := Lib.hid hws
          generalize [y0, y1, y2, y3, y4, y5, y6, y7] = st at *
          clear hws S7
          obtain ⟨i0, hi, hz0, hz1, hz2⟩ := info_parts infoC
          have Hi := Lib.hid hi; have Hz0 := Lib.hid hz0; have Hz1 := Lib.hid hz1; have Hz2 := Lib.hid hz2
          clear hi hz0 hz1 hz2
          go_loopw [9, 51] (fun v9 vi wr => ∃ (i : Nat) (a : Option Addr) (c : Nat), i ≤ 8 ∧ vi = .int .i64 i ∧ v9 = .slice a (4 * i) c ∧ wr.ownsRow w.heap.size 5 1 (.slice a (4 * i) c) (4 * i) (((st.take i).flatMap bytes4).map (Value.int .u8)) ∧ Hid (Below w.heap.size w wr)) (fun _ vi _ => 8 - (intOf vi).toNat)
          case atStart => exact ⟨0, _, _, by omega, rfl, rfl, own0, B7⟩
          case round =>
            obtain ⟨i, a, c, hi, rfl, rfl, own, B⟩ := hrel
            clear own0 B7
            by_cases hlt : i < 8
            · have hx := HIX.out i
              simp only [hlt, forall_const] at hx
              have e0 := HW.out.get i (by rw [hlen]; exact hlt)
              have HNX := Lib.hid (show (st.take (i + 1)).flatMap bytes4 = (st.take i).flatMap bytes4 ++ bytes4 (st.getD i 0) by rw [take_getD st i (by rw [hlen]; exact hlt), flat4_snoc])
              generalize st.getD i 0 = x at *
              obtain ⟨x1, x2⟩ := e0
              have i9 : (i : Int) < 8 := by omega
              go_upto_region 16 with (fail)
              have hrl := reads_alloc (k := .u8) wr (bytes4 x) #[.int .u8 (x / 16777216), .int .u8 (x / 65536 % 256), .int .u8 (x / 256 % 256), .int .u8 (x % 256)] 5 (0, 0) rfl (by unfold maxLen; simp [bytes4]) 4 rfl
              have hbs := B.out.size
              go_wp2_with (at_builtin; go_loud (refine wpList_append_reads _ rfl _ _ 22 rfl w.heap.size 5 i0 (.int .u8 0) 1 Try.underlying22 Hi.out Hz0.out Hz1.out Hz2.out rfl .u8 a (4 * i) c ((st.take i).flatMap bytes4) rfl (World.ownsRow.alloc own _) _ 4 4 (bytes4 x) rfl hrl (by unfold maxLen; omega) (by omega) (by simp; omega) ?_))
              intro a2 c2 w9 ho2 hg2 hn2
              have hb2 : Below w.heap.size w w9 := below_grown (B.out.alloc B.out.size _) (World.ownsRow.alloc own _) hg2 (Nat.le_refl _) (by simp; omega)
              clear hg2 hn2 hx hrl
              rw [← List.map_append, ← HNX.out] at ho2
              clear own
              go_wp2_with fail
              go_roundw
              case rel => exact ⟨i + 1, a2, c2, by omega, by go_num, rfl, ho2, Lib.hid hb2⟩
              case measure => simp [intOf]; omega
            · have hi8 : i = 8 := by omega
              have hnl : ¬ (i : Int) < 8 := by omega
              rw [hi8, List.take_of_length_le (by omega)] at own
              go_wp2_with fail
              go_ret
              have he : shaB xs = st.flatMap bytes4 := by unfold shaB; rw [HF.out]
              have hl32 := shaB_len xs
              unfold RetS
              rw [hl32, he]
              exact ⟨a, c, rfl, own, B.out⟩
end Go.Proofs.Ytkfcjlegeccgjaa
