/-
  The reference's Log: an insertion.
-/
import Derived.Test.YtdjbmjkfpmchgaaDagRIs
namespace Go.Proofs.Ytdjbmjkfpmchgaa
open Go.RowKit Go.Maps

/-- One more, in its place: behind all that are no older. -/
theorem falls_insert (ns : List Nd) {out : List ByteArray} (h : out.Pairwise (newer ns)) {x : ByteArray} (hx : ∀ y ∈ out, ltB y x = true) {k : Nat} (hk : k ≤ out.length) (h1 : 0 < k → stOf ns x ≤ stOf ns (out.getD (k - 1) ByteArray.empty)) (h2 : ∀ j, k ≤ j → j < out.length → stOf ns (out.getD j ByteArray.empty) < stOf ns x) :
    (out.take k ++ [x] ++ out.drop k).Pairwise (newer ns) := by
  have hlo : ∀ y ∈ out.take k, newer ns y x := fun y hy => by
    obtain ⟨j, hj, hjl, rfl⟩ := mem_take_getD hy
    have hm : out.getD j ByteArray.empty ∈ out := getDS_mem hjl
    have hst : stOf ns x ≤ stOf ns (out.getD j ByteArray.empty) := by
      by_cases e : j = k - 1
      · rw [e]; exact h1 (by omega)
      · have hp := List.pairwise_iff_getElem.1 h j (k - 1) hjl (by omega) (by omega)
        have e1 : out[j] = out.getD j ByteArray.empty := by simp [List.getD, hjl]
        have e2 : out[k - 1]'(by omega) = out.getD (k - 1) ByteArray.empty := by simp [List.getD, show k - 1 < out.length by omega]
        rw [e1, e2] at hp
        have := h1 (by omega)
        unfold newer at hp
        omega
    unfold newer
    have := hx _ hm
    by_cases e : stOf ns x < stOf ns (out.getD j ByteArray.empty)
    · exact .inl e
    · exact .inr ⟨by omega, this⟩
  have hhi : ∀ y ∈ out.drop k, newer ns x y := fun y hy => by
    obtain ⟨j, hj, hjl, rfl⟩ := mem_drop_getD hy
    exact .inl (h2 j hj hjl)
  rw [List.append_assoc, List.pairwise_append]
  refine ⟨List.Pairwise.sublist (List.take_sublist _ _) h, ?_, fun a ha b hb => ?_⟩
  · rw [List.singleton_append, List.pairwise_cons]
    exact ⟨hhi, List.Pairwise.sublist (List.drop_sublist _ _) h⟩
  · rcases List.mem_append.1 hb with hb | hb
    · rw [List.mem_singleton] at hb; rw [hb]; exact hlo a ha
    · exact newer_trans (hlo a ha) (hhi b hb)

set_option maxRecDepth 100000 in
set_option maxHeartbeats 4000000 in
theorem rlog_any (h n cap : Nat) (ad : Option Addr) (ns : List Nd) (key : ByteArray) (w : World) (hg : RG w h ad n cap ns) (G : Good ns) (hP : ∀ x, (psOf ns x).length ≤ 1048576) :
    Calls Try.prog 22 #[gp h, .string key] w fun e w' => ∃ l, IsLog ns key l ∧ RetT w l e w' := by
  obtain ⟨i0, hi, hz0, hz1, hz2⟩ := info_parts infoStr
  have Hi := Lib.hid hi; have Hz0 := Lib.hid hz0; have Hz1 := Lib.hid hz1; have Hz2 := Lib.hid hz2
  have GR := Lib.hid hg; have GD := Lib.hid G; have HP := Lib.hid hP
  clear hi hz0 hz1 hz2 hg G hP
  go_enter Try.func22, Try.ntmps22
  go_wp2_with fail
  refine (ranc_any h n cap ad ns key _ GR.out GD.out HP.out).mono ?_; rintro e w1 ⟨l, hl, al, cl, rfl, ol, bl⟩
  have HR := Lib.hid (readsA_of_owns (f := Value.string) ByteArray.empty ol)
  have HL := Lib.hid hl
  have h500 : l.length ≤ 500 := by have := hl.le GD.out; have := GD.out.few; omega
  replace GR := Lib.hid (GR.out.below bl)
  have BW := Lib.hid bl
  clear hl ol bl
  have h63 := HR.out.n63
  go_wp2_with fail
  go_loopw [6, 7] (fun vo vi wr => ∃ (i : Nat) (out : List ByteArray) (a : Option Addr) (cp : Nat), vo = .slice a out.length cp ∧ vi = .int .i64 i ∧ i ≤ l.length ∧ out.length ≤ i ∧ Hid (wr.ownsRow w1.heap.size 9 1 (.slice a out.length cp) out.length (out.map Value.string)) ∧ Hid (out.Pairwise (newer ns)) ∧ Hid (∀ x, x ∈ out ↔ x ∈ l.take i) ∧ Hid (Below w1.heap.size w1 wr)) (fun _ vi _ => l.length - (intOf vi).toNat)
  case atStart => exact ⟨0, [], Option.none, 0, rfl, rfl, Nat.zero_le _, Nat.zero_le _, Lib.hid ⟨rfl, .inl ⟨rfl, rfl⟩⟩, Lib.hid List.Pairwise.nil, Lib.hid (fun x => by simp), Lib.hid (Below.refl _ _)⟩
  case round =>
    obtain ⟨i, out, a, cp, rfl, rfl, hi, hlo, OO, RI, ME, BB⟩ := hrel
    generalize wr = w2 at *
    by_cases hlt : i < l.length
    · have i1 : (i : Int) < l.length := by omega
      have i2 : (0 : Int) ≤ i := by omega
      obtain ⟨b0, off, rfl, hb0w, _⟩ := HR.out.cellAt i hlt
      have htk : l.take (i + 1) = l.take i ++ [l.getD i ByteArray.empty] := take_getDA ByteArray.empty l i hlt
      have HTK := Lib.hid htk
      obtain ⟨x, hx⟩ : ∃ x, x = l.getD i ByteArray.empty := ⟨_, rfl⟩
      have HX := Lib.hid hx
      rw [← hx] at HTK
      have hxk : x ∈ keysOf ns := by
        have hm := (HL.out.mem x).1 (by rw [hx]; exact getDS_mem hlt)
        exact hm.2.there GD.out hm.1
      have LTX : Hid (∀ y ∈ out, ltB y x = true) := Lib.hid (fun y hy => by
        obtain ⟨j, hj, hjl, rfl⟩ := mem_take_getD ((ME.out y).1 hy)
        rw [HX.out]
        exact rises_at HL.out.rises hj hlt)
      have HXK := Lib.hid hxk
      have hlo' : out.length ≤ 500 := by omega
      clear hx htk hxk
      generalize hsx : stOf ns x = sx at *
      have SX := Lib.hid hsx
      clear hsx
      go_wp2_with fail
      go_loopw [8] (fun vk wr2 => ∃ (k : Nat), k ≤ out.length ∧ vk = .int .i64 k ∧ Hid (∀ j, k ≤ j → j < out.length → stOf ns (out.getD j ByteArray.empty) < sx) ∧ Hid (Below w2.heap.size w2 wr2)) (fun vk _ => (intOf vk).toNat)
      case atStart => exact ⟨out.length, Nat.le_refl _, rfl, Lib.hid (fun j h1 h2 => absurd h1 (by omega)), Lib.hid (Below.refl _ _)⟩
      case round =>
        obtain ⟨k, hk, rfl, HJ, B3⟩ := hrel
        generalize wr = w3 at *
        have OO3 := Lib.hid (owns_below OO.out B3.out)
        have BB3 := Lib.hid (below_size BB.out B3.out)
        have G3 := Lib.hid (GR.out.below BB3.out)
        have RO := Lib.hid (readsA_of_owns (f := Value.string) ByteArray.empty OO3.out)
        obtain ⟨_, _, e0, hb0, c0⟩ := (HR.out.below BB3.out).cellAt i hlt
        obtain ⟨rfl, rfl⟩ : b0 = _ ∧ off = _ := by simpa using e0
        rw [← HX.out] at c0
        clear e0
        obtain ⟨zx, hzx, hzxe, hcx⟩ := at_in2 h n cap ad ns x HXK.out
        by_cases hk0 : 0 < k
        · obtain ⟨m, rfl⟩ : ∃ m, k = m + 1 := ⟨k - 1, by omega⟩
          have k1 : (0 : Int) < (m : Int) + 1 := by omega
          have k2 : (m : Int) < out.length := by omega
          have k3 : (0 : Int) ≤ (m : Int) := by omega
          obtain ⟨b1, off1, rfl, hb1, d0⟩ := RO.out.cellAt m (by omega)
          obtain ⟨y, hy⟩ : ∃ y, y = out.getD m ByteArray.empty := ⟨_, rfl⟩
          have HY := Lib.hid hy
          rw [← hy] at d0
          have hyk : y ∈ keysOf ns := by
            have hm := (HL.out.mem y).1 (List.mem_of_mem_take ((ME.out y).1 (by rw [hy]; exact getDS_mem (by omega))))
            exact hm.2.there GD.out hm.1
          obtain ⟨zy, hzy, hzye, hcy⟩ := at_in2 h n cap ad ns y hyk
          obtain ⟨bn, offn, rfl, hbn, hcs⟩ := G3.out.nd.cells (by have := G3.out.nd.len; omega)
          have hnl := G3.out.nd.len
          obtain ⟨_, _, _, _, x2, _⟩ := hcs zx (by omega)
          obtain ⟨_, _, _, _, y2, _⟩ := hcs zy (by omega)
          have hx3 : (ns.getD zx default).st = sx := by rw [hzxe, ← SX.out]; rfl
          have hy3 : (ns.getD zy default).st = stOf ns y := by rw [hzye]; rfl
          rw [hx3] at x2; rw [hy3] at y2
          generalize hsy : stOf ns y = sy at *
          have SY := Lib.hid hsy
          have zx1 : (zx : Int) < n := by omega
          have zx0 : (0 : Int) ≤ zx := by omega
          have zy1 : (zy : Int) < n := by omega
          have zy0 : (0 : Int) ≤ zy := by omega
          have hIx := fun v : GrownW w3 => hcx v.val (G3.out.below v.below)
          have hIy := fun v : GrownW w3 => hcy v.val (G3.out.below v.below)
          have gc := G3.out.cell
          have hgl := G3.out.lt
          clear hcs hx3 hy3 hsy hzx hzxe hcx hzy hzye hcy hyk hy hnl
          go_upto_region 7 with (fail)
          have f1 := fun v : GrownW w3 => v.cell hgl gc
          have f2 := fun v : GrownW w3 => v.cell hb1 d0
          have f3 := fun v : GrownW w3 => v.cell hb0 c0
          have f4 := fun v : GrownW w3 => v.cell hbn x2
          have f5 := fun v : GrownW w3 => v.cell hbn y2
          clear gc hgl d0 x2 y2
          by_cases hlt2 : sy < sx
          · skip
            refine wp_region_grow_fast (by kernel_rfl) (by kernel_rfl) ?_
            repeat (go_big_quiet_step (first | (go_at_call 29; first | with_reducible exact grow_call_same (hIx _) | with_reducible exact grow_call_same (hIy _))))
            refine wpQuiet_nil ?_
            intro wg hw'
            obtain ⟨⟨wz, hbg⟩, hw''⟩ := hw'
            subst hw''
            clear f1 f2 f3 f4 f5 hIx hIy
            have HJ2 : Hid (∀ j, m ≤ j → j < out.length → stOf ns (out.getD j ByteArray.empty) < sx) := Lib.hid (fun j h1 h2 => by
              by_cases e : j = m
              · subst e; rw [← HY.out, SY.out]; exact hlt2
              · exact HJ.out j (by omega) h2)
            go_wp2_with fail
            go_roundw
            case rel => exact ⟨m, by omega, by go_num, HJ2, Lib.hid (below_size B3.out hbg)⟩
            case measure => simp [intOf] <;> omega
          · skip
            refine wp_region_grow_fast (by kernel_rfl) (by kernel_rfl) ?_
            repeat (go_big_quiet_step (first | (go_at_call 29; first | with_reducible exact grow_call_same (hIx _) | with_reducible exact grow_call_same (hIy _))))
            refine wpQuiet_nil ?_
            intro wg hw'
            obtain ⟨⟨wz, hbg⟩, hw''⟩ := hw'
            subst hw''
            clear f1 f2 f3 f4 f5 hIx hIy
            have H1 : Hid (0 < m + 1 → sx ≤ stOf ns (out.getD (m + 1 - 1) ByteArray.empty)) := Lib.hid (fun _ => by rw [Nat.add_sub_cancel, ← HY.out, SY.out]; omega)
            clear hlt2
            go_wp2_with fail
            generalize (some (⟨b1, off1, Option.none⟩ : Addr)) = a at *
            replace OO := Lib.hid (owns_below OO3.out hbg)
            replace RO := Lib.hid (RO.out.below hbg)
            replace BB := Lib.hid (below_size BB3.out hbg)
            have C0 := Lib.hid ((hbg.cell (p := ⟨b0, off + i, Option.none⟩) hb0).trans c0)
            have hbz := hbg.size
            clear OO3 BB3 G3 c0
            generalize wg = W2 at *
            have hKl : (m + 1) ≤ out.length := by omega
            have OT := Lib.hid (owns_take OO.out (m + 1) hKl (fun e => by have := RO.out.nil e; omega))
            have RC := Lib.hid (RO.out.cut (m + 1) hKl)
            have hs1 : ∀ z : World, (Instr.slice 35 (.slice a out.length cp) Option.none (some (.int .i64 ((m : Int) + 1))) Option.none).run Try.prog z = .ok (.slice a (m + 1) cp) z := fun z => by
              have := run_slice_hi (P := Try.prog) 35 9 Try.underlying35 (by kernel_rfl) a out.length cp (m + 1) .i64 (by have := RO.out.le; omega) z
              rw [cutA_zero] at this
              exact this
            have hs2 : ∀ z : World, (Instr.slice 35 (.slice a out.length cp) (some (.int .i64 ((m : Int) + 1))) Option.none Option.none).run Try.prog z = .ok (.slice (cutA a (m + 1) cp) (out.length - (m + 1)) (cp - (m + 1))) z := fun z =>
              run_slice_lo (P := Try.prog) 35 9 Try.underlying35 (by kernel_rfl) a out.length cp (m + 1) .i64 hKl z
            have RI2 := Lib.hid (falls_insert ns RI.out LTX.out hKl (by rw [SX.out]; exact H1.out) (by rw [SX.out]; exact HJ.out))
            have ME2 : Hid (∀ y, y ∈ out.take (m + 1) ++ [x] ++ out.drop (m + 1) ↔ y ∈ l.take (i + 1)) := Lib.hid (fun y => by
              rw [HTK.out, List.mem_append, List.mem_append, List.mem_append, List.mem_singleton, ← ME.out y]
              conv => rhs; rw [← List.take_append_drop (m + 1) out, List.mem_append]
              constructor
              · rintro ((h | h) | h)
                · exact .inl (.inl h)
                · exact .inr h
                · exact .inl (.inr h)
              · rintro ((h | h) | h)
                · exact .inl (.inl h)
                · exact .inr h
                · exact .inl (.inr h))
            have hlen2 : (out.take (m + 1) ++ [x] ++ out.drop (m + 1)).length = (m + 1) + (1 + (out.length - (m + 1))) := by simp; omega
            have HL2 := Lib.hid hlen2
            clear hlen2
            generalize hcu : cutA a (m + 1) cp = ac at *
            have hnd : (m + 1) + (out.length - (m + 1)) ≤ 1000000 := by omega
            have hnd2 : (m + 1) + (out.length - (m + 1)) = out.length := by omega
            generalize out.length - (m + 1) = nd at *
            generalize hcd : cp - (m + 1) = cd at *
            have hbl := BB.out.size
            have kp0 : W2.drew.cell? ⟨b0, off + i, Option.none⟩ = some (.string x) := C0.out
            have OT0 : W2.drew.ownsRow w1.heap.size 9 1 (.slice a (m + 1) cp) (m + 1) ((out.take (m + 1)).map Value.string) := by rw [List.map_take]; exact OT.out
            have RC0 : Strs W2.drew ac nd cd (out.drop (m + 1)) := RC.out.drew
            have hgne : (Value.slice a (m + 1) cp).ownBlock ≠ some W2.heap.size := by
              rcases OT0.2 with ⟨e, _⟩ | ⟨g, c, cur, e, _, hg, _⟩
              · rw [e]; simp [Value.ownBlock]
              · rw [e]
                have hlt' : g < W2.heap.size := (Array.getElem?_eq_some_iff.1 hg).1
                simp [Value.ownBlock]; omega
            have HG := Lib.hid hgne
            have HGB : Hid (some b0 ≠ (Value.slice a (m + 1) cp).ownBlock) := Lib.hid (by
              rcases OT0.2 with ⟨e, _⟩ | ⟨g, c, cur, e, hbg, hg, _⟩
              · rw [e]; simp [Value.ownBlock]
              · rw [e]; simp only [Value.ownBlock]; intro h; injection h with h; omega)
            clear hgne
            have hb0' : b0 < W2.heap.size := Nat.lt_of_lt_of_le hb0 hbz
            have Keep : Hid (∀ z : World, Below W2.heap.size W2.drew z → z.cell? ⟨b0, off + i, Option.none⟩ = some (.string x)) := Lib.hid (fun z hz => (hz.cell (p := ⟨b0, off + i, Option.none⟩) hb0').trans kp0)
            have hal := ((Below.refl W2.heap.size W2).alloc (Nat.le_refl _) (.cells #[.string x] 9)).drew
            have kp1 : ((W2.alloc (.cells #[.string x] 9)).drew).cell? ⟨b0, off + i, Option.none⟩ = some (.string x) := (hal.cell (p := ⟨b0, off + i, Option.none⟩) hb0').trans kp0
            have O1 : Hid (((W2.alloc (.cells #[.string x] 9)).drew).ownsRow w1.heap.size 9 1 (.slice (some ⟨W2.heap.size, 0, Option.none⟩) 1 1) 1 ([x].map Value.string)) := Lib.hid (own_one W2 w1.heap.size hbl x)
            have R1 := Lib.hid (RC.out.below hal)
            have OT1 := Lib.hid (owns_below (ws := (out.take (m + 1)).map Value.string) (w := W2) OT0 hal)
            have hsz1 : ((W2.alloc (.cells #[.string x] 9)).drew).heap.size = W2.heap.size + 1 := by show (W2.alloc _).heap.size = _; simp
            have BB1 := Lib.hid ((BB.out.alloc hbl (.cells #[.string x] 9)).drew)
            clear hal
            go_wp2_with fail
            go_region_held3 (fun z => z.cell? ⟨b0, off + i, Option.none⟩ = some (.string x))
              (first | with_reducible exact kp0 | with_reducible exact kp1 | with_reducible exact kp2 | with_reducible exact kp3)
              (first
              | (refine step_append_readsA (f := Value.string) (d := ByteArray.empty) str_one rfl _ _ 35 rfl w1.heap.size 9 i0 (.string ByteArray.empty) 16 Try.underlying35 Hi.out Hz0.out Hz1.out Hz2.out rfl (some ⟨W2.heap.size, 0, Option.none⟩) 1 1 [x] rfl O1.out ac nd cd (out.drop (m + 1)) rfl R1.out (by unfold maxLen; omega) (by omega) (by rw [hsz1]; omega) ?_; intro a5 cp5 w5 ho5 hg5; have kp2 : w5.cell? ⟨b0, off + i, Option.none⟩ = some (.string x) := (hg5.cell kp1 (by simp [Value.ownBlock]; omega)); have OT5 := OT1.out.kept hg5 (.inr HG.out); have BB5 := BB1.out.grown hg5 (by rw [hsz1]; omega) (fun q hq => by simp [Value.ownBlock] at hq; omega); have hsz5 := hg5.size; have R5 := readsA_of_owns (f := Value.string) ByteArray.empty ho5)
              | (refine step_append_readsA (f := Value.string) (d := ByteArray.empty) str_one rfl _ _ 35 rfl w1.heap.size 9 i0 (.string ByteArray.empty) 16 Try.underlying35 Hi.out Hz0.out Hz1.out Hz2.out rfl a (m + 1) cp (out.take (m + 1)) rfl OT5 a5 (1 + nd) cp5 ([x] ++ out.drop (m + 1)) rfl R5 (by unfold maxLen; omega) (by omega) (by rw [hsz1] at hsz5; omega) ?_; intro a6 cp6 w6 ho6 hg6; have kp3 : w6.cell? ⟨b0, off + i, Option.none⟩ = some (.string x) := (hg6.cell kp2 HGB.out)))
            have BB6 := Lib.hid (below_grown BB5 OT5 hg6 (Nat.le_refl _) (by rw [hsz1] at hsz5; omega))
            rw [← List.append_assoc] at ho6
            have O6 : Hid (w6.ownsRow w1.heap.size 9 1 (.slice a6 (out.take (m + 1) ++ [x] ++ out.drop (m + 1)).length cp6) (out.take (m + 1) ++ [x] ++ out.drop (m + 1)).length ((out.take (m + 1) ++ [x] ++ out.drop (m + 1)).map Value.string)) := Lib.hid (by rw [HL2.out]; exact ho6)
            have hlen3 : (out.take (m + 1) ++ [x] ++ out.drop (m + 1)).length ≤ i + 1 := by rw [HL2.out]; omega
            try rw [← HL2.out]
            generalize out.take (m + 1) ++ [x] ++ out.drop (m + 1) = out2 at *
            clear ho6 hg6 BB5 OT5 R5 hg5 ho5 kp0 kp1 kp2 kp3 hs1 hs2 OT0 RC0
            go_wp2_with fail
            go_roundw
            case rel => exact ⟨i + 1, out2, a6, cp6, (by first | rfl | rw [HL2.out, Nat.zero_add]), by go_num, by omega, hlen3, O6, RI2, ME2, BB6⟩
            case measure => (simp [intOf] <;> omega)
        · obtain rfl : k = 0 := by omega
          have k1 : ¬ (0 : Int) < 0 := by omega
          go_upto_region 7 with (fail)
          skip
          refine wp_region_grow_fast (by kernel_rfl) (by kernel_rfl) ?_
          repeat (go_big_quiet_step (first | fail))
          refine wpQuiet_nil ?_
          intro wg hw'
          obtain ⟨⟨wz, hbg⟩, hw''⟩ := hw'
          subst hw''
          have H1 : Hid (0 < 0 → sx ≤ stOf ns (out.getD (0 - 1) ByteArray.empty)) := Lib.hid (fun h => absurd h (by omega))
          clear hcx hzxe
          go_wp2_with fail
          replace OO := Lib.hid (owns_below OO3.out hbg)
          replace RO := Lib.hid (RO.out.below hbg)
          replace BB := Lib.hid (below_size BB3.out hbg)
          have C0 := Lib.hid ((hbg.cell (p := ⟨b0, off + i, Option.none⟩) hb0).trans c0)
          have hbz := hbg.size
          clear OO3 BB3 G3 c0
          generalize wg = W2 at *
          have hKl : 0 ≤ out.length := by omega
          have OT := Lib.hid (owns_take OO.out 0 hKl (fun e => by have := RO.out.nil e; omega))
          have RC := Lib.hid (RO.out.cut 0 hKl)
          have hs1 : ∀ z : World, (Instr.slice 35 (.slice a out.length cp) Option.none (some (.int .i64 (0))) Option.none).run Try.prog z = .ok (.slice a 0 cp) z := fun z => by
            have := run_slice_hi (P := Try.prog) 35 9 Try.underlying35 (by kernel_rfl) a out.length cp 0 .i64 (by have := RO.out.le; omega) z
            rw [cutA_zero] at this
            exact this
          have hs2 : ∀ z : World, (Instr.slice 35 (.slice a out.length cp) (some (.int .i64 (0))) Option.none Option.none).run Try.prog z = .ok (.slice (cutA a 0 cp) (out.length - 0) (cp - 0)) z := fun z =>
            run_slice_lo (P := Try.prog) 35 9 Try.underlying35 (by kernel_rfl) a out.length cp 0 .i64 hKl z
          have RI2 := Lib.hid (falls_insert ns RI.out LTX.out hKl (by rw [SX.out]; exact H1.out) (by rw [SX.out]; exact HJ.out))
          have ME2 : Hid (∀ y, y ∈ out.take 0 ++ [x] ++ out.drop 0 ↔ y ∈ l.take (i + 1)) := Lib.hid (fun y => by
            rw [HTK.out, List.mem_append, List.mem_append, List.mem_append, List.mem_singleton, ← ME.out y]
            conv => rhs; rw [← List.take_append_drop 0 out, List.mem_append]
            constructor
            · rintro ((h | h) | h)
              · exact .inl (.inl h)
              · exact .inr h
              · exact .inl (.inr h)
            · rintro ((h | h) | h)
              · exact .inl (.inl h)
              · exact .inr h
              · exact .inl (.inr h))
          have hlen2 : (out.take 0 ++ [x] ++ out.drop 0).length = 0 + (1 + (out.length - 0)) := by simp; omega
          have HL2 := Lib.hid hlen2
          clear hlen2
          generalize hcu : cutA a 0 cp = ac at *
          have hnd : 0 + (out.length - 0) ≤ 1000000 := by omega
          have hnd2 : 0 + (out.length - 0) = out.length := by omega
          generalize out.length - 0 = nd at *
          generalize hcd : cp - 0 = cd at *
          have hbl := BB.out.size
          have kp0 : W2.drew.cell? ⟨b0, off + i, Option.none⟩ = some (.string x) := C0.out
          have OT0 : W2.drew.ownsRow w1.heap.size 9 1 (.slice a 0 cp) 0 ((out.take 0).map Value.string) := by rw [List.map_take]; exact OT.out
          have RC0 : Strs W2.drew ac nd cd (out.drop 0) := RC.out.drew
          have hgne : (Value.slice a 0 cp).ownBlock ≠ some W2.heap.size := by
            rcases OT0.2 with ⟨e, _⟩ | ⟨g, c, cur, e, _, hg, _⟩
            · rw [e]; simp [Value.ownBlock]
            · rw [e]
              have hlt' : g < W2.heap.size := (Array.getElem?_eq_some_iff.1 hg).1
              simp [Value.ownBlock]; omega
          have HG := Lib.hid hgne
          have HGB : Hid (some b0 ≠ (Value.slice a 0 cp).ownBlock) := Lib.hid (by
            rcases OT0.2 with ⟨e, _⟩ | ⟨g, c, cur, e, hbg, hg, _⟩
            · rw [e]; simp [Value.ownBlock]
            · rw [e]; simp only [Value.ownBlock]; intro h; injection h with h; omega)
          clear hgne
          have hb0' : b0 < W2.heap.size := Nat.lt_of_lt_of_le hb0 hbz
          have Keep : Hid (∀ z : World, Below W2.heap.size W2.drew z → z.cell? ⟨b0, off + i, Option.none⟩ = some (.string x)) := Lib.hid (fun z hz => (hz.cell (p := ⟨b0, off + i, Option.none⟩) hb0').trans kp0)
          have hal := ((Below.refl W2.heap.size W2).alloc (Nat.le_refl _) (.cells #[.string x] 9)).drew
          have kp1 : ((W2.alloc (.cells #[.string x] 9)).drew).cell? ⟨b0, off + i, Option.none⟩ = some (.string x) := (hal.cell (p := ⟨b0, off + i, Option.none⟩) hb0').trans kp0
          have O1 : Hid (((W2.alloc (.cells #[.string x] 9)).drew).ownsRow w1.heap.size 9 1 (.slice (some ⟨W2.heap.size, 0, Option.none⟩) 1 1) 1 ([x].map Value.string)) := Lib.hid (own_one W2 w1.heap.size hbl x)
          have R1 := Lib.hid (RC.out.below hal)
          have OT1 := Lib.hid (owns_below (ws := (out.take 0).map Value.string) (w := W2) OT0 hal)
          have hsz1 : ((W2.alloc (.cells #[.string x] 9)).drew).heap.size = W2.heap.size + 1 := by show (W2.alloc _).heap.size = _; simp
          have BB1 := Lib.hid ((BB.out.alloc hbl (.cells #[.string x] 9)).drew)
          clear hal
          go_wp2_with fail
          go_region_held3 (fun z => z.cell? ⟨b0, off + i, Option.none⟩ = some (.string x))
            (first | with_reducible exact kp0 | with_reducible exact kp1 | with_reducible exact kp2 | with_reducible exact kp3)
            (first
            | (refine step_append_readsA (f := Value.string) (d := ByteArray.empty) str_one rfl _ _ 35 rfl w1.heap.size 9 i0 (.string ByteArray.empty) 16 Try.underlying35 Hi.out Hz0.out Hz1.out Hz2.out rfl (some ⟨W2.heap.size, 0, Option.none⟩) 1 1 [x] rfl O1.out ac nd cd (out.drop 0) rfl R1.out (by unfold maxLen; omega) (by omega) (by rw [hsz1]; omega) ?_; intro a5 cp5 w5 ho5 hg5; have kp2 : w5.cell? ⟨b0, off + i, Option.none⟩ = some (.string x) := (hg5.cell kp1 (by simp [Value.ownBlock]; omega)); have OT5 := OT1.out.kept hg5 (.inr HG.out); have BB5 := BB1.out.grown hg5 (by rw [hsz1]; omega) (fun q hq => by simp [Value.ownBlock] at hq; omega); have hsz5 := hg5.size; have R5 := readsA_of_owns (f := Value.string) ByteArray.empty ho5)
            | (refine step_append_readsA (f := Value.string) (d := ByteArray.empty) str_one rfl _ _ 35 rfl w1.heap.size 9 i0 (.string ByteArray.empty) 16 Try.underlying35 Hi.out Hz0.out Hz1.out Hz2.out rfl a 0 cp (out.take 0) rfl OT5 a5 (1 + nd) cp5 ([x] ++ out.drop 0) rfl R5 (by unfold maxLen; omega) (by omega) (by rw [hsz1] at hsz5; omega) ?_; intro a6 cp6 w6 ho6 hg6; have kp3 : w6.cell? ⟨b0, off + i, Option.none⟩ = some (.string x) := (hg6.cell kp2 HGB.out)))
          have BB6 := Lib.hid (below_grown BB5 OT5 hg6 (Nat.le_refl _) (by rw [hsz1] at hsz5; omega))
          rw [← List.append_assoc] at ho6
          have O6 : Hid (w6.ownsRow w1.heap.size 9 1 (.slice a6 (out.take 0 ++ [x] ++ out.drop 0).length cp6) (out.take 0 ++ [x] ++ out.drop 0).length ((out.take 0 ++ [x] ++ out.drop 0).map Value.string)) := Lib.hid (by rw [HL2.out]; exact ho6)
          have hlen3 : (out.take 0 ++ [x] ++ out.drop 0).length ≤ i + 1 := by rw [HL2.out]; omega
          try rw [← HL2.out]
          generalize out.take 0 ++ [x] ++ out.drop 0 = out2 at *
          clear ho6 hg6 BB5 OT5 R5 hg5 ho5 kp0 kp1 kp2 kp3 hs1 hs2 OT0 RC0
          go_wp2_with fail
          go_roundw
          case rel => exact ⟨i + 1, out2, a6, cp6, (by first | rfl | rw [HL2.out, Nat.zero_add]), by go_num, by omega, hlen3, O6, RI2, ME2, BB6⟩
          case measure => (simp [intOf] <;> omega)
    · obtain rfl : i = l.length := by omega
      have et : l.take l.length = l := List.take_length
      rw [et] at ME
      have BX := Lib.hid (below_size BW.out BB.out)
      have OX := Lib.hid (owns_base OO.out BW.out.size)
      go_wp2_with fail
      go_ret
      exact ⟨out, ⟨RI.out, fun x => by rw [ME.out]; exact HL.out.mem x⟩, a, cp, rfl, OX.out, BX.out⟩
end Go.Proofs.Ytdjbmjkfpmchgaa
