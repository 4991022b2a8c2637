/-
  The reference's Unique: rising, each once.
-/
import Derived.Test.YtdjbmjkfpmchgaaDagFirst
import Derived.Deep.RegionHeld3
namespace Go.Proofs.Ytdjbmjkfpmchgaa
open Go.RowKit Go.Maps

theorem getD_take_lt {l : List ByteArray} {k j : Nat} (h : j < k) : (l.take k).getD j ByteArray.empty = l.getD j ByteArray.empty := by
  simp [List.getD, h]
theorem mem_take_getD {l : List ByteArray} {k : Nat} {x : ByteArray} (h : x ∈ l.take k) : ∃ j, j < k ∧ j < l.length ∧ l.getD j ByteArray.empty = x := by
  obtain ⟨j, hj, e⟩ := mem_getDS h
  rw [List.length_take] at hj
  rw [getD_take_lt (by omega)] at e
  exact ⟨j, by omega, by omega, e⟩
theorem mem_drop_getD {l : List ByteArray} {k : Nat} {x : ByteArray} (h : x ∈ l.drop k) : ∃ j, k ≤ j ∧ j < l.length ∧ l.getD j ByteArray.empty = x := by
  obtain ⟨j, hj, e⟩ := mem_getDS h
  rw [List.length_drop] at hj
  refine ⟨k + j, by omega, by omega, ?_⟩
  rw [← e]
  simp [List.getD, List.getElem?_drop]
/-- A text more, in its place. -/
theorem rises_insert {l : List ByteArray} (h : Rises l) {k : Nat} (hk : k ≤ l.length) {x : ByteArray} (h1 : 0 < k → ltB (l.getD (k - 1) ByteArray.empty) x = true) (h2 : ∀ j, k ≤ j → j < l.length → ltB (l.getD j ByteArray.empty) x = false) (h3 : k < l.length → l.getD k ByteArray.empty ≠ x) :
    Rises (l.take k ++ [x] ++ l.drop k) := by
  have hlo : ∀ y ∈ l.take k, ltB y x = true := fun y hy => by
    obtain ⟨j, hj, hjl, rfl⟩ := mem_take_getD hy
    by_cases e : j = k - 1
    · rw [e]; exact h1 (by omega)
    · exact ltB_trans (rises_at h (show j < k - 1 by omega) (by omega)) (h1 (by omega))
  have hhi : ∀ y ∈ l.drop k, ltB x y = true := fun y hy => by
    obtain ⟨j, hj, hjl, rfl⟩ := mem_drop_getD hy
    have hkk : ltB x (l.getD k ByteArray.empty) = true := by
      cases h4 : ltB x (l.getD k ByteArray.empty)
      · exact absurd (ltB_tri (h2 k (Nat.le_refl _) (by omega)) h4) (h3 (by omega))
      · rfl
    by_cases e : j = k
    · rw [e]; exact hkk
    · exact ltB_trans hkk (rises_at h (show k < j by omega) hjl)
  unfold Rises at *
  rw [List.append_assoc, List.pairwise_append]
  refine ⟨List.Pairwise.sublist (List.take_sublist _ _) h, ?_, fun a ha b hb => ?_⟩
  · rw [List.singleton_append, List.pairwise_cons]
    exact ⟨hhi, List.Pairwise.sublist (List.drop_sublist _ _) h⟩
  · rcases List.mem_append.1 hb with hb | hb
    · rw [List.mem_singleton] at hb; rw [hb]; exact hlo a ha
    · exact ltB_trans (hlo a ha) (hhi b hb)
theorem owns_take {w : World} {base T : Nat} {a : Option Addr} {n cap : Nat} {ws : List Value} (h : w.ownsRow base T 1 (.slice a n cap) n ws) (k : Nat) (hk : k ≤ n) (hc : a = Option.none → k = 0 ∧ cap = 0) : w.ownsRow base T 1 (.slice a k cap) k (ws.take k) := by
  have hl := h.1
  refine ⟨by rw [List.length_take]; omega, ?_⟩
  rcases h.2 with ⟨e, h0⟩ | ⟨g, c, cur, e, hb, hg, hn, hm, hs, ht⟩
  · left
    injection e with e1 e2 e3
    obtain ⟨rfl, _⟩ := hc e1
    exact ⟨by rw [e1, e3], rfl⟩
  · right
    injection e with e1 e2 e3
    refine ⟨g, c, cur, by rw [e1, e3], hb, hg, by omega, hm, hs, ?_⟩
    rw [← ht, List.take_take]
    congr 1
    omega

theorem cutA_zero (a : Option Addr) (cap : Nat) : cutA a 0 cap = a := by
  unfold cutA
  split
  · rfl
  · cases a with
    | none => rfl
    | some a => simp [Addr.add]
theorem ReadsA.cut {α : Type} {f : α → Value} {d : α} {w : World} {a : Option Addr} {n cap : Nat} {xs : List α} (h : ReadsA f d w a n cap xs) (lo : Nat) (h1 : lo ≤ n) : ReadsA f d w (cutA a lo cap) (n - lo) (cap - lo) (xs.drop lo) := by
  have hl := h.len; have hle := h.le; have hm := h.max
  refine ⟨by simp; omega, by omega, by omega, fun e => ?_, fun hn => ?_⟩
  · unfold cutA at e
    split at e
    · have := h.nil e; omega
    · cases a with
      | none => have := h.nil rfl; omega
      | some a => simp at e
  · obtain ⟨b, off, rfl, hb, hc⟩ := h.cells (by omega)
    refine ⟨b, off + lo, ?_, hb, fun i hi' => ?_⟩
    · unfold cutA; rw [if_neg (by omega)]; simp only [Option.map_some, Addr.add_lit]
    · rw [Nat.add_assoc, hc (lo + i) (by omega)]
      congr 2
      simp [List.getD]
theorem step_append_readsA {P : Program} {w : World} {α : Type} {f : α → Value} {d : α} (hf : ∀ x, (f x).oneCell' = true) {ops : Array Oper} {o : Oper} {act : Act} {K : Act → World → Prop} {Q : Exit → Act → World → Prop} {E : Prop} (hgd : o.guard = none) (s x : Operand) (t : TypeId)
    (ho : o.op = Op.call { callee := Callee.builtin Builtin.append, args := #[s, x], argTypes := #[t, t] })
    (base : Nat) (e : TypeId) (i : TypeInfo) (z : Value) (bytes : Nat) (ht : P.underlying t = some (.slice e)) (hi : P.info? e = some i) (hz : i.zero = some z) (hsize : i.size = 1) (hby : i.bytes = bytes) (hzs : z.cells.size = 1)
    (a : Option Addr) (n cap : Nat) (xs : List α) (hs : act.eval s = .slice a n cap) (hown : w.ownsRow base e 1 (.slice a n cap) n (xs.map f)) (b : Option Addr) (m c : Nat) (ys : List α) (hx : act.eval x = .slice b m c) (hr : ReadsA f d w b m c ys)
    (h63 : n + m ≤ maxLen) (hbytes : (n + m) * bytes ≤ 140737488355328) (hbase : base ≤ w.heap.size)
    (h : ∀ a' cap' w', w'.ownsRow base e 1 (.slice a' (n + m) cap') (n + m) ((xs ++ ys).map f) → w.grownBy w' (Value.slice a n cap).ownBlock → K (act.put o.dst (.slice a' (n + m) cap')) w') : if Region.wanted o (yielded ops act.tmps) = true then Oper.wp P o act w K Q else E := by
  have hw : Region.wanted o (yielded ops act.tmps) = true := by simp [Region.wanted, hgd]
  rw [if_pos hw]
  obtain ⟨a', cap', w', hr, h2, h3⟩ := run_append_readsA (P := P) w (d := d) hf base t o.type e i z bytes ht hi hz hsize hby hzs a n cap xs hown b m c ys hr h63 hbytes hbase
  unfold Oper.wp execOp
  simp only [ho, resolve, invoke, builtin, Sem.run_bind, Sem.run_pure, Result.andThen_ok, List.map_toArray, List.map_cons, List.map_nil, hs, hx, hr]
  exact h a' cap' w' h2 h3

set_option maxRecDepth 100000 in
set_option maxHeartbeats 4000000 in
theorem unique_any (al : Option Addr) (n cap : Nat) (l : List ByteArray) (w : World) (hr : Strs w al n cap l) (hn : n ≤ 1000000) :
    Calls Try.prog 25 #[.slice al n cap] w fun e w' => ∃ u, Rises u ∧ (∀ x, x ∈ u ↔ x ∈ l) ∧ RetT w u e w' := by
  obtain ⟨i0, hi, hz0, hz1, hz2⟩ := info_parts infoStr
  have Hi := Lib.hid hi; have Hz0 := Lib.hid hz0; have Hz1 := Lib.hid hz1; have Hz2 := Lib.hid hz2
  have HR := Lib.hid hr; have HL := Lib.hid hr.len
  have h63 := hr.n63
  clear hi hz0 hz1 hz2 hr
  go_enter Try.func25, Try.ntmps25
  go_wp2_with fail
  go_loopw [3, 4] (fun vo vi wr => ∃ (i : Nat) (out : List ByteArray) (a : Option Addr) (cp : Nat), vo = .slice a out.length cp ∧ vi = .int .i64 i ∧ i ≤ n ∧ out.length ≤ i ∧ Hid (wr.ownsRow w.heap.size 9 1 (.slice a out.length cp) out.length (out.map Value.string)) ∧ Hid (Rises out) ∧ Hid (∀ x, x ∈ out ↔ x ∈ l.take i) ∧ Hid (Below w.heap.size w wr)) (fun _ vi _ => n - (intOf vi).toNat)
  case atStart => exact ⟨0, [], Option.none, 0, rfl, rfl, Nat.zero_le _, Nat.zero_le _, Lib.hid ⟨rfl, .inl ⟨rfl, rfl⟩⟩, Lib.hid List.Pairwise.nil, Lib.hid (fun x => by simp), Lib.hid (Below.refl _ _)⟩
  case round =>
    obtain ⟨i, out, a, cp, rfl, rfl, hi, hlo, OO, RI, ME, BB⟩ := hrel
    by_cases hlt : i < n
    · have i1 : (i : Int) < n := by omega
      have i2 : (0 : Int) ≤ i := by omega
      obtain ⟨b0, off, rfl, hb0w, _⟩ := HR.out.cellAt i hlt
      obtain ⟨_, _, e0, hb0, c0⟩ := (HR.out.below BB.out).cellAt i hlt
      obtain ⟨rfl, rfl⟩ : b0 = _ ∧ off = _ := by simpa using e0
      clear e0
      have htk : l.take (i + 1) = l.take i ++ [l.getD i ByteArray.empty] := take_getDA ByteArray.empty l i (by rw [HL.out]; exact hlt)
      have HTK := Lib.hid htk
      obtain ⟨x, hx⟩ : ∃ x, x = l.getD i ByteArray.empty := ⟨_, rfl⟩
      rw [← hx] at c0 HTK
      have RO := Lib.hid (readsA_of_owns (f := Value.string) ByteArray.empty OO.out)
      have C0 := Lib.hid c0
      clear hx htk c0
      go_wp2_with fail
      go_loopw [5] (fun vk wr2 => ∃ (k q : Nat), k ≤ out.length ∧ vk = .int .i64 k ∧ Hid (∀ j, k ≤ j → j < out.length → ltB (out.getD j ByteArray.empty) x = false) ∧ wr2 = wr.drewN q) (fun vk _ => (intOf vk).toNat)
      case atStart => exact ⟨out.length, 0, Nat.le_refl _, rfl, Lib.hid (fun j h1 h2 => absurd h1 (by omega)), rfl⟩
      case round =>
        obtain ⟨k, q, hk, rfl, HJ, rfl⟩ := hrel
        have c0 : ∀ p, ((wr.drewN q).drewN p).cell? ⟨b0, off + i, Option.none⟩ = some (.string x) := fun p => C0.out
        by_cases hk0 : 0 < k
        · obtain ⟨m, rfl⟩ : ∃ m, k = m + 1 := ⟨k - 1, by omega⟩
          have k1 : (0 : Int) < (m : Int) + 1 := by omega
          have k2 : (m : Int) < out.length := by omega
          have k3 : (0 : Int) ≤ (m : Int) := by omega
          obtain ⟨b1, off1, rfl, hb1, d0'⟩ := RO.out.cellAt m (by omega)
          obtain ⟨y, hy⟩ : ∃ y, y = out.getD m ByteArray.empty := ⟨_, rfl⟩
          rw [← hy] at d0'
          have d0 : ∀ p, ((wr.drewN q).drewN p).cell? ⟨b1, off1 + m, Option.none⟩ = some (.string y) := fun p => d0'
          have HY := Lib.hid hy
          clear hy d0' hb1
          obtain ⟨wq, hwq⟩ : ∃ z, z = wr.drewN q := ⟨_, rfl⟩
          rw [← hwq] at c0 d0 ⊢
          have HW := Lib.hid hwq
          clear hwq
          cases hyx : ltB y x with
          | true =>
            have hl1 : Op.bytesLess y.toList x.toList = true := hyx
            have HK1 := Lib.hid hyx
            clear hyx
            go_wp2_with fail
            go_quiet (fail)
            rw [show wq.drewN nq = wr.drewN (q + nq) by rw [HW.out, drewN_drewN]]
            clear c0 d0 hl1
            go_wp2_with fail
            --REST1
            have H1 : Hid (0 < m + 1 → ltB (out.getD (m + 1 - 1) ByteArray.empty) x = true) := Lib.hid (fun _ => by rw [← HK1.out]; simp [HY.out])
            clear HW HK1 HY
            generalize (some (⟨b1, off1, Option.none⟩ : Addr)) = a at *
            have OO' : Hid ((wr.drewN (q + nq)).ownsRow w.heap.size 9 1 (.slice a out.length cp) out.length (out.map Value.string)) := OO
            have RO' := Lib.hid (RO.out.drewN (q + nq))
            have C0' : Hid ((wr.drewN (q + nq)).cell? ⟨b0, off + i, Option.none⟩ = some (.string x)) := C0
            have BB' := Lib.hid (below_drewN BB.out (q + nq))
            clear OO RO C0 BB
            have HWR' : Hid (wr.heap.size ≤ (wr.drewN (q + nq)).heap.size) := Lib.hid (Nat.le_refl _)
            generalize wr.drewN (q + nq) = W at *
            have OO := OO'; have RO := RO'; have C0 := C0'; have BB := BB'
            clear OO' RO' C0' BB'
            by_cases hkl : (m + 1) < out.length
            · have l1 : ((m : Int) + 1) < (out.length : Int) := by omega
              have l2 : (0 : Int) ≤ ((m : Int) + 1) := by omega
              obtain ⟨b1, off1, ea, hb1, d0'⟩ := RO.out.cellAt ((m + 1)) hkl
              subst ea
              obtain ⟨z, hz⟩ : ∃ z, z = out.getD ((m + 1)) ByteArray.empty := ⟨_, rfl⟩
              rw [← hz] at d0'
              have HZ := Lib.hid hz
              have d0 : ∀ p, (W.drewN p).cell? ⟨b1, off1 + (m + 1), Option.none⟩ = some (.string z) := fun p => d0'
              have c0 : ∀ p, (W.drewN p).cell? ⟨b0, off + i, Option.none⟩ = some (.string x) := fun p => C0.out
              clear hz hb1 d0'
              by_cases hzx : z = x
              · subst hzx
                have hzz := str_eq z
                have ME3 : Hid (∀ y, y ∈ out ↔ y ∈ l.take (i + 1)) := Lib.hid (fun y => by
                  rw [HTK.out, List.mem_append, List.mem_singleton, ← ME.out y]
                  exact ⟨.inl, fun h => h.elim id (fun e => by rw [e, HZ.out]; exact getDS_mem hkl)⟩)
                go_wp2_with fail
                go_quiet (fail)
                clear c0 d0
                go_wp2_with fail
                go_roundw
                case rel => exact ⟨i + 1, out, _, cp, rfl, by go_num, by omega, by omega, OO, RI, ME3, Lib.hid (below_drewN BB.out nq)⟩
                case measure => simp [intOf] <;> omega
              · have hzz := str_ne hzx
                have HNE : Hid ((m + 1) < out.length → out.getD ((m + 1)) ByteArray.empty ≠ x) := Lib.hid (fun _ => by rw [← HZ.out]; exact hzx)
                go_wp2_with fail
                go_quiet (fail)
                clear c0 d0 hzx hzz
                replace OO : Hid ((W.drewN nq).ownsRow w.heap.size 9 1 (.slice (some ⟨b1, off1, Option.none⟩) out.length cp) out.length (out.map Value.string)) := OO
                replace RO := Lib.hid (RO.out.drewN nq)
                replace C0 : Hid ((W.drewN nq).cell? ⟨b0, off + i, Option.none⟩ = some (.string x)) := C0
                replace BB := Lib.hid (below_drewN BB.out nq)
                have HWR : Hid (wr.heap.size ≤ (W.drewN nq).heap.size) := HWR'
                generalize W.drewN nq = W2 at *
                generalize hae : (some (⟨b1, off1, Option.none⟩ : Addr)) = a at *
                have hKl : (m + 1) ≤ out.length := by omega
                have OT := Lib.hid (owns_take OO.out (m + 1) hKl (fun e => by have := RO.out.nil e; omega))
                have RC := Lib.hid (RO.out.cut (m + 1) hKl)
                have hs1 : ∀ z : World, (Instr.slice 35 (.slice a out.length cp) Option.none (some (.int .i64 ((m : Int) + 1))) Option.none).run Try.prog z = .ok (.slice a (m + 1) cp) z := fun z => by
                  have := run_slice_hi (P := Try.prog) 35 9 Try.underlying35 (by kernel_rfl) a out.length cp (m + 1) .i64 (by have := RO.out.le; omega) z
                  rw [cutA_zero] at this
                  exact this
                have hs2 : ∀ z : World, (Instr.slice 35 (.slice a out.length cp) (some (.int .i64 ((m : Int) + 1))) Option.none Option.none).run Try.prog z = .ok (.slice (cutA a (m + 1) cp) (out.length - (m + 1)) (cp - (m + 1))) z := fun z =>
                  run_slice_lo (P := Try.prog) 35 9 Try.underlying35 (by kernel_rfl) a out.length cp (m + 1) .i64 hKl z
                have RI2 := Lib.hid (rises_insert RI.out hKl H1.out (fun j h1 h2 => HJ.out j h1 h2) HNE.out)
                have ME2 : Hid (∀ y, y ∈ out.take (m + 1) ++ [x] ++ out.drop (m + 1) ↔ y ∈ l.take (i + 1)) := Lib.hid (fun y => by
                  rw [HTK.out, List.mem_append, List.mem_append, List.mem_append, List.mem_singleton, ← ME.out y]
                  conv => rhs; rw [← List.take_append_drop (m + 1) out, List.mem_append]
                  constructor
                  · rintro ((h | h) | h)
                    · exact .inl (.inl h)
                    · exact .inr h
                    · exact .inl (.inr h)
                  · rintro ((h | h) | h)
                    · exact .inl (.inl h)
                    · exact .inr h
                    · exact .inl (.inr h))
                have hlen2 : (out.take (m + 1) ++ [x] ++ out.drop (m + 1)).length = (m + 1) + (1 + (out.length - (m + 1))) := by simp; omega
                have HL2 := Lib.hid hlen2
                clear hlen2
                generalize hcu : cutA a (m + 1) cp = ac at *
                have hnd : (m + 1) + (out.length - (m + 1)) ≤ 1000000 := by omega
                have hnd2 : (m + 1) + (out.length - (m + 1)) = out.length := by omega
                generalize out.length - (m + 1) = nd at *
                generalize hcd : cp - (m + 1) = cd at *
                have hbl := BB.out.size
                have kp0 : W2.drew.cell? ⟨b0, off + i, Option.none⟩ = some (.string x) := C0.out
                have OT0 : W2.drew.ownsRow w.heap.size 9 1 (.slice a (m + 1) cp) (m + 1) ((out.take (m + 1)).map Value.string) := by rw [List.map_take]; exact OT.out
                have RC0 : Strs W2.drew ac nd cd (out.drop (m + 1)) := RC.out.drew
                have hgne : (Value.slice a (m + 1) cp).ownBlock ≠ some W2.heap.size := by
                  rcases OT0.2 with ⟨e, _⟩ | ⟨g, c, cur, e, _, hg, _⟩
                  · rw [e]; simp [Value.ownBlock]
                  · rw [e]
                    have hlt' : g < W2.heap.size := (Array.getElem?_eq_some_iff.1 hg).1
                    simp [Value.ownBlock]; omega
                have HG := Lib.hid hgne
                have HGB : Hid (some b0 ≠ (Value.slice a (m + 1) cp).ownBlock) := Lib.hid (by
                  rcases OT0.2 with ⟨e, _⟩ | ⟨g, c, cur, e, hbg, hg, _⟩
                  · rw [e]; simp [Value.ownBlock]
                  · rw [e]; simp only [Value.ownBlock]; intro h; injection h with h; omega)
                clear hgne
                have hb0' : b0 < W2.heap.size := Nat.lt_of_lt_of_le hb0 HWR.out
                have Keep : Hid (∀ z : World, Below W2.heap.size W2.drew z → z.cell? ⟨b0, off + i, Option.none⟩ = some (.string x)) := Lib.hid (fun z hz => (hz.cell (p := ⟨b0, off + i, Option.none⟩) hb0').trans kp0)
                have hal := ((Below.refl W2.heap.size W2).alloc (Nat.le_refl _) (.cells #[.string x] 9)).drew
                have kp1 : ((W2.alloc (.cells #[.string x] 9)).drew).cell? ⟨b0, off + i, Option.none⟩ = some (.string x) := (hal.cell (p := ⟨b0, off + i, Option.none⟩) hb0').trans kp0
                have O1 : Hid (((W2.alloc (.cells #[.string x] 9)).drew).ownsRow w.heap.size 9 1 (.slice (some ⟨W2.heap.size, 0, Option.none⟩) 1 1) 1 ([x].map Value.string)) := Lib.hid (own_one W2 w.heap.size hbl x)
                have R1 := Lib.hid (RC.out.below hal)
                have OT1 := Lib.hid (owns_below (ws := (out.take (m + 1)).map Value.string) (w := W2) OT0 hal)
                have hsz1 : ((W2.alloc (.cells #[.string x] 9)).drew).heap.size = W2.heap.size + 1 := by show (W2.alloc _).heap.size = _; simp
                have BB1 := Lib.hid ((BB.out.alloc hbl (.cells #[.string x] 9)).drew)
                clear hal
                go_wp2_with fail
                go_region_held3 (fun z => z.cell? ⟨b0, off + i, Option.none⟩ = some (.string x))
                  (first | with_reducible exact kp0 | with_reducible exact kp1 | with_reducible exact kp2 | with_reducible exact kp3)
                  (first
                  | (refine step_append_readsA (f := Value.string) (d := ByteArray.empty) str_one rfl _ _ 35 rfl w.heap.size 9 i0 (.string ByteArray.empty) 16 Try.underlying35 Hi.out Hz0.out Hz1.out Hz2.out rfl (some ⟨W2.heap.size, 0, Option.none⟩) 1 1 [x] rfl O1.out ac nd cd (out.drop (m + 1)) rfl R1.out (by unfold maxLen; omega) (by omega) (by rw [hsz1]; omega) ?_; intro a5 cp5 w5 ho5 hg5; have kp2 : w5.cell? ⟨b0, off + i, Option.none⟩ = some (.string x) := (hg5.cell kp1 (by simp [Value.ownBlock]; omega)); have OT5 := OT1.out.kept hg5 (.inr HG.out); have BB5 := BB1.out.grown hg5 (by rw [hsz1]; omega) (fun q hq => by simp [Value.ownBlock] at hq; omega); have hsz5 := hg5.size; have R5 := readsA_of_owns (f := Value.string) ByteArray.empty ho5)
                  | (refine step_append_readsA (f := Value.string) (d := ByteArray.empty) str_one rfl _ _ 35 rfl w.heap.size 9 i0 (.string ByteArray.empty) 16 Try.underlying35 Hi.out Hz0.out Hz1.out Hz2.out rfl a (m + 1) cp (out.take (m + 1)) rfl OT5 a5 (1 + nd) cp5 ([x] ++ out.drop (m + 1)) rfl R5 (by unfold maxLen; omega) (by omega) (by rw [hsz1] at hsz5; omega) ?_; intro a6 cp6 w6 ho6 hg6; have kp3 : w6.cell? ⟨b0, off + i, Option.none⟩ = some (.string x) := (hg6.cell kp2 HGB.out)))
                have BB6 := Lib.hid (below_grown BB5 OT5 hg6 (Nat.le_refl _) (by rw [hsz1] at hsz5; omega))
                rw [← List.append_assoc] at ho6
                have O6 : Hid (w6.ownsRow w.heap.size 9 1 (.slice a6 (out.take (m + 1) ++ [x] ++ out.drop (m + 1)).length cp6) (out.take (m + 1) ++ [x] ++ out.drop (m + 1)).length ((out.take (m + 1) ++ [x] ++ out.drop (m + 1)).map Value.string)) := Lib.hid (by rw [HL2.out]; exact ho6)
                have hlen3 : (out.take (m + 1) ++ [x] ++ out.drop (m + 1)).length ≤ i + 1 := by rw [HL2.out]; omega
                try rw [← HL2.out]
                generalize out.take (m + 1) ++ [x] ++ out.drop (m + 1) = out2 at *
                clear ho6 hg6 BB5 OT5 R5 hg5 ho5 kp0 kp1 kp2 kp3 hs1 hs2 OT0 RC0
                go_wp2_with fail
                go_roundw
                case rel => exact ⟨i + 1, out2, a6, cp6, (by first | rfl | rw [HL2.out, Nat.zero_add]), by go_num, by omega, hlen3, O6, RI2, ME2, BB6⟩
                case measure => (simp [intOf] <;> omega)
            · have l1 : ¬ ((m : Int) + 1) < (out.length : Int) := by omega
              have l3 : decide (((m : Int) + 1) < (out.length : Int)) = false := decide_eq_false l1
              have HNE : Hid ((m + 1) < out.length → out.getD ((m + 1)) ByteArray.empty ≠ x) := Lib.hid (fun h => absurd h hkl)
              have c0 : ∀ p, (W.drewN p).cell? ⟨b0, off + i, Option.none⟩ = some (.string x) := fun p => C0.out
              go_wp2_with fail
              go_quiet (fail)
              clear c0
              replace OO : Hid ((W.drewN nq).ownsRow w.heap.size 9 1 (.slice a out.length cp) out.length (out.map Value.string)) := OO
              replace RO := Lib.hid (RO.out.drewN nq)
              replace C0 : Hid ((W.drewN nq).cell? ⟨b0, off + i, Option.none⟩ = some (.string x)) := C0
              replace BB := Lib.hid (below_drewN BB.out nq)
              have HWR : Hid (wr.heap.size ≤ (W.drewN nq).heap.size) := HWR'
              generalize W.drewN nq = W2 at *
              have hKl : (m + 1) ≤ out.length := by omega
              have OT := Lib.hid (owns_take OO.out (m + 1) hKl (fun e => by have := RO.out.nil e; omega))
              have RC := Lib.hid (RO.out.cut (m + 1) hKl)
              have hs1 : ∀ z : World, (Instr.slice 35 (.slice a out.length cp) Option.none (some (.int .i64 ((m : Int) + 1))) Option.none).run Try.prog z = .ok (.slice a (m + 1) cp) z := fun z => by
                have := run_slice_hi (P := Try.prog) 35 9 Try.underlying35 (by kernel_rfl) a out.length cp (m + 1) .i64 (by have := RO.out.le; omega) z
                rw [cutA_zero] at this
                exact this
              have hs2 : ∀ z : World, (Instr.slice 35 (.slice a out.length cp) (some (.int .i64 ((m : Int) + 1))) Option.none Option.none).run Try.prog z = .ok (.slice (cutA a (m + 1) cp) (out.length - (m + 1)) (cp - (m + 1))) z := fun z =>
                run_slice_lo (P := Try.prog) 35 9 Try.underlying35 (by kernel_rfl) a out.length cp (m + 1) .i64 hKl z
              have RI2 := Lib.hid (rises_insert RI.out hKl H1.out (fun j h1 h2 => HJ.out j h1 h2) HNE.out)
              have ME2 : Hid (∀ y, y ∈ out.take (m + 1) ++ [x] ++ out.drop (m + 1) ↔ y ∈ l.take (i + 1)) := Lib.hid (fun y => by
                rw [HTK.out, List.mem_append, List.mem_append, List.mem_append, List.mem_singleton, ← ME.out y]
                conv => rhs; rw [← List.take_append_drop (m + 1) out, List.mem_append]
                constructor
                · rintro ((h | h) | h)
                  · exact .inl (.inl h)
                  · exact .inr h
                  · exact .inl (.inr h)
                · rintro ((h | h) | h)
                  · exact .inl (.inl h)
                  · exact .inr h
                  · exact .inl (.inr h))
              have hlen2 : (out.take (m + 1) ++ [x] ++ out.drop (m + 1)).length = (m + 1) + (1 + (out.length - (m + 1))) := by simp; omega
              have HL2 := Lib.hid hlen2
              clear hlen2
              generalize hcu : cutA a (m + 1) cp = ac at *
              have hnd : (m + 1) + (out.length - (m + 1)) ≤ 1000000 := by omega
              have hnd2 : (m + 1) + (out.length - (m + 1)) = out.length := by omega
              generalize out.length - (m + 1) = nd at *
              generalize hcd : cp - (m + 1) = cd at *
              have hbl := BB.out.size
              have kp0 : W2.drew.cell? ⟨b0, off + i, Option.none⟩ = some (.string x) := C0.out
              have OT0 : W2.drew.ownsRow w.heap.size 9 1 (.slice a (m + 1) cp) (m + 1) ((out.take (m + 1)).map Value.string) := by rw [List.map_take]; exact OT.out
              have RC0 : Strs W2.drew ac nd cd (out.drop (m + 1)) := RC.out.drew
              have hgne : (Value.slice a (m + 1) cp).ownBlock ≠ some W2.heap.size := by
                rcases OT0.2 with ⟨e, _⟩ | ⟨g, c, cur, e, _, hg, _⟩
                · rw [e]; simp [Value.ownBlock]
                · rw [e]
                  have hlt' : g < W2.heap.size := (Array.getElem?_eq_some_iff.1 hg).1
                  simp [Value.ownBlock]; omega
              have HG := Lib.hid hgne
              have HGB : Hid (some b0 ≠ (Value.slice a (m + 1) cp).ownBlock) := Lib.hid (by
                rcases OT0.2 with ⟨e, _⟩ | ⟨g, c, cur, e, hbg, hg, _⟩
                · rw [e]; simp [Value.ownBlock]
                · rw [e]; simp only [Value.ownBlock]; intro h; injection h with h; omega)
              clear hgne
              have hb0' : b0 < W2.heap.size := Nat.lt_of_lt_of_le hb0 HWR.out
              have Keep : Hid (∀ z : World, Below W2.heap.size W2.drew z → z.cell? ⟨b0, off + i, Option.none⟩ = some (.string x)) := Lib.hid (fun z hz => (hz.cell (p := ⟨b0, off + i, Option.none⟩) hb0').trans kp0)
              have hal := ((Below.refl W2.heap.size W2).alloc (Nat.le_refl _) (.cells #[.string x] 9)).drew
              have kp1 : ((W2.alloc (.cells #[.string x] 9)).drew).cell? ⟨b0, off + i, Option.none⟩ = some (.string x) := (hal.cell (p := ⟨b0, off + i, Option.none⟩) hb0').trans kp0
              have O1 : Hid (((W2.alloc (.cells #[.string x] 9)).drew).ownsRow w.heap.size 9 1 (.slice (some ⟨W2.heap.size, 0, Option.none⟩) 1 1) 1 ([x].map Value.string)) := Lib.hid (own_one W2 w.heap.size hbl x)
              have R1 := Lib.hid (RC.out.below hal)
              have OT1 := Lib.hid (owns_below (ws := (out.take (m + 1)).map Value.string) (w := W2) OT0 hal)
              have hsz1 : ((W2.alloc (.cells #[.string x] 9)).drew).heap.size = W2.heap.size + 1 := by show (W2.alloc _).heap.size = _; simp
              have BB1 := Lib.hid ((BB.out.alloc hbl (.cells #[.string x] 9)).drew)
              clear hal
              go_wp2_with fail
              go_region_held3 (fun z => z.cell? ⟨b0, off + i, Option.none⟩ = some (.string x))
                (first | with_reducible exact kp0 | with_reducible exact kp1 | with_reducible exact kp2 | with_reducible exact kp3)
                (first
                | (refine step_append_readsA (f := Value.string) (d := ByteArray.empty) str_one rfl _ _ 35 rfl w.heap.size 9 i0 (.string ByteArray.empty) 16 Try.underlying35 Hi.out Hz0.out Hz1.out Hz2.out rfl (some ⟨W2.heap.size, 0, Option.none⟩) 1 1 [x] rfl O1.out ac nd cd (out.drop (m + 1)) rfl R1.out (by unfold maxLen; omega) (by omega) (by rw [hsz1]; omega) ?_; intro a5 cp5 w5 ho5 hg5; have kp2 : w5.cell? ⟨b0, off + i, Option.none⟩ = some (.string x) := (hg5.cell kp1 (by simp [Value.ownBlock]; omega)); have OT5 := OT1.out.kept hg5 (.inr HG.out); have BB5 := BB1.out.grown hg5 (by rw [hsz1]; omega) (fun q hq => by simp [Value.ownBlock] at hq; omega); have hsz5 := hg5.size; have R5 := readsA_of_owns (f := Value.string) ByteArray.empty ho5)
                | (refine step_append_readsA (f := Value.string) (d := ByteArray.empty) str_one rfl _ _ 35 rfl w.heap.size 9 i0 (.string ByteArray.empty) 16 Try.underlying35 Hi.out Hz0.out Hz1.out Hz2.out rfl a (m + 1) cp (out.take (m + 1)) rfl OT5 a5 (1 + nd) cp5 ([x] ++ out.drop (m + 1)) rfl R5 (by unfold maxLen; omega) (by omega) (by rw [hsz1] at hsz5; omega) ?_; intro a6 cp6 w6 ho6 hg6; have kp3 : w6.cell? ⟨b0, off + i, Option.none⟩ = some (.string x) := (hg6.cell kp2 HGB.out)))
              have BB6 := Lib.hid (below_grown BB5 OT5 hg6 (Nat.le_refl _) (by rw [hsz1] at hsz5; omega))
              rw [← List.append_assoc] at ho6
              have O6 : Hid (w6.ownsRow w.heap.size 9 1 (.slice a6 (out.take (m + 1) ++ [x] ++ out.drop (m + 1)).length cp6) (out.take (m + 1) ++ [x] ++ out.drop (m + 1)).length ((out.take (m + 1) ++ [x] ++ out.drop (m + 1)).map Value.string)) := Lib.hid (by rw [HL2.out]; exact ho6)
              have hlen3 : (out.take (m + 1) ++ [x] ++ out.drop (m + 1)).length ≤ i + 1 := by rw [HL2.out]; omega
              try rw [← HL2.out]
              generalize out.take (m + 1) ++ [x] ++ out.drop (m + 1) = out2 at *
              clear ho6 hg6 BB5 OT5 R5 hg5 ho5 kp0 kp1 kp2 kp3 hs1 hs2 OT0 RC0
              go_wp2_with fail
              go_roundw
              case rel => exact ⟨i + 1, out2, a6, cp6, (by first | rfl | rw [HL2.out, Nat.zero_add]), by go_num, by omega, hlen3, O6, RI2, ME2, BB6⟩
              case measure => (simp [intOf] <;> omega)
          | false =>
            have hl1 : Op.bytesLess y.toList x.toList = false := hyx
            have HK1 := Lib.hid hyx
            clear hyx
            go_wp2_with fail
            go_quiet (fail)
            rw [show wq.drewN nq = wr.drewN (q + nq) by rw [HW.out, drewN_drewN]]
            clear c0 d0 hl1
            go_wp2_with fail
            go_roundw
            case rel => exact ⟨m, q + nq, by omega, by go_num, Lib.hid (fun j h1 h2 => by
              by_cases e : j = m
              · subst e; rw [← HY.out]; exact HK1.out
              · exact HJ.out j (by omega) h2), rfl⟩
            case measure => (simp [intOf] <;> omega)
        · --REST2
          obtain rfl : k = 0 := by omega
          have H1 : Hid (0 < 0 → ltB (out.getD (0 - 1) ByteArray.empty) x = true) := Lib.hid (fun h => absurd h (by omega))
          obtain ⟨wq, hwq⟩ : ∃ z, z = wr.drewN q := ⟨_, rfl⟩
          rw [← hwq] at c0 ⊢
          have HW := Lib.hid hwq
          clear hwq
          go_wp2_with fail
          go_quiet (fail)
          rw [show wq.drewN nq = wr.drewN (q + nq) by rw [HW.out, drewN_drewN]]
          clear c0 HW
          go_wp2_with fail
          have OO' : Hid ((wr.drewN (q + nq)).ownsRow w.heap.size 9 1 (.slice a out.length cp) out.length (out.map Value.string)) := OO
          have RO' := Lib.hid (RO.out.drewN (q + nq))
          have C0' : Hid ((wr.drewN (q + nq)).cell? ⟨b0, off + i, Option.none⟩ = some (.string x)) := C0
          have BB' := Lib.hid (below_drewN BB.out (q + nq))
          clear OO RO C0 BB
          have HWR' : Hid (wr.heap.size ≤ (wr.drewN (q + nq)).heap.size) := Lib.hid (Nat.le_refl _)
          generalize wr.drewN (q + nq) = W at *
          have OO := OO'; have RO := RO'; have C0 := C0'; have BB := BB'
          clear OO' RO' C0' BB'
          by_cases hkl : 0 < out.length
          · have l1 : (0 : Int) < (out.length : Int) := by omega
            have l2 : (0 : Int) ≤ (0 : Int) := by omega
            obtain ⟨b1, off1, ea, hb1, d0'⟩ := RO.out.cellAt (0) hkl
            subst ea
            obtain ⟨z, hz⟩ : ∃ z, z = out.getD (0) ByteArray.empty := ⟨_, rfl⟩
            rw [← hz] at d0'
            have HZ := Lib.hid hz
            have d0 : ∀ p, (W.drewN p).cell? ⟨b1, off1, Option.none⟩ = some (.string z) := fun p => (by simpa using d0')
            have c0 : ∀ p, (W.drewN p).cell? ⟨b0, off + i, Option.none⟩ = some (.string x) := fun p => C0.out
            clear hz hb1 d0'
            by_cases hzx : z = x
            · subst hzx
              have hzz := str_eq z
              have ME3 : Hid (∀ y, y ∈ out ↔ y ∈ l.take (i + 1)) := Lib.hid (fun y => by
                rw [HTK.out, List.mem_append, List.mem_singleton, ← ME.out y]
                exact ⟨.inl, fun h => h.elim id (fun e => by rw [e, HZ.out]; exact getDS_mem hkl)⟩)
              go_wp2_with fail
              go_quiet (fail)
              clear c0 d0
              go_wp2_with fail
              go_roundw
              case rel => exact ⟨i + 1, out, _, cp, rfl, by go_num, by omega, by omega, OO, RI, ME3, Lib.hid (below_drewN BB.out nq)⟩
              case measure => simp [intOf] <;> omega
            · have hzz := str_ne hzx
              have HNE : Hid (0 < out.length → out.getD (0) ByteArray.empty ≠ x) := Lib.hid (fun _ => by rw [← HZ.out]; exact hzx)
              go_wp2_with fail
              go_quiet (fail)
              clear c0 d0 hzx hzz
              replace OO : Hid ((W.drewN nq).ownsRow w.heap.size 9 1 (.slice (some ⟨b1, off1, Option.none⟩) out.length cp) out.length (out.map Value.string)) := OO
              replace RO := Lib.hid (RO.out.drewN nq)
              replace C0 : Hid ((W.drewN nq).cell? ⟨b0, off + i, Option.none⟩ = some (.string x)) := C0
              replace BB := Lib.hid (below_drewN BB.out nq)
              have HWR : Hid (wr.heap.size ≤ (W.drewN nq).heap.size) := HWR'
              generalize W.drewN nq = W2 at *
              generalize hae : (some (⟨b1, off1, Option.none⟩ : Addr)) = a at *
              have hKl : 0 ≤ out.length := by omega
              have OT := Lib.hid (owns_take OO.out 0 hKl (fun e => by have := RO.out.nil e; omega))
              have RC := Lib.hid (RO.out.cut 0 hKl)
              have hs1 : ∀ z : World, (Instr.slice 35 (.slice a out.length cp) Option.none (some (.int .i64 (0 : Int))) Option.none).run Try.prog z = .ok (.slice a 0 cp) z := fun z => by
                have := run_slice_hi (P := Try.prog) 35 9 Try.underlying35 (by kernel_rfl) a out.length cp 0 .i64 (by have := RO.out.le; omega) z
                rw [cutA_zero] at this
                exact this
              have hs2 : ∀ z : World, (Instr.slice 35 (.slice a out.length cp) (some (.int .i64 (0 : Int))) Option.none Option.none).run Try.prog z = .ok (.slice (cutA a 0 cp) (out.length - 0) (cp - 0)) z := fun z =>
                run_slice_lo (P := Try.prog) 35 9 Try.underlying35 (by kernel_rfl) a out.length cp 0 .i64 hKl z
              have RI2 := Lib.hid (rises_insert RI.out hKl H1.out (fun j h1 h2 => HJ.out j h1 h2) HNE.out)
              have ME2 : Hid (∀ y, y ∈ out.take 0 ++ [x] ++ out.drop 0 ↔ y ∈ l.take (i + 1)) := Lib.hid (fun y => by
                rw [HTK.out, List.mem_append, List.mem_append, List.mem_append, List.mem_singleton, ← ME.out y]
                conv => rhs; rw [← List.take_append_drop 0 out, List.mem_append]
                constructor
                · rintro ((h | h) | h)
                  · exact .inl (.inl h)
                  · exact .inr h
                  · exact .inl (.inr h)
                · rintro ((h | h) | h)
                  · exact .inl (.inl h)
                  · exact .inr h
                  · exact .inl (.inr h))
              have hlen2 : (out.take 0 ++ [x] ++ out.drop 0).length = 0 + (1 + (out.length - 0)) := by simp; omega
              have HL2 := Lib.hid hlen2
              clear hlen2
              generalize hcu : cutA a 0 cp = ac at *
              have hnd : 0 + (out.length - 0) ≤ 1000000 := by omega
              have hnd2 : 0 + (out.length - 0) = out.length := by omega
              generalize out.length - 0 = nd at *
              generalize hcd : cp - 0 = cd at *
              have hbl := BB.out.size
              have kp0 : W2.drew.cell? ⟨b0, off + i, Option.none⟩ = some (.string x) := C0.out
              have OT0 : W2.drew.ownsRow w.heap.size 9 1 (.slice a 0 cp) 0 ((out.take 0).map Value.string) := by rw [List.map_take]; exact OT.out
              have RC0 : Strs W2.drew ac nd cd (out.drop 0) := RC.out.drew
              have hgne : (Value.slice a 0 cp).ownBlock ≠ some W2.heap.size := by
                rcases OT0.2 with ⟨e, _⟩ | ⟨g, c, cur, e, _, hg, _⟩
                · rw [e]; simp [Value.ownBlock]
                · rw [e]
                  have hlt' : g < W2.heap.size := (Array.getElem?_eq_some_iff.1 hg).1
                  simp [Value.ownBlock]; omega
              have HG := Lib.hid hgne
              have HGB : Hid (some b0 ≠ (Value.slice a 0 cp).ownBlock) := Lib.hid (by
                rcases OT0.2 with ⟨e, _⟩ | ⟨g, c, cur, e, hbg, hg, _⟩
                · rw [e]; simp [Value.ownBlock]
                · rw [e]; simp only [Value.ownBlock]; intro h; injection h with h; omega)
              clear hgne
              have hb0' : b0 < W2.heap.size := Nat.lt_of_lt_of_le hb0 HWR.out
              have Keep : Hid (∀ z : World, Below W2.heap.size W2.drew z → z.cell? ⟨b0, off + i, Option.none⟩ = some (.string x)) := Lib.hid (fun z hz => (hz.cell (p := ⟨b0, off + i, Option.none⟩) hb0').trans kp0)
              have hal := ((Below.refl W2.heap.size W2).alloc (Nat.le_refl _) (.cells #[.string x] 9)).drew
              have kp1 : ((W2.alloc (.cells #[.string x] 9)).drew).cell? ⟨b0, off + i, Option.none⟩ = some (.string x) := (hal.cell (p := ⟨b0, off + i, Option.none⟩) hb0').trans kp0
              have O1 : Hid (((W2.alloc (.cells #[.string x] 9)).drew).ownsRow w.heap.size 9 1 (.slice (some ⟨W2.heap.size, 0, Option.none⟩) 1 1) 1 ([x].map Value.string)) := Lib.hid (own_one W2 w.heap.size hbl x)
              have R1 := Lib.hid (RC.out.below hal)
              have OT1 := Lib.hid (owns_below (ws := (out.take 0).map Value.string) (w := W2) OT0 hal)
              have hsz1 : ((W2.alloc (.cells #[.string x] 9)).drew).heap.size = W2.heap.size + 1 := by show (W2.alloc _).heap.size = _; simp
              have BB1 := Lib.hid ((BB.out.alloc hbl (.cells #[.string x] 9)).drew)
              clear hal
              go_wp2_with fail
              go_region_held3 (fun z => z.cell? ⟨b0, off + i, Option.none⟩ = some (.string x))
                (first | with_reducible exact kp0 | with_reducible exact kp1 | with_reducible exact kp2 | with_reducible exact kp3)
                (first
                | (refine step_append_readsA (f := Value.string) (d := ByteArray.empty) str_one rfl _ _ 35 rfl w.heap.size 9 i0 (.string ByteArray.empty) 16 Try.underlying35 Hi.out Hz0.out Hz1.out Hz2.out rfl (some ⟨W2.heap.size, 0, Option.none⟩) 1 1 [x] rfl O1.out ac nd cd (out.drop 0) rfl R1.out (by unfold maxLen; omega) (by omega) (by rw [hsz1]; omega) ?_; intro a5 cp5 w5 ho5 hg5; have kp2 : w5.cell? ⟨b0, off + i, Option.none⟩ = some (.string x) := (hg5.cell kp1 (by simp [Value.ownBlock]; omega)); have OT5 := OT1.out.kept hg5 (.inr HG.out); have BB5 := BB1.out.grown hg5 (by rw [hsz1]; omega) (fun q hq => by simp [Value.ownBlock] at hq; omega); have hsz5 := hg5.size; have R5 := readsA_of_owns (f := Value.string) ByteArray.empty ho5)
                | (refine step_append_readsA (f := Value.string) (d := ByteArray.empty) str_one rfl _ _ 35 rfl w.heap.size 9 i0 (.string ByteArray.empty) 16 Try.underlying35 Hi.out Hz0.out Hz1.out Hz2.out rfl a 0 cp (out.take 0) rfl OT5 a5 (1 + nd) cp5 ([x] ++ out.drop 0) rfl R5 (by unfold maxLen; omega) (by omega) (by rw [hsz1] at hsz5; omega) ?_; intro a6 cp6 w6 ho6 hg6; have kp3 : w6.cell? ⟨b0, off + i, Option.none⟩ = some (.string x) := (hg6.cell kp2 HGB.out)))
              have BB6 := Lib.hid (below_grown BB5 OT5 hg6 (Nat.le_refl _) (by rw [hsz1] at hsz5; omega))
              rw [← List.append_assoc] at ho6
              have O6 : Hid (w6.ownsRow w.heap.size 9 1 (.slice a6 (out.take 0 ++ [x] ++ out.drop 0).length cp6) (out.take 0 ++ [x] ++ out.drop 0).length ((out.take 0 ++ [x] ++ out.drop 0).map Value.string)) := Lib.hid (by rw [HL2.out]; exact ho6)
              have hlen3 : (out.take 0 ++ [x] ++ out.drop 0).length ≤ i + 1 := by rw [HL2.out]; omega
              try rw [← HL2.out]
              generalize out.take 0 ++ [x] ++ out.drop 0 = out2 at *
              clear ho6 hg6 BB5 OT5 R5 hg5 ho5 kp0 kp1 kp2 kp3 hs1 hs2 OT0 RC0
              go_wp2_with fail
              go_roundw
              case rel => exact ⟨i + 1, out2, a6, cp6, (by first | rfl | rw [HL2.out, Nat.zero_add]), by go_num, by omega, hlen3, O6, RI2, ME2, BB6⟩
              case measure => (simp [intOf] <;> omega)
          · have l1 : ¬ (0 : Int) < (out.length : Int) := by omega
            have l3 : decide ((0 : Int) < (out.length : Int)) = false := decide_eq_false l1
            have HNE : Hid (0 < out.length → out.getD (0) ByteArray.empty ≠ x) := Lib.hid (fun h => absurd h hkl)
            have c0 : ∀ p, (W.drewN p).cell? ⟨b0, off + i, Option.none⟩ = some (.string x) := fun p => C0.out
            go_wp2_with fail
            go_quiet (fail)
            clear c0
            replace OO : Hid ((W.drewN nq).ownsRow w.heap.size 9 1 (.slice a out.length cp) out.length (out.map Value.string)) := OO
            replace RO := Lib.hid (RO.out.drewN nq)
            replace C0 : Hid ((W.drewN nq).cell? ⟨b0, off + i, Option.none⟩ = some (.string x)) := C0
            replace BB := Lib.hid (below_drewN BB.out nq)
            have HWR : Hid (wr.heap.size ≤ (W.drewN nq).heap.size) := HWR'
            generalize W.drewN nq = W2 at *
            have hKl : 0 ≤ out.length := by omega
            have OT := Lib.hid (owns_take OO.out 0 hKl (fun e => by have := RO.out.nil e; omega))
            have RC := Lib.hid (RO.out.cut 0 hKl)
            have hs1 : ∀ z : World, (Instr.slice 35 (.slice a out.length cp) Option.none (some (.int .i64 (0 : Int))) Option.none).run Try.prog z = .ok (.slice a 0 cp) z := fun z => by
              have := run_slice_hi (P := Try.prog) 35 9 Try.underlying35 (by kernel_rfl) a out.length cp 0 .i64 (by have := RO.out.le; omega) z
              rw [cutA_zero] at this
              exact this
            have hs2 : ∀ z : World, (Instr.slice 35 (.slice a out.length cp) (some (.int .i64 (0 : Int))) Option.none Option.none).run Try.prog z = .ok (.slice (cutA a 0 cp) (out.length - 0) (cp - 0)) z := fun z =>
              run_slice_lo (P := Try.prog) 35 9 Try.underlying35 (by kernel_rfl) a out.length cp 0 .i64 hKl z
            have RI2 := Lib.hid (rises_insert RI.out hKl H1.out (fun j h1 h2 => HJ.out j h1 h2) HNE.out)
            have ME2 : Hid (∀ y, y ∈ out.take 0 ++ [x] ++ out.drop 0 ↔ y ∈ l.take (i + 1)) := Lib.hid (fun y => by
              rw [HTK.out, List.mem_append, List.mem_append, List.mem_append, List.mem_singleton, ← ME.out y]
              conv => rhs; rw [← List.take_append_drop 0 out, List.mem_append]
              constructor
              · rintro ((h | h) | h)
                · exact .inl (.inl h)
                · exact .inr h
                · exact .inl (.inr h)
              · rintro ((h | h) | h)
                · exact .inl (.inl h)
                · exact .inr h
                · exact .inl (.inr h))
            have hlen2 : (out.take 0 ++ [x] ++ out.drop 0).length = 0 + (1 + (out.length - 0)) := by simp; omega
            have HL2 := Lib.hid hlen2
            clear hlen2
            generalize hcu : cutA a 0 cp = ac at *
            have hnd : 0 + (out.length - 0) ≤ 1000000 := by omega
            have hnd2 : 0 + (out.length - 0) = out.length := by omega
            generalize out.length - 0 = nd at *
            generalize hcd : cp - 0 = cd at *
            have hbl := BB.out.size
            have kp0 : W2.drew.cell? ⟨b0, off + i, Option.none⟩ = some (.string x) := C0.out
            have OT0 : W2.drew.ownsRow w.heap.size 9 1 (.slice a 0 cp) 0 ((out.take 0).map Value.string) := by rw [List.map_take]; exact OT.out
            have RC0 : Strs W2.drew ac nd cd (out.drop 0) := RC.out.drew
            have hgne : (Value.slice a 0 cp).ownBlock ≠ some W2.heap.size := by
              rcases OT0.2 with ⟨e, _⟩ | ⟨g, c, cur, e, _, hg, _⟩
              · rw [e]; simp [Value.ownBlock]
              · rw [e]
                have hlt' : g < W2.heap.size := (Array.getElem?_eq_some_iff.1 hg).1
                simp [Value.ownBlock]; omega
            have HG := Lib.hid hgne
            have HGB : Hid (some b0 ≠ (Value.slice a 0 cp).ownBlock) := Lib.hid (by
              rcases OT0.2 with ⟨e, _⟩ | ⟨g, c, cur, e, hbg, hg, _⟩
              · rw [e]; simp [Value.ownBlock]
              · rw [e]; simp only [Value.ownBlock]; intro h; injection h with h; omega)
            clear hgne
            have hb0' : b0 < W2.heap.size := Nat.lt_of_lt_of_le hb0 HWR.out
            have Keep : Hid (∀ z : World, Below W2.heap.size W2.drew z → z.cell? ⟨b0, off + i, Option.none⟩ = some (.string x)) := Lib.hid (fun z hz => (hz.cell (p := ⟨b0, off + i, Option.none⟩) hb0').trans kp0)
            have hal := ((Below.refl W2.heap.size W2).alloc (Nat.le_refl _) (.cells #[.string x] 9)).drew
            have kp1 : ((W2.alloc (.cells #[.string x] 9)).drew).cell? ⟨b0, off + i, Option.none⟩ = some (.string x) := (hal.cell (p := ⟨b0, off + i, Option.none⟩) hb0').trans kp0
            have O1 : Hid (((W2.alloc (.cells #[.string x] 9)).drew).ownsRow w.heap.size 9 1 (.slice (some ⟨W2.heap.size, 0, Option.none⟩) 1 1) 1 ([x].map Value.string)) := Lib.hid (own_one W2 w.heap.size hbl x)
            have R1 := Lib.hid (RC.out.below hal)
            have OT1 := Lib.hid (owns_below (ws := (out.take 0).map Value.string) (w := W2) OT0 hal)
            have hsz1 : ((W2.alloc (.cells #[.string x] 9)).drew).heap.size = W2.heap.size + 1 := by show (W2.alloc _).heap.size = _; simp
            have BB1 := Lib.hid ((BB.out.alloc hbl (.cells #[.string x] 9)).drew)
            clear hal
            go_wp2_with fail
            go_region_held3 (fun z => z.cell? ⟨b0, off + i, Option.none⟩ = some (.string x))
              (first | with_reducible exact kp0 | with_reducible exact kp1 | with_reducible exact kp2 | with_reducible exact kp3)
              (first
              | (refine step_append_readsA (f := Value.string) (d := ByteArray.empty) str_one rfl _ _ 35 rfl w.heap.size 9 i0 (.string ByteArray.empty) 16 Try.underlying35 Hi.out Hz0.out Hz1.out Hz2.out rfl (some ⟨W2.heap.size, 0, Option.none⟩) 1 1 [x] rfl O1.out ac nd cd (out.drop 0) rfl R1.out (by unfold maxLen; omega) (by omega) (by rw [hsz1]; omega) ?_; intro a5 cp5 w5 ho5 hg5; have kp2 : w5.cell? ⟨b0, off + i, Option.none⟩ = some (.string x) := (hg5.cell kp1 (by simp [Value.ownBlock]; omega)); have OT5 := OT1.out.kept hg5 (.inr HG.out); have BB5 := BB1.out.grown hg5 (by rw [hsz1]; omega) (fun q hq => by simp [Value.ownBlock] at hq; omega); have hsz5 := hg5.size; have R5 := readsA_of_owns (f := Value.string) ByteArray.empty ho5)
              | (refine step_append_readsA (f := Value.string) (d := ByteArray.empty) str_one rfl _ _ 35 rfl w.heap.size 9 i0 (.string ByteArray.empty) 16 Try.underlying35 Hi.out Hz0.out Hz1.out Hz2.out rfl a 0 cp (out.take 0) rfl OT5 a5 (1 + nd) cp5 ([x] ++ out.drop 0) rfl R5 (by unfold maxLen; omega) (by omega) (by rw [hsz1] at hsz5; omega) ?_; intro a6 cp6 w6 ho6 hg6; have kp3 : w6.cell? ⟨b0, off + i, Option.none⟩ = some (.string x) := (hg6.cell kp2 HGB.out)))
            have BB6 := Lib.hid (below_grown BB5 OT5 hg6 (Nat.le_refl _) (by rw [hsz1] at hsz5; omega))
            rw [← List.append_assoc] at ho6
            have O6 : Hid (w6.ownsRow w.heap.size 9 1 (.slice a6 (out.take 0 ++ [x] ++ out.drop 0).length cp6) (out.take 0 ++ [x] ++ out.drop 0).length ((out.take 0 ++ [x] ++ out.drop 0).map Value.string)) := Lib.hid (by rw [HL2.out]; exact ho6)
            have hlen3 : (out.take 0 ++ [x] ++ out.drop 0).length ≤ i + 1 := by rw [HL2.out]; omega
            try rw [← HL2.out]
            generalize out.take 0 ++ [x] ++ out.drop 0 = out2 at *
            clear ho6 hg6 BB5 OT5 R5 hg5 ho5 kp0 kp1 kp2 kp3 hs1 hs2 OT0 RC0
            go_wp2_with fail
            go_roundw
            case rel => exact ⟨i + 1, out2, a6, cp6, (by first | rfl | rw [HL2.out, Nat.zero_add]), by go_num, by omega, hlen3, O6, RI2, ME2, BB6⟩
            case measure => (simp [intOf] <;> omega)
    · obtain rfl : i = n := by omega
      go_wp2_with fail
      go_ret
      exact ⟨out, RI.out, fun x => by rw [ME.out, ← HL.out, List.take_length], a, cp, rfl, OO.out, BB.out⟩
end Go.Proofs.Ytdjbmjkfpmchgaa
