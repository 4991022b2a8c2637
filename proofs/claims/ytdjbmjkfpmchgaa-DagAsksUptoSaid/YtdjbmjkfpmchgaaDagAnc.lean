/-
  dag's Ancestors.
-/
import Derived.Test.YtdjbmjkfpmchgaaDagAnc0
namespace Go.Proofs.Ytdjbmjkfpmchgaa
open Go.RowKit Go.Maps

theorem infoStr : (Try.prog.info? 9).map (fun i => (i.zero, i.size, i.bytes)) = some (some (.string ByteArray.empty), 1, 16) := by kernel_rfl
theorem zeroInt (w : World) : (zeroValue 3).run Try.prog w = .ok (.int .i64 0) w := by kernel_rfl

/-- What the worklist keeps: behind i of out. -/
structure Inv (ns : List Nd) (k : ByteArray) (i : Nat) (out : List ByteArray) : Prop where
  nodup : out.Nodup
  has : k ∈ out
  reach : ∀ x ∈ out, Reach ns k x
  done : ∀ j, j < i → ∀ p ∈ psOf ns (out.getD j ByteArray.empty), p ∈ out
theorem getD_append_left {xs ys : List ByteArray} {j : Nat} (h : j < xs.length) : (xs ++ ys).getD j ByteArray.empty = xs.getD j ByteArray.empty := by
  simp [List.getD, List.getElem?_append, h]
theorem Inv.first (ns : List Nd) (k : ByteArray) : Inv ns k 0 [k] := ⟨by simp, by simp, fun x hx => by rw [List.mem_singleton] at hx; rw [hx]; exact .refl, fun j h => absurd h (by omega)⟩
theorem Inv.more {ns : List Nd} {k p : ByteArray} {i : Nat} {out : List ByteArray} (h : Inv ns k i out) (hi : i < out.length) (hp : p ∈ psOf ns (out.getD i ByteArray.empty)) (hn : p ∉ out) : Inv ns k i (out ++ [p]) :=
  ⟨by rw [List.nodup_append]; exact ⟨h.nodup, by simp, fun a ha b hb e => hn (by rw [List.mem_singleton] at hb; rw [← hb, ← e]; exact ha)⟩, by simp [h.has], fun x hx => by
    rcases List.mem_append.1 hx with hx | hx
    · exact h.reach x hx
    · rw [List.mem_singleton] at hx
      rw [hx]
      exact .step (h.reach _ (getDS_mem hi)) hp, fun j hj q hq => by
    rw [getD_append_left (by omega)] at hq
    exact List.mem_append_left _ (h.done j hj q hq)⟩
theorem Inv.step {ns : List Nd} {k : ByteArray} {i : Nat} {out : List ByteArray} (h : Inv ns k i out) (hd : ∀ p ∈ psOf ns (out.getD i ByteArray.empty), p ∈ out) : Inv ns k (i + 1) out :=
  ⟨h.nodup, h.has, h.reach, fun j hj q hq => by
    by_cases e : j = i
    · subst e; exact hd q hq
    · exact h.done j (by omega) q hq⟩
theorem Inv.le {ns : List Nd} {k : ByteArray} {i : Nat} {out : List ByteArray} (G : Good ns) (hk : k ∈ keysOf ns) (h : Inv ns k i out) : out.length ≤ 500 := by
  have h1 := List.Nodup.length_le_of_subset h.nodup (l₂ := keysOf ns) (fun x hx => (h.reach x hx).there G hk)
  have h2 : (keysOf ns).length = ns.length := by simp [keysOf]
  have := G.few
  omega
theorem Inv.anc {ns : List Nd} {k : ByteArray} {out : List ByteArray} (hk : k ∈ keysOf ns) (h : Inv ns k out.length out) : IsAnc ns k (sortB out) :=
  ⟨sortB_rises h.nodup, fun x => by
    rw [sortB_mem]
    refine ⟨fun hx => ⟨hk, h.reach x hx⟩, fun hh => ?_⟩
    have hr := hh.2
    clear hh
    induction hr with
    | refl => exact h.has
    | step _ hx ih =>
      obtain ⟨j, hj, e⟩ := mem_getDS ih
      exact h.done j hj _ (by rw [e]; exact hx)⟩

/-- A map and a row of cells are two blocks. -/
theorem map_ne_row {P : Program} {kt : TypeId} {α : Type} {kl : α → Lit} {w : World} {b m : Nat} {M : α → Option Value} (h : MapIs P kt kl w b m M) {base T : Nat} {a : Option Addr} {n cap : Nat} {ws : List Value} (ho : w.ownsRow base T 1 (.slice a n cap) n ws) : some b ≠ (Value.slice a n cap).ownBlock := by
  obtain ⟨es, clock, hb⟩ := h.block
  rcases ho.2 with ⟨e, _⟩ | ⟨g, c, cur, e, _, hg, _⟩
  · rw [e]; simp [Value.ownBlock]
  · rw [e]
    intro h2
    simp [Value.ownBlock] at h2
    subst h2
    rw [hb] at hg
    cases hg

theorem own_one (w : World) (base : Nat) (hb : base ≤ w.heap.size) (s : ByteArray) : (w.alloc (.cells #[.string s] 9)).ownsRow base 9 1 (.slice (some ⟨w.heap.size, 0, Option.none⟩) 1 1) 1 ([s].map Value.string) :=
  ⟨rfl, .inr ⟨w.heap.size, 1, #[.string s], rfl, hb, by show (w.heap.push _)[w.heap.size]? = _; simp, Nat.le_refl _, by decide, rfl, rfl⟩⟩
theorem psOf_small {ns : List Nd} (h : Keyable ns) (k : ByteArray) : (psOf ns k).length * 16 ≤ 140737488355328 ∧ ∀ p ∈ psOf ns k, p.size ≤ maxLen := by
  by_cases hk : k ∈ keysOf ns
  · have := h _ (ndOf_in hk).1
    exact this.2
  · unfold psOf; rw [ndOf_out hk]; exact ⟨by simp, fun p hp => nomatch hp⟩
theorem keys_small {ns : List Nd} (h : Keyable ns) {k : ByteArray} (hk : k ∈ keysOf ns) : k.size ≤ maxLen := by
  have := h _ (ndOf_in hk).1
  rw [(ndOf_in hk).2] at this
  exact this.1

/-- New texts that the call owns. -/
def RetT (w : World) (l : List ByteArray) (e : Ending) (w' : World) : Prop := ∃ a cap, e = .returned (.slice a l.length cap) ∧ w'.ownsRow w.heap.size 9 1 (.slice a l.length cap) l.length (l.map Value.string) ∧ Below w.heap.size w w'

set_option maxRecDepth 100000 in
set_option maxHeartbeats 4000000 in
theorem anc_any (g gm0 : Nat) (M0 : ByteArray → Option Value) (ns : List Nd) (k : ByteArray) (w : World) (hg : Gr w g gm0 M0 ns) (G : Good ns) (hK : Keyable ns) (hk : k.size ≤ maxLen) :
    Calls Try.prog 17 #[gp g, .string k] w fun e w' => ∃ l, IsAnc ns k l ∧ RetT w l e w' := by
  obtain ⟨i0, hi, hz0, hz1, hz2⟩ := info_parts infoStr
  have Hi := Lib.hid hi; have Hz0 := Lib.hid hz0; have Hz1 := Lib.hid hz1; have Hz2 := Lib.hid hz2
  have hmm := @run_makeMap Try.prog
  have GR := Lib.hid hg; have GD := Lib.hid G; have HK := Lib.hid hK
  clear hi hz0 hz1 hz2 hg G hK
  go_enter Try.func17, Try.ntmps17
  go_wp2_with fail
  refine (has_any _ _ M0 ns k _ GR.out (by unfold maxLen at *; omega)).mono ?_; rintro e w1 ⟨rfl, b1⟩
  by_cases hin : k ∈ keysOf ns
  · rw [decide_eq_true hin]
    have HIN := Lib.hid hin
    have GR1 := Lib.hid (GR.out.below b1)
    have B1 := Lib.hid b1
    clear hin b1
    obtain ⟨w2, hrun, mp, gx⟩ := (MapIs.made Try.prog 9 strLit w1).run_put strLit_inj strLit_key keyedS Try.underlying60 (by unfold maxLen; omega) (keyOfS k (by unfold maxLen at *; omega)) (.int .i64 0)
    go_wp2_with fail
    have hs1 := B1.out.size
    have hs2 : w1.heap.size < w2.heap.size := by have := gx.size; rw [World.size_alloc] at this; omega
    have B3 := Lib.hid (((B1.out.alloc hs1 (.map #[] 0)).grown gx (by rw [World.size_alloc]; omega) (fun q hq => by cases hq; exact hs1)).alloc (by omega) (.cells #[.string k] 9))
    have O3 := Lib.hid (own_one w2 w.heap.size (by omega) k)
    have M3 : Hid (MapS (w2.alloc (.cells #[.string k] 9)) w1.heap.size 1 (fun x => if x = k then some (.int .i64 0) else Option.none)) := Lib.hid (MapIs.kept (row := Option.none) mp (World.grownBy_alloc _ _ _) (by simp))
    clear hrun gx mp hmm
    generalize w2.alloc (.cells #[.string k] 9) = w3 at *
    generalize w1.heap.size = gm at *
    generalize w2.heap.size = g2 at *
    go_loopw [6, 7] (fun v6 v7 wr => ∃ (i : Nat) (out : List ByteArray) (a : Option Addr) (cap : Nat) (M : ByteArray → Option Value), v6 = .slice a out.length cap ∧ v7 = .int .i64 i ∧ i ≤ out.length ∧
      Hid (wr.ownsRow w.heap.size 9 1 (.slice a out.length cap) out.length (out.map Value.string)) ∧ Hid (MapS wr gm out.length M) ∧ Hid (∀ x, (M x).isSome = decide (x ∈ out)) ∧ Hid (Inv ns k i out) ∧ Hid (Below w.heap.size w wr)) (fun _ v7 _ => 501 - (intOf v7).toNat)
    case atStart => exact ⟨0, [k], some ⟨g2, 0, Option.none⟩, 1, _, rfl, rfl, Nat.zero_le _, O3, M3, Lib.hid (fun x => by by_cases e : x = k <;> simp [e]), Lib.hid (Inv.first ns k), B3⟩
    case round =>
      obtain ⟨i, out, a, cap, M, rfl, rfl, hi, OO, MM, HM, II, BB⟩ := hrel
      clear O3 M3 B3
      have hle := II.out.le GD.out HIN.out
      by_cases hlt : i < out.length
      · have i1 : (i : Int) < out.length := by omega
        have i2 : (0 : Int) ≤ i := by omega
        obtain ⟨b0, off, rfl, hb0, c0⟩ := (readsA_of_owns (f := Value.string) ByteArray.empty OO.out).cellAt i hlt
        obtain ⟨x, hx⟩ : ∃ x, x = out.getD i ByteArray.empty := ⟨_, rfl⟩
        rw [← hx] at c0
        have hxk : x ∈ keysOf ns := by rw [hx]; exact (II.out.reach _ (getDS_mem hlt)).there GD.out HIN.out
        have G9 := Lib.hid (GR.out.below BB.out)
        obtain ⟨k', ka, kc, hlook, hst⟩ := GR.out.look2 BB.out x (keys_small HK.out hxk)
        have ST := Lib.hid hst
        have HX := Lib.hid hx
        have hps := psOf_small HK.out x
        have HPS := Lib.hid hps.2
        have hm := hps.1
        clear hst hx hps hxk hb0
        generalize hps : psOf ns x = ps at *
        have HP := Lib.hid hps
        clear hps
        generalize stOf ns x = sx at *
        have hf1 := field1 k' ka ps.length kc sx
        have c0' : ∀ q, (wr.drewN q).cell? ⟨b0, off + i, Option.none⟩ = some (.string x) := fun q => c0
        have gc : ∀ q, (wr.drewN q).cell? ⟨g, 0, Option.none⟩ = some (.map (some gm0)) := fun q => G9.out.cell
        have hm63 := ST.out.n63
        go_wp2_with fail
        go_quiet (fail)
        replace OO : Hid ((wr.drewN nq).ownsRow w.heap.size 9 1 (.slice (some ⟨b0, off, Option.none⟩) out.length cap) out.length (out.map Value.string)) := OO
        replace MM := Lib.hid (MM.out.drewN nq)
        replace BB := Lib.hid (below_drewN BB.out nq)
        clear hlook hf1 c0' gc c0 G9
        generalize wr.drewN nq = w4 at *
        generalize hm' : ps.length = m at *
        have HL := Lib.hid hm'
        clear hm'
        go_wp2_with fail
        go_loopw [6, 38] (fun v6 vj wr => ∃ (j : Nat) (out2 : List ByteArray) (a : Option Addr) (cap : Nat) (M : ByteArray → Option Value), v6 = .slice a out2.length cap ∧ vj = .int .i64 j ∧ j ≤ m ∧ i < out2.length ∧ Hid (x = out2.getD i ByteArray.empty) ∧
          Hid (wr.ownsRow w.heap.size 9 1 (.slice a out2.length cap) out2.length (out2.map Value.string)) ∧ Hid (MapS wr gm out2.length M) ∧ Hid (∀ x, (M x).isSome = decide (x ∈ out2)) ∧ Hid (Inv ns k i out2) ∧ Hid (Below w.heap.size w wr) ∧ Hid (∀ q, q < j → ps.getD q ByteArray.empty ∈ out2)) (fun _ vj _ => m - (intOf vj).toNat)
        case atStart => exact ⟨0, out, some ⟨b0, off, Option.none⟩, cap, M, rfl, rfl, Nat.zero_le _, hlt, HX, OO, MM, HM, II, BB, Lib.hid (fun q hq => absurd hq (by omega))⟩
        case round =>
          obtain ⟨j, out2, a2, cap2, M2, rfl, rfl, hj, hi2, HX2, O2, MM2, HM2, I2, B2, D2⟩ := hrel
          clear OO MM HM II BB HX hi hle hlt i1
          generalize wr = w5 at *
          have hle2 := I2.out.le GD.out HIN.out
          by_cases hlt2 : j < m
          · have j1 : (j : Int) < m := by omega
            have j2 : (0 : Int) ≤ j := by omega
            obtain ⟨b1, off1, rfl, hb1, d0⟩ := (ST.out.below B2.out).cellAt j hlt2
            obtain ⟨p, hp⟩ : ∃ p, p = ps.getD j ByteArray.empty := ⟨_, rfl⟩
            rw [← hp] at d0
            have hpm : p ∈ ps := by rw [hp]; exact getDS_mem (by rw [HL.out]; exact hlt2)
            have hsz := HPS.out p hpm
            have HPM := Lib.hid hpm; have HPD := Lib.hid hp
            have hlk := MM2.out.run_look_ok keyedS Try.underlying60 (zeroInt _) (keyOfS p (by unfold maxLen at *; omega))
            rw [HM2.out p] at hlk
            clear hp hpm hb1
            generalize (M2 p).getD (.int .i64 0) = vp at *
            by_cases hpo : p ∈ out2
            · rw [decide_eq_true hpo] at hlk
              have HPO := Lib.hid hpo
              clear hpo
              go_wp2_with fail
              go_roundw
              case rel => exact ⟨j + 1, out2, a2, cap2, M2, rfl, by go_num, by omega, hi2, HX2, O2, MM2, HM2, I2, B2, Lib.hid (fun q hq => by
                by_cases e : q = j
                · subst e; rw [← HPD.out]; exact HPO.out
                · exact D2.out q (by omega))⟩
              case measure => simp [intOf]; omega
            · rw [decide_eq_false hpo] at hlk
              have HPO := Lib.hid hpo
              have hnone : M2 p = Option.none := by
                have := HM2.out p
                rw [decide_eq_false hpo] at this
                simpa using this
              obtain ⟨w6, hrun, mp, gx⟩ := MM2.out.run_put strLit_inj strLit_key keyedS Try.underlying60 (by unfold maxLen; omega) (keyOfS p (by unfold maxLen at *; omega)) (.int .i64 i)
              rw [hnone] at mp
              have M6 : Hid (MapS w6 gm (out2.length + 1) (fun x => if x = p then some (.int .i64 i) else M2 x)) := Lib.hid mp
              have O6 := Lib.hid (O2.out.kept gx (.inr (fun e => map_ne_row MM2.out O2.out e.symm)))
              have hsz6 := gx.size
              have hbsz := B2.out.size
              have B6 := Lib.hid (B2.out.grown gx hbsz (fun q hq => by cases hq; exact hs1))
              clear mp gx hnone hpo
              go_wp2_with (at_builtin; refine wpList_append_readsA (f := Value.string) (d := ByteArray.empty) _ str_one rfl _ _ 35 rfl w.heap.size 9 i0 (.string ByteArray.empty) 16 Try.underlying35 Hi.out Hz0.out Hz1.out Hz2.out rfl a2 out2.length cap2 out2 rfl (owns_below O6.out ((Below.refl _ _).alloc (Nat.le_refl _) _)) (some ⟨w6.heap.size, 0, none⟩) 1 1 [p] rfl (readsA_alloc ByteArray.empty w6 [p] #[.string p] _ _ rfl (show 1 ≤ maxLen by decide) 1 rfl) (by unfold maxLen; omega) (by omega) (by simp; omega) ?_)
              intro a7 cap7 w7 ho7 hg7
              have hst6 : w.heap.size ≤ w6.heap.size := by omega
              have O6' := owns_below O6.out ((Below.refl w6.heap.size w6).alloc (Nat.le_refl _) (.cells #[.string p] 9))
              have B7 := Lib.hid (below_grown (B6.out.alloc hst6 (.cells #[.string p] 9)) O6' hg7 (Nat.le_refl _) (by simp; omega))
              have M6' : MapS (w6.alloc (.cells #[.string p] 9)) gm (out2.length + 1) (fun x => if x = p then some (.int .i64 i) else M2 x) := MapIs.kept (row := Option.none) M6.out (World.grownBy_alloc _ _ _) (by simp)
              have M7 : Hid (MapS w7 gm (out2 ++ [p]).length (fun x => if x = p then some (.int .i64 i) else M2 x)) := Lib.hid (by rw [List.length_append]; exact M6'.kept hg7 (map_ne_row M6' O6'))
              have O7 : Hid (w7.ownsRow w.heap.size 9 1 (.slice a7 (out2 ++ [p]).length cap7) (out2 ++ [p]).length ((out2 ++ [p]).map Value.string)) := Lib.hid (by rw [List.length_append, List.map_append]; exact ho7)
              have HM7 : Hid (∀ x, ((fun x => if x = p then some (Value.int .i64 i) else M2 x) x).isSome = decide (x ∈ out2 ++ [p])) := Lib.hid (fun x => by
                by_cases e : x = p
                · subst e; simp
                · simp only [if_neg e, HM2.out x]
                  rw [decide_eq_decide, List.mem_append, List.mem_singleton]
                  exact ⟨.inl, fun h => h.resolve_right e⟩)
              have I7 := Lib.hid (I2.out.more hi2 (p := p) (by rw [← HX2.out, HP.out]; exact HPM.out) HPO.out)
              have hi7 : i < (out2 ++ [p]).length := by rw [List.length_append]; omega
              have HX7 : Hid (x = (out2 ++ [p]).getD i ByteArray.empty) := Lib.hid (by rw [getD_append_left hi2]; exact HX2.out)
              have D7 : Hid (∀ q, q < j + 1 → ps.getD q ByteArray.empty ∈ out2 ++ [p]) := Lib.hid (fun q hq => by
                by_cases e : q = j
                · subst e; rw [← HPD.out]; simp
                · exact List.mem_append_left _ (D2.out q (by omega)))
              clear hg7 ho7 M6' O6' M6 O6 B6 hrun hlk
              rw [show out2.length + 1 = (out2 ++ [p]).length by simp]
              generalize out2 ++ [p] = out3 at *
              go_wp2
              go_roundw
              case rel => exact ⟨j + 1, out3, a7, cap7, _, rfl, by go_num, by omega, hi7, HX7, O7, M7, HM7, I7, B7, D7⟩
              case measure => simp [intOf]; omega
          · obtain rfl : j = m := by omega
            have I8 := Lib.hid (I2.out.step (fun p hp => by
              rw [← HX2.out, HP.out] at hp
              obtain ⟨t, ht, rfl⟩ := mem_getDS hp
              exact D2.out t (by rw [← HL.out]; exact ht)))
            go_wp2_with fail
            go_roundw
            case rel => exact ⟨i + 1, out2, a2, cap2, M2, rfl, by go_num, by omega, O2, MM2, HM2, I8, B2⟩
            case measure => simp [intOf]; omega
      · obtain rfl : i = out.length := by omega
        have hpos : 0 < out.length := List.length_pos_of_mem II.out.has
        obtain ⟨gg, rfl, _⟩ := owns_addr OO.out hpos
        go_wp2_with fail
        refine (sort_own w.heap.size gg out.length cap out _ OO.out BB.out.size (by omega)).mono ?_; rintro e w8 ⟨rfl, o8, b8⟩
        go_wp2
        go_ret
        refine ⟨sortB out, II.out.anc HIN.out, some ⟨gg, 0, Option.none⟩, cap, ?_, ?_, ?_⟩
        · rw [sortB_length]; rfl
        · rw [sortB_length]; exact o8
        · exact BB.out.trans b8
  · rw [decide_eq_false hin]
    have HIN := Lib.hid hin
    clear hin
    go_wp2_with fail
    go_ret
    exact ⟨[], IsAnc.nil HIN.out, Option.none, 0, rfl, ⟨rfl, .inl ⟨rfl, rfl⟩⟩, b1⟩
end Go.Proofs.Ytdjbmjkfpmchgaa
