/-
  dag's Base: the walk.
-/
import Derived.Test.YtdjbmjkfpmchgaaDagBase
namespace Go.Proofs.Ytdjbmjkfpmchgaa
open Go.RowKit Go.Maps

set_option maxRecDepth 100000 in
set_option maxHeartbeats 4000000 in
theorem base_any (g gm : Nat) (M : ByteArray → Option Value) (ns : List Nd) (a b : ByteArray) (w : World) (hg : Gr w g gm M ns) (G : Good ns) (hK : Keyable ns) (ha : a.size ≤ maxLen) (hb : b.size ≤ maxLen) :
    Calls Try.prog 10 #[gp g, .string a, .string b] w fun e w' => ∃ (x : ByteArray) (c : Int), e = .returned (.tuple #[.string x, .int .i64 c]) ∧ BaseIs ns a b x c ∧ Below w.heap.size w w' := by
  have GR := Lib.hid hg; have GD := Lib.hid G; have HK := Lib.hid hK
  clear hg G hK
  go_enter Try.func10, Try.ntmps10
  go_wp2_with fail
  refine (has_any g gm M ns a _ GR.out (by unfold maxLen at *; omega)).mono ?_; rintro e w1 ⟨rfl, b1⟩
  by_cases hina : a ∈ keysOf ns
  · rw [decide_eq_true hina]
    have HA := Lib.hid hina
    clear hina
    go_wp2_with fail
    refine (has_any g gm M ns b _ (GR.out.below b1) (by unfold maxLen at *; omega)).mono ?_; rintro e w2 ⟨rfl, b2⟩
    have B2 := Lib.hid (below_size b1 b2)
    clear b1 b2
    by_cases hinb : b ∈ keysOf ns
    · rw [decide_eq_true hinb]
      have HB := Lib.hid hinb
      clear hinb
      go_wp2_with fail
      refine (anc_any g gm M ns b _ (GR.out.below B2.out) GD.out HK.out hb).mono ?_; rintro e w3 ⟨m, hm, am, cm, rfl, om, b3⟩
      have B3 := Lib.hid (below_size B2.out b3)
      have MM := Lib.hid hm
      have RM := Lib.hid (readsA_of_owns (f := Value.string) ByteArray.empty om)
      clear b3 hm om
      go_wp2_with fail
      refine (anc_any g gm M ns a _ (GR.out.below B3.out) GD.out HK.out ha).mono ?_; rintro e w4 ⟨l, hl, al, cl, rfl, ol, b4⟩
      have B4 := Lib.hid (below_size B3.out b4)
      replace RM := Lib.hid (RM.out.below b4)
      have LL := Lib.hid hl
      have RL := Lib.hid (readsA_of_owns (f := Value.string) ByteArray.empty ol)
      have hle := hl.le GD.out
      have hlm := MM.out.le GD.out
      have hfew := GD.out.few
      clear b4 hl ol B2 B3
      go_wp2_with fail
      go_loopw [9, 10, 32] (fun v9 v10 vi wr => ∃ (i : Nat) (best : ByteArray) (found : Bool), v9 = .string best ∧ v10 = .bool found ∧ vi = .int .i64 i ∧ i ≤ l.length ∧ Hid (BestOf ns l m i best found) ∧ Hid (Below w4.heap.size w4 wr)) (fun _ _ vi _ => l.length - (intOf vi).toNat)
      case atStart => exact ⟨0, _, _, rfl, rfl, rfl, Nat.zero_le _, Lib.hid (BestOf.zero ns l m), Lib.hid (Below.refl _ _)⟩
      case round =>
        obtain ⟨i, best, found, rfl, rfl, rfl, hi, HBo, BB⟩ := hrel
        by_cases hlt : i < l.length
        · have i1 : (i : Int) < l.length := by omega
          have i2 : (0 : Int) ≤ i := by omega
          obtain ⟨b0, off, rfl, hb0, c0⟩ := (RL.out.below BB.out).cellAt i hlt
          obtain ⟨x, hx⟩ : ∃ x, x = l.getD i ByteArray.empty := ⟨_, rfl⟩
          rw [← hx] at c0
          have hxm : x ∈ l := by rw [hx]; exact getDS_mem hlt
          have hxs := keys_small HK.out (((LL.out.mem x).1 hxm).2.there GD.out HA.out)
          have HX := Lib.hid hx
          clear hx hxm hb0
          go_wp2_with fail
          clear c0
          refine (search_own am m.length cm m x _ (RM.out.below BB.out) MM.out.rises (by omega)).mono ?_; rintro e w5 ⟨I, rfl, q, rfl⟩
          replace BB := Lib.hid (below_drewN BB.out q)
          generalize wr.drewN q = w5 at *
          by_cases hin : x ∈ m
          · rw [decide_eq_true hin]
            have HIN := Lib.hid hin
            clear hin
            cases found with
            | false =>
              have HB2 := Lib.hid (HBo.out.take LL.out.rises hlt (by rw [← HX.out]; exact HIN.out) (fun h => nomatch h))
              rw [← HX.out] at HB2
              go_wp2_with fail
              go_quiet (fail)
              replace BB := Lib.hid (below_drewN BB.out nq)
              go_wp2_with fail
              go_roundw
              case rel => exact ⟨i + 1, x, true, rfl, rfl, by go_num, by omega, HB2, BB⟩
              case measure => simp [intOf]; omega
            | true =>
              have hbl := (HBo.out.2 rfl).1
              have hbs := keys_small HK.out (((LL.out.mem best).1 hbl).2.there GD.out HA.out)
              have G5 := Lib.hid (GR.out.below (below_size B4.out BB.out))
              obtain ⟨kx, ax, cx, hlx, _⟩ := G5.out.look x hxs
              obtain ⟨kb, ab, cb, hlb, _⟩ := G5.out.look best hbs
              have hfx := field2 kx ax (psOf ns x).length cx (stOf ns x)
              have hfb := field2 kb ab (psOf ns best).length cb (stOf ns best)
              have gc : ∀ q, (w5.drewN q).cell? ⟨g, 0, Option.none⟩ = some (.map (some gm)) := fun q => G5.out.cell
              clear hbl hbs
              go_wp2_with fail
              go_quiet (fail)
              replace BB := Lib.hid (below_drewN BB.out nq)
              clear hlx hlb hfx hfb gc G5
              by_cases hst : stOf ns best ≤ stOf ns x
              · rw [decide_eq_true hst]
                have HB2 := Lib.hid (HBo.out.take LL.out.rises hlt (by rw [← HX.out]; exact HIN.out) (fun _ => by rw [← HX.out]; exact hst))
                rw [← HX.out] at HB2
                clear hst
                go_wp2_with fail
                go_roundw
                case rel => exact ⟨i + 1, x, true, rfl, rfl, by go_num, by omega, HB2, BB⟩
                case measure => simp [intOf]; omega
              · rw [decide_eq_false hst]
                have HB2 := Lib.hid (HBo.out.keep (by rw [← HX.out]; omega))
                clear hst
                go_wp2_with fail
                go_roundw
                case rel => exact ⟨i + 1, best, true, rfl, rfl, by go_num, by omega, HB2, BB⟩
                case measure => simp [intOf]; omega
          · rw [decide_eq_false hin]
            have HB2 := Lib.hid (HBo.out.skip (by rw [← HX.out]; exact hin))
            clear hin
            go_wp2_with fail
            go_roundw
            case rel => exact ⟨i + 1, best, found, rfl, rfl, by go_num, by omega, HB2, BB⟩
            case measure => simp [intOf]; omega
        · obtain rfl : i = l.length := by omega
          have HBA := Lib.hid (HBo.out.base LL.out MM.out HA.out HB.out)
          have BF := Lib.hid (below_size B4.out BB.out)
          cases found with
          | false =>
            have e0 := (HBo.out.1 rfl).1
            have HBA2 : Hid (BaseIs ns a b ByteArray.empty 14) := by rw [← e0]; exact HBA
            clear e0 HBA
            go_wp2_with fail
            go_ret2
            exact ⟨_, 14, rfl, HBA2.out, BF.out⟩
          | true =>
            have HBA2 : Hid (BaseIs ns a b best 0) := HBA
            clear HBA
            go_wp2_with fail
            go_ret2
            exact ⟨_, 0, rfl, HBA2.out, BF.out⟩
    · rw [decide_eq_false hinb]
      have HB := Lib.hid hinb
      clear hinb
      go_wp2_with fail
      go_ret2
      exact ⟨_, 6, rfl, .inl ⟨fun h => HB.out h.2, rfl, rfl⟩, B2.out⟩
  · rw [decide_eq_false hina]
    have HA := Lib.hid hina
    clear hina
    go_wp2_with fail
    go_ret2
    exact ⟨_, 6, rfl, .inl ⟨fun h => HA.out h.1, rfl, rfl⟩, b1⟩
end Go.Proofs.Ytdjbmjkfpmchgaa
