/-
  The walk of DagMore.
-/
import Derived.Test.YtdjbmjkfpmchgaaDagMoreP
namespace Go.Proofs.Ytdjbmjkfpmchgaa
open Go.RowKit Go.Maps

set_option maxRecDepth 100000 in
set_option maxHeartbeats 8000000 in
theorem walk_DagMore (al : Option Addr) (n cap : Nat) (ns : List Nd) (a b key : ByteArray) (w : World) (hk : Keyable ns) (hr : NdL w al n cap ns) (ha : a.size ≤ maxLen) (hb : b.size ≤ maxLen) (hkey : key.size ≤ maxLen) :
    Calls Try.prog 6 #[.slice al n cap, .string a, .string b, .string key] w fun e w' => e = .returned (.bool true) ∧ Below w.heap.size w w' := by
  have HR := Lib.hid hr; have HK := Lib.hid hk
  have ha' : (a.size : Int) ≤ 9223372036854775807 := by unfold maxLen at ha; omega
  have hb' : (b.size : Int) ≤ 9223372036854775807 := by unfold maxLen at hb; omega
  have hk' : (key.size : Int) ≤ 9223372036854775807 := by unfold maxLen at hkey; omega
  have HA := Lib.hid ha; have HB := Lib.hid hb; have HKE := Lib.hid hkey
  have h63 := hr.n63
  clear hr hk ha hb hkey
  go_enter Try.func6, Try.ntmps6
  go_wp2_with fail
  refine (first_any _).mono ?_; rintro e w1 ⟨rfl, b1⟩
  replace HR := Lib.hid (HR.out.below b1)
  have BB := Lib.hid b1
  clear b1
  go_upto_region 3 with (fail)
  go_cut [48] from 49 (fun v wx => ∃ bf : Bool, v = .bool bf ∧ (bf = false → n ≤ 50) ∧ Hid (Below w1.heap.size w1 wx))
  case first =>
    as_aux_lemma =>
      go_wp2_with fail
      refine (few_any _ _ _ _ _ HR.out).mono ?_; rintro e w2 ⟨⟨bf, rfl, hbf⟩, q, rfl⟩
      have RB := Lib.hid (below_drewN (Below.refl w1.heap.size w1) q)
      generalize w1.drewN q = w2 at *
      cases bf with
      | false =>
        go_wp2_with fail
        go_meet
        case rel => exact ⟨true, rfl, (fun h => nomatch h), RB⟩
      | true =>
        by_cases h1 : 300 < a.size
        · have h1' : (300 : Int) < a.size := by omega
          go_wp2_with fail
          go_meet
          case rel => exact ⟨true, rfl, (fun h => nomatch h), RB⟩
        have h1' : ¬ (300 : Int) < a.size := by omega
        by_cases h2 : 300 < b.size
        · have h2' : (300 : Int) < b.size := by omega
          go_wp2_with fail
          go_meet
          case rel => exact ⟨true, rfl, (fun h => nomatch h), RB⟩
        have h2' : ¬ (300 : Int) < b.size := by omega
        by_cases h3 : 300 < key.size
        · have h3' : (300 : Int) < key.size := by omega
          go_wp2_with fail
          go_meet
          case rel => exact ⟨true, rfl, (fun h => nomatch h), RB⟩
        have h3' : ¬ (300 : Int) < key.size := by omega
        by_cases h4 : 50 < n
        · have h4' : (50 : Int) < n := by omega
          go_wp2_with fail
          go_meet
          case rel => exact ⟨true, rfl, (fun h => nomatch h), RB⟩
        · have h4' : ¬ (50 : Int) < n := by omega
          go_wp2_with fail
          go_meet
          case rel => exact ⟨false, by rw [decide_eq_false (show ¬ (300 : Int) < a.size by omega), decide_eq_false (show ¬ (300 : Int) < b.size by omega), decide_eq_false (show ¬ (300 : Int) < key.size by omega), decide_eq_false (show ¬ (50 : Int) < n by omega)]; rfl, fun _ => by omega, RB⟩
  case rest =>
  obtain ⟨bf, rfl, hn50, B2⟩ := hcut
  replace HR := Lib.hid (HR.out.below B2.out); replace BB := Lib.hid (below_size BB.out B2.out)
  clear B2
  generalize wc = w2 at *
  cases bf with
  | true =>
    go_wp2_with fail
    refine (first_any _).mono ?_; rintro e w3 ⟨rfl, b3⟩
    go_wp2_with fail
    go_ret
    exact ⟨rfl, below_size BB.out b3⟩
  | false =>
  have h50 := hn50 rfl
  go_wp2_with fail
  refine (new_any _ _ _ _ _ HR.out HK.out).mono ?_; rintro e w3 ⟨v, c, rfl, hn, hv0, hv, b3⟩
  replace BB := Lib.hid (below_size BB.out b3); replace HR := Lib.hid (HR.out.below b3)
  clear b3 hn50
  by_cases hc : c = 0
  · subst hc
    obtain ⟨g, gm, M, rfl, gr⟩ := hv rfl
    have GR := Lib.hid gr; have GD := Lib.hid (good_new hn)
    clear hn hv0 hv gr
    go_upto_region 6 with (fail)
    go_cut [77] from 78 (fun v wx => ∃ bf : Bool, v = .bool bf ∧ (bf = false → a ∈ keysOf ns ∧ b ∈ keysOf ns ∧ key ∉ keysOf ns) ∧ Hid (Below w3.heap.size w3 wx))
    case first =>
      as_aux_lemma =>
        have RB := Lib.hid (Below.refl w3.heap.size w3)
        go_wp2_with fail
        refine (has_any g gm M ns a _ GR.out HA.out).mono ?_; rintro e w4 ⟨rfl, b4⟩
        replace GR := Lib.hid (GR.out.below b4); replace RB := Lib.hid (below_size RB.out b4)
        clear b4
        by_cases hina : a ∈ keysOf ns
        · rw [decide_eq_true hina]
          have IA := Lib.hid hina
          clear hina
          go_wp2_with fail
          refine (has_any g gm M ns b _ GR.out HB.out).mono ?_; rintro e w4 ⟨rfl, b4⟩
          replace GR := Lib.hid (GR.out.below b4); replace RB := Lib.hid (below_size RB.out b4)
          clear b4
          by_cases hinb : b ∈ keysOf ns
          · rw [decide_eq_true hinb]
            have IB := Lib.hid hinb
            clear hinb
            go_wp2_with fail
            refine (has_any g gm M ns key _ GR.out HKE.out).mono ?_; rintro e w4 ⟨rfl, b4⟩
            replace RB := Lib.hid (below_size RB.out b4)
            clear b4
            by_cases hink : key ∈ keysOf ns
            · rw [decide_eq_true hink]
              clear hink
              go_wp2_with fail
              go_meet
              case rel => exact ⟨true, rfl, (fun h => nomatch h), RB⟩
            · rw [decide_eq_false hink]
              have IK := Lib.hid hink
              clear hink
              go_wp2_with fail
              go_meet
              case rel => exact ⟨false, rfl, fun _ => ⟨IA.out, IB.out, IK.out⟩, RB⟩
          · rw [decide_eq_false hinb]
            clear hinb
            go_wp2_with fail
            go_meet
            case rel => exact ⟨true, rfl, (fun h => nomatch h), RB⟩
        · rw [decide_eq_false hina]
          clear hina
          go_wp2_with fail
          go_meet
          case rel => exact ⟨true, rfl, (fun h => nomatch h), RB⟩
    case rest =>
    obtain ⟨bf, rfl, hin, B4⟩ := hcut
    replace HR := Lib.hid (HR.out.below B4.out); replace BB := Lib.hid (below_size BB.out B4.out); replace GR := Lib.hid (GR.out.below B4.out)
    clear B4
    generalize wc = w4 at *
    cases bf with
    | true =>
      go_wp2_with fail
      refine (first_any _).mono ?_; rintro e w5 ⟨rfl, b5⟩
      go_wp2_with fail
      go_ret
      exact ⟨rfl, below_size BB.out b5⟩
    | false =>
    have HIN := Lib.hid (hin rfl)
    clear hin
    go_wp2_with fail
    have h63' := HR.out.n63
    go_loopw [11, 12] (fun vs vi wr => ∃ (s : Int) (i : Nat), vs = .int .i64 s ∧ vi = .int .i64 i ∧ i ≤ n ∧ 0 ≤ s ∧ s ≤ 1099511627777 ∧ Hid (∀ j, j < i → ((ns.getD j default).key = a ∨ (ns.getD j default).key = b) → (ns.getD j default).st < s) ∧ wr = w4) (fun _ vi _ => n - (intOf vi).toNat)
    case atStart => exact ⟨0, 0, rfl, rfl, Nat.zero_le _, Int.le_refl _, by omega, Lib.hid (fun j h => absurd h (by omega)), rfl⟩
    case round =>
      obtain ⟨s, i, rfl, rfl, hi, hs0, hs1, HS, rfl⟩ := hrel
      generalize wr = w4 at *
      by_cases hlt : i < n
      · as_aux_lemma =>
          have i1 : (i : Int) < n := by omega
          have i2 : (0 : Int) ≤ i := by omega
          obtain ⟨b0, off, rfl, hb0, hcs⟩ := HR.out.cells (by omega)
          obtain ⟨pa, pc, c0, c1, c2, st⟩ := hcs i hlt
          obtain ⟨nd, hnd⟩ : ∃ nd, nd = ns.getD i default := ⟨_, rfl⟩
          rw [← hnd] at c0 c2
          have HND := Lib.hid hnd
          clear hnd hcs c1 st hb0
          have C0 := Lib.hid c0; have C2 := Lib.hid c2
          obtain ⟨sn, hsn⟩ : ∃ sn, sn = nd.st := ⟨_, rfl⟩
          obtain ⟨kn, hkn⟩ : ∃ kn, kn = nd.key := ⟨_, rfl⟩
          rw [← hsn] at c2; rw [← hkn] at c0
          have SN := Lib.hid hsn; have KN := Lib.hid hkn
          clear hsn hkn C0 C2
          by_cases hg1 : 1099511627776 < sn
          · go_wp2_with fail
            refine (first_any _).mono ?_; rintro e w5 ⟨rfl, b5⟩
            go_wp2_with fail
            go_ret
            exact ⟨rfl, below_size BB.out b5⟩
          by_cases hg2 : sn < -1099511627776
          · go_wp2_with fail
            refine (first_any _).mono ?_; rintro e w5 ⟨rfl, b5⟩
            go_wp2_with fail
            go_ret
            exact ⟨rfl, below_size BB.out b5⟩
          have hkeep : s ≤ sn ∨ sn < s := by omega
          have HS2 : ∀ s2 : Int, s ≤ s2 → ((nd.key = a ∨ nd.key = b) → nd.st < s2) → Hid (∀ j, j < i + 1 → ((ns.getD j default).key = a ∨ (ns.getD j default).key = b) → (ns.getD j default).st < s2) := fun s2 h1 h2 => Lib.hid (fun j hj hk => by
            by_cases e : j = i
            · subst e; rw [← HND.out] at hk ⊢; exact h2 hk
            · have := HS.out j (by omega) hk; omega)
          have HS3 := Lib.hid HS2
          clear HS2
          by_cases hka : kn = a ∨ kn = b
          · have hsel : ((kn.toList == a.toList) || (kn.toList == b.toList)) = true := by
              rcases hka with rfl | rfl
              · rw [str_eq]; rfl
              · rw [str_eq, Bool.or_true]
            by_cases hle : s ≤ sn
            · have HS4 := HS3.out (sn + 1) (by omega) (fun _ => by rw [← SN.out]; omega)
              rcases hka with rfl | rfl
              · have e1 := str_eq kn
                go_wp2_with fail
                go_roundw
                case rel => exact ⟨sn + 1, i + 1, rfl, by go_num, by omega, by omega, by omega, HS4, (by first | rfl | trivial)⟩
                case measure => simp [intOf]; omega
              · by_cases hab : kn = a
                · subst hab
                  have e1 := str_eq kn
                  go_wp2_with fail
                  go_roundw
                  case rel => exact ⟨sn + 1, i + 1, rfl, by go_num, by omega, by omega, by omega, HS4, (by first | rfl | trivial)⟩
                  case measure => simp [intOf]; omega
                · have e1 := str_ne hab
                  have e2 := str_eq kn
                  go_wp2_with fail
                  go_roundw
                  case rel => exact ⟨sn + 1, i + 1, rfl, by go_num, by omega, by omega, by omega, HS4, (by first | rfl | trivial)⟩
                  case measure => simp [intOf]; omega
            · have HS4 := HS3.out s (Int.le_refl _) (fun _ => by rw [← SN.out]; omega)
              rcases hka with rfl | rfl
              · have e1 := str_eq kn
                go_wp2_with fail
                go_roundw
                case rel => exact ⟨s, i + 1, rfl, by go_num, by omega, by omega, by omega, HS4, (by first | rfl | trivial)⟩
                case measure => simp [intOf]; omega
              · by_cases hab : kn = a
                · subst hab
                  have e1 := str_eq kn
                  go_wp2_with fail
                  go_roundw
                  case rel => exact ⟨s, i + 1, rfl, by go_num, by omega, by omega, by omega, HS4, (by first | rfl | trivial)⟩
                  case measure => simp [intOf]; omega
                · have e1 := str_ne hab
                  have e2 := str_eq kn
                  go_wp2_with fail
                  go_roundw
                  case rel => exact ⟨s, i + 1, rfl, by go_num, by omega, by omega, by omega, HS4, (by first | rfl | trivial)⟩
                  case measure => simp [intOf]; omega
          · have e1 := str_ne (fun h => hka (.inl h))
            have e2 := str_ne (fun h => hka (.inr h))
            have HS4 := HS3.out s (Int.le_refl _) (fun h => absurd (by rw [KN.out]; exact h) hka)
            clear hka
            go_wp2_with fail
            go_roundw
            case rel => exact ⟨s, i + 1, rfl, by go_num, by omega, by omega, by omega, HS4, (by first | rfl | trivial)⟩
            case measure => simp [intOf]; omega
      · as_aux_lemma =>
          obtain rfl : i = n := by omega
          have hnx : ∀ k, (k = a ∨ k = b) → k ∈ keysOf ns → stOf ns k < s := fun k hk hin => by
            obtain ⟨h1, h2⟩ := ndOf_in hin
            obtain ⟨j, hj, e⟩ := mem_getDN h1
            have := HS.out j (by rw [← HR.out.len]; exact hj) (by rw [e, h2]; exact hk)
            rw [e] at this
            exact this
          have MO : Hid (More ns a b key s) := Lib.hid ⟨GD.out, by have := HR.out.len; omega, HIN.out.1, HIN.out.2.1, HIN.out.2.2, hnx a (.inl rfl) HIN.out.1, hnx b (.inr rfl) HIN.out.2.1⟩
          have QL := Lib.hid HR.out.len
          clear hnx HS
          have hst := HR.out.nil
          obtain ⟨qs, hqs, hsq, hit⟩ := HR.out.items
          have hql : qs.length = i := by rw [← HR.out.len, ← hqs, List.length_map]
          have IT : Hid (ItemsN w4 al i qs) := Lib.hid ⟨hql, fun e => (hst e).1, hit⟩
          have SQ := Lib.hid hsq; have QQ := Lib.hid hqs; have HNA := Lib.hid (fun e => (hst e).2)
          clear hqs hsq hit hst hql
          have hal := (Below.refl w4.heap.size w4).alloc (Nat.le_refl _) (.cells #[] 44)
          have O0 : Hid ((w4.alloc (.cells #[] 44)).ownsRow w4.heap.size 44 3 (.slice (some ⟨w4.heap.size, 0, Option.none⟩) 0 0) 0 (flatN [])) := Lib.hid (own_none w4 w4.heap.size 44 (Nat.le_refl _))
          have J1 := Lib.hid (IT.out.below hal)
          have HAL := Lib.hid hal
          clear hal
          go_wp2_with (at_builtin; refine wpList_append_nds _ rfl _ _ rfl w4.heap.size (some ⟨w4.heap.size, 0, Option.none⟩) 0 0 [] rfl O0.out al i cap qs rfl HNA.out J1.out (by omega) (by simp) i (Nat.zero_add i) ?_)
          intro a5 cp5 w5 ho5 hg5
          have b5 := Lib.hid (below_grown' HAL.out O0.out hg5 (by simp))
          have O5 := Lib.hid ho5
          obtain ⟨hi6, hs6, hb6⟩ := more_items w5 a b key s 9 44
          have I6 := Lib.hid hi6; have S6 := Lib.hid hs6; have B6 := Lib.hid (below_size b5.out hb6); have O6 := Lib.hid (owns_below3 O5.out hb6)
          have hz6 : w4.heap.size ≤ ((w5.alloc (.cells #[.string a, .string b] 9)).alloc (.cells #[.string key, .slice (some ⟨w5.heap.size, 0, Option.none⟩) 2 2, .int .i64 s] 44)).heap.size := Nat.le_trans b5.out.size hb6.size
          clear ho5 hg5 hi6 hs6 hb6 O0 J1 HAL IT
          go_wp2_with (at_builtin; refine wpList_append_nds _ rfl _ _ rfl w4.heap.size a5 i cp5 ([] ++ qs) rfl O6.out (some ⟨w5.heap.size + 1, 0, Option.none⟩) 1 1 [((⟨key, [a, b], s⟩ : Nd), some ⟨w5.heap.size, 0, Option.none⟩, 2)] rfl (fun h => nomatch h) I6.out (by omega) hz6 (i + 1) rfl ?_)
          intro a8 cp8 w8 ho8 hg8
          have b8 := Lib.hid (below_grown' B6.out O6.out hg8 hz6)
          have hb68 : Below w4.heap.size w4 w8 := b8.out
          have ab8 := more_strs S6.out O5.out hg8
          have ND8 := Lib.hid (more_nds QQ.out (fun q hq => (SQ.out q hq).below b8.out) ab8 ho8)
          have HK8 := Lib.hid (more_keyable (st := s) HK.out HA.out HB.out HKE.out)
          replace BB := Lib.hid (below_size BB.out b8.out); replace GR := Lib.hid (GR.out.below b8.out)
          clear ab8 hg8 ho8 b8 O5 b5 I6 S6 B6 O6 hz6 SQ QQ HNA HR
          go_wp2_with fail
          refine (new_any _ _ _ _ _ ND8.out HK8.out).mono ?_; rintro e w9 ⟨v, c, rfl, hn9, _, hv9, b9⟩
          obtain rfl := new_good MO.out.goodM hn9
          obtain ⟨g2, gm2, M2, rfl, gr2⟩ := hv9 rfl
          have GR2 := Lib.hid gr2; have GD2 := Lib.hid MO.out.goodM
          replace GR := Lib.hid (GR.out.below b9); replace BB := Lib.hid (below_size BB.out b9)
          clear hn9 hv9 gr2 b9 ND8
          go_wp2_with fail
          refine (base_any g2 gm2 M2 _ key a _ GR2.out GD2.out HK8.out HKE.out HA.out).mono ?_; rintro e w10 ⟨x1, c1, rfl, h1, b10⟩
          obtain ⟨e1, rfl⟩ := MO.out.elderA h1; have e1 := e1.symm; subst e1
          replace GR := Lib.hid (GR.out.below b10); replace BB := Lib.hid (below_size BB.out b10); replace GR2 := Lib.hid (GR2.out.below b10)
          clear h1 b10
          go_wp2_with fail
          refine (base_any g2 gm2 M2 _ b key _ GR2.out GD2.out HK8.out HB.out HKE.out).mono ?_; rintro e w11 ⟨x1, c1, rfl, h1, b10⟩
          obtain ⟨e1, rfl⟩ := MO.out.elderB h1; have e1 := e1.symm; subst e1
          replace GR := Lib.hid (GR.out.below b10); replace BB := Lib.hid (below_size BB.out b10); replace GR2 := Lib.hid (GR2.out.below b10)
          clear h1 b10
          go_wp2_with fail
          refine (base_any g gm M ns a b _ GR.out GD.out HK.out HA.out HB.out).mono ?_; rintro e w12 ⟨x1, c1, rfl, h1, b10⟩
          replace GR := Lib.hid (GR.out.below b10); replace BB := Lib.hid (below_size BB.out b10); replace GR2 := Lib.hid (GR2.out.below b10)
          have BA := Lib.hid h1
          clear h1 b10
          go_wp2_with fail
          refine (base_any g2 gm2 M2 _ a b _ GR2.out GD2.out HK8.out HA.out HB.out).mono ?_; rintro e w13 ⟨x2, c2, rfl, h2, b10⟩
          obtain ⟨e1, e2⟩ := BA.out.uniq (MO.out.base h2)
          subst e1; subst e2
          replace GR := Lib.hid (GR.out.below b10); replace BB := Lib.hid (below_size BB.out b10); replace GR2 := Lib.hid (GR2.out.below b10)
          clear h2 b10 BA
          go_wp2_with fail
          refine (anc_any g gm M ns a _ GR.out GD.out HK.out HA.out).mono ?_; rintro e w14 ⟨la, hla, a14, c14, rfl, o14, b14⟩
          obtain ⟨i0, hi0, hz0, hz1, hz2⟩ := info_parts infoStr
          have hLA := hla.le GD.out
          have hnl : ns.length ≤ 50 := by have := MO.out.few; have := QL.out; omega
          have LA := Lib.hid hla
          have BC := Lib.hid b14
          clear hla b14
          go_wp2_with fail
          refine (anc_any g gm M ns b _ (GR.out.below BC.out) GD.out HK.out HB.out).mono ?_; rintro e w15 ⟨lb, hlb, a15, c15, rfl, o15, b15⟩
          have hLB := hlb.le GD.out
          have LB := Lib.hid hlb
          have O14 := Lib.hid (owns_below o14 b15)
          have R15 := Lib.hid (readsA_of_owns (f := Value.string) ByteArray.empty o15)
          replace BC := Lib.hid (below_size BC.out b15)
          clear hlb b15 o14 o15
          go_wp2_with (at_builtin; refine wpList_append_readsA (f := Value.string) (d := ByteArray.empty) _ str_one rfl _ _ 35 rfl w13.heap.size 9 i0 (.string ByteArray.empty) 16 Try.underlying35 hi0 hz0 hz1 hz2 rfl a14 la.length c14 la rfl O14.out a15 lb.length c15 lb rfl R15.out (by unfold maxLen; omega) (by omega) BC.out.size ?_)
          intro a16 c16 w16 o16 hg16
          replace o16 : w16.ownsRow w13.heap.size 9 1 (.slice a16 (la.length + lb.length) c16) (la.length + lb.length) ((la ++ lb).map Value.string) := by rw [List.map_append]; exact o16
          have BD := Lib.hid (below_grown BC.out O14.out hg16 (Nat.le_refl _) BC.out.size)
          have bk := (Below.refl w16.heap.size w16).alloc (Nat.le_refl _) (.cells #[.string key] 9)
          have sk : Hid (Strs (w16.alloc (.cells #[.string key] 9)) (some ⟨w16.heap.size, 0, Option.none⟩) 1 1 [key]) := Lib.hid (readsA_alloc ByteArray.empty w16 [key] #[.string key] _ _ rfl (show 1 ≤ maxLen by decide) 1 rfl)
          have O17 := Lib.hid (owns_below o16 bk)
          have BE := Lib.hid (below_size BD.out bk)
          clear o16 hg16 bk BC BD O14 R15
          go_wp2_with (at_builtin; refine wpList_append_readsA (f := Value.string) (d := ByteArray.empty) _ str_one rfl _ _ 35 rfl w13.heap.size 9 i0 (.string ByteArray.empty) 16 Try.underlying35 hi0 hz0 hz1 hz2 rfl a16 (la.length + lb.length) c16 (la ++ lb) rfl O17.out (some ⟨w16.heap.size, 0, Option.none⟩) 1 1 [key] rfl sk.out (by unfold maxLen; omega) (by omega) BE.out.size ?_)
          intro a18 c18 w18 o18 hg18
          replace o18 : w18.ownsRow w13.heap.size 9 1 (.slice a18 (la.length + lb.length + 1) c18) (la.length + lb.length + 1) (((la ++ lb) ++ [key]).map Value.string) := by simpa using o18
          have b18 := below_grown BE.out O17.out hg18 (Nat.le_refl _) BE.out.size
          have R18 := Lib.hid (readsA_of_owns (f := Value.string) ByteArray.empty o18)
          replace GR := Lib.hid (GR.out.below b18); replace BB := Lib.hid (below_size BB.out b18); replace GR2 := Lib.hid (GR2.out.below b18)
          clear o18 hg18 b18 BE O17 sk hi0 hz0 hz1 hz2
          go_wp2_with fail
          refine (unique_any _ _ _ ((la ++ lb) ++ [key]) _ R18.out (by omega)).mono ?_; rintro e w19 ⟨u, hu, hum, a19, c19, rfl, o19, b19⟩
          have R19 := Lib.hid (readsA_of_owns (f := Value.string) ByteArray.empty o19)
          have HU := Lib.hid hu; have HM := Lib.hid hum
          replace GR := Lib.hid (GR.out.below b19); replace BB := Lib.hid (below_size BB.out b19); replace GR2 := Lib.hid (GR2.out.below b19)
          clear o19 hu hum b19 R18
          have e1 := str_eq a
          have e2 := str_eq b
          have e3 := str_eq x1
          go_wp2_with fail
          refine (first_any _).mono ?_; rintro e w20 ⟨rfl, b20⟩
          replace GR := Lib.hid (GR.out.below b20); replace BB := Lib.hid (below_size BB.out b20); replace GR2 := Lib.hid (GR2.out.below b20)
          replace R19 := Lib.hid (R19.out.below b20)
          clear b20
          go_wp2_with fail
          refine (anc_any g2 gm2 M2 _ key _ GR2.out GD2.out HK8.out HKE.out).mono ?_; rintro e w21 ⟨l, hl, a21, c21, rfl, o21, b21⟩
          obtain rfl := MO.out.all LA.out LB.out HU.out HM.out hl
          have R21 := Lib.hid (readsA_of_owns (f := Value.string) ByteArray.empty o21)
          replace GR := Lib.hid (GR.out.below b21); replace BB := Lib.hid (below_size BB.out b21); replace GR2 := Lib.hid (GR2.out.below b21)
          replace R19 := Lib.hid (R19.out.below b21)
          clear o21 hl b21
          go_wp2_with fail
          refine (texts_any _ _ _ _ _ _ l l _ R21.out R19.out).mono ?_; rintro e w22 ⟨rfl, b22⟩
          rw [decide_eq_true rfl]
          replace GR := Lib.hid (GR.out.below b22); replace BB := Lib.hid (below_size BB.out b22); replace GR2 := Lib.hid (GR2.out.below b22)
          clear R21 R19 b22 HU HM
          go_wp2_with fail
          refine (anc_any g2 gm2 M2 _ a _ GR2.out GD2.out HK8.out HA.out).mono ?_; rintro e w23 ⟨l2, hl, a23, c23, rfl, o23, b23⟩
          have R23 := Lib.hid (readsA_of_owns (f := Value.string) ByteArray.empty o23)
          have HL2 := Lib.hid (MO.out.anc HIN.out.1 hl)
          replace GR := Lib.hid (GR.out.below b23); replace BB := Lib.hid (below_size BB.out b23); replace GR2 := Lib.hid (GR2.out.below b23)
          clear o23 hl b23
          go_wp2_with fail
          refine (anc_any g gm M ns a _ GR.out GD.out HK.out HA.out).mono ?_; rintro e w24 ⟨l3, hl, a24, c24, rfl, o24, b24⟩
          obtain rfl := HL2.out.uniq hl
          have R24 := Lib.hid (readsA_of_owns (f := Value.string) ByteArray.empty o24)
          replace GR := Lib.hid (GR.out.below b24); replace BB := Lib.hid (below_size BB.out b24); replace GR2 := Lib.hid (GR2.out.below b24)
          replace R23 := Lib.hid (R23.out.below b24)
          clear o24 hl b24 HL2
          go_wp2_with fail
          refine (texts_any _ _ _ _ _ _ l2 l2 _ R23.out R24.out).mono ?_; rintro e w25 ⟨rfl, b25⟩
          rw [decide_eq_true rfl]
          replace GR := Lib.hid (GR.out.below b25); replace BB := Lib.hid (below_size BB.out b25); replace GR2 := Lib.hid (GR2.out.below b25)
          clear R23 R24 b25
          go_wp2_with fail
          refine (log_any g2 gm2 M2 _ b _ GR2.out GD2.out HK8.out HB.out).mono ?_; rintro e w26 ⟨l4, hl, a26, c26, rfl, o26, b26⟩
          have R26 := Lib.hid (readsA_of_owns (f := Value.string) ByteArray.empty o26)
          have HL4 := Lib.hid (MO.out.log HIN.out.2.1 hl)
          replace GR := Lib.hid (GR.out.below b26); replace BB := Lib.hid (below_size BB.out b26); replace GR2 := Lib.hid (GR2.out.below b26)
          clear o26 hl b26
          go_wp2_with fail
          refine (log_any g gm M ns b _ GR.out GD.out HK.out HB.out).mono ?_; rintro e w27 ⟨l5, hl, a27, c27, rfl, o27, b27⟩
          obtain rfl := HL4.out.uniq hl
          have R27 := Lib.hid (readsA_of_owns (f := Value.string) ByteArray.empty o27)
          replace GR := Lib.hid (GR.out.below b27); replace BB := Lib.hid (below_size BB.out b27); replace GR2 := Lib.hid (GR2.out.below b27)
          replace R26 := Lib.hid (R26.out.below b27)
          clear o27 hl b27 HL4
          go_wp2_with fail
          refine (texts_any _ _ _ _ _ _ l4 l4 _ R26.out R27.out).mono ?_; rintro e w28 ⟨rfl, b28⟩
          rw [decide_eq_true rfl]
          replace GR := Lib.hid (GR.out.below b28); replace BB := Lib.hid (below_size BB.out b28); replace GR2 := Lib.hid (GR2.out.below b28)
          clear R26 R27 b28
          have hlm : (moreL ns a b key s).length = ns.length + 1 := by simp [moreL]
          go_wp2_with fail
          refine (len_any g2 gm2 M2 _ _ GR2.out).mono ?_; rintro e w29 ⟨rfl, rfl⟩
          rw [hlm]
          go_wp2_with fail
          refine (len_any g gm M ns _ GR.out).mono ?_; rintro e w30 ⟨rfl, rfl⟩
          go_wp2_with fail
          go_ret
          exact ⟨rfl, BB.out⟩
  · as_aux_lemma =>
      obtain rfl := hv0 hc
      go_wp2_with fail
      refine (first_any _).mono ?_; rintro e w4 ⟨rfl, b4⟩
      go_wp2_with fail
      go_ret
      refine ⟨?_, below_size BB.out b4⟩
      show Ending.returned (.bool (c != 0)) = _
      rw [show (c != 0) = true by simpa using hc]
end Go.Proofs.Ytdjbmjkfpmchgaa
