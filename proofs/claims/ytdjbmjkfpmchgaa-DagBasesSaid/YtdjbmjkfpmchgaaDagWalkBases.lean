/-
  The walk of DagBases.
-/
import Derived.Test.YtdjbmjkfpmchgaaDagFirst
namespace Go.Proofs.Ytdjbmjkfpmchgaa
open Go.RowKit Go.Maps

theorem anyB (p q : List ByteArray) (i : Nat) (b : Bool) (hb : b = true ↔ ∃ j, j < i ∧ p.getD j ByteArray.empty ∈ q) : (b || decide (p.getD i ByteArray.empty ∈ q)) = true ↔ ∃ j, j < i + 1 ∧ p.getD j ByteArray.empty ∈ q := by
  rw [Bool.or_eq_true, decide_eq_true_eq, hb]
  constructor
  · rintro (⟨j, hj, h⟩ | h)
    · exact ⟨j, by omega, h⟩
    · exact ⟨i, by omega, h⟩
  · rintro ⟨j, hj, h⟩
    by_cases e : j = i
    · subst e; exact .inr h
    · exact .inl ⟨j, by omega, h⟩

set_option maxRecDepth 100000 in
set_option maxHeartbeats 8000000 in
theorem walk_DagBases (al : Option Addr) (n cap : Nat) (ns : List Nd) (a b : ByteArray) (w : World) (hk : Keyable ns) (hr : NdL w al n cap ns) (ha : a.size ≤ maxLen) (hb : b.size ≤ maxLen) :
    Calls Try.prog 4 #[.slice al n cap, .string a, .string b] w fun e w' => e = .returned (.bool true) ∧ Below w.heap.size w w' := by
  have HR := Lib.hid hr; have HK := Lib.hid hk
  have ha' : (a.size : Int) ≤ 9223372036854775807 := by unfold maxLen at ha; omega
  have hb' : (b.size : Int) ≤ 9223372036854775807 := by unfold maxLen at hb; omega
  have HA := Lib.hid ha; have HB := Lib.hid hb
  clear hr hk ha hb
  go_enter Try.func4, Try.ntmps4
  go_wp2_with fail
  refine (first_any _).mono ?_; rintro e w1 ⟨rfl, b1⟩
  replace HR := Lib.hid (HR.out.below b1)
  have BB := Lib.hid b1
  clear b1
  go_wp2_with fail
  refine (few_any _ _ _ _ _ HR.out).mono ?_; rintro e w2 ⟨⟨bf, rfl, hbf⟩, q, rfl⟩
  replace HR := Lib.hid (HR.out.below (below_drewN (Below.refl _ _) q))
  replace BB := Lib.hid (below_drewN BB.out q)
  generalize w1.drewN q = w2 at *
  cases bf with
  | false =>
    go_wp2_with fail
    refine (first_any _).mono ?_; rintro e w3 ⟨rfl, b3⟩
    go_wp2_with fail
    go_ret
    exact ⟨rfl, below_size BB.out b3⟩
  | true =>
  by_cases hla : 1000 < a.size
  · have hla' : (1000 : Int) < (a.size : Int) := by omega
    go_wp2_with fail
    refine (first_any _).mono ?_; rintro e w3 ⟨rfl, b3⟩
    go_wp2_with fail
    go_ret
    exact ⟨rfl, below_size BB.out b3⟩
  have hla' : ¬ (1000 : Int) < (a.size : Int) := by omega
  by_cases hlb : 1000 < b.size
  · have hlb' : (1000 : Int) < (b.size : Int) := by omega
    go_wp2_with fail
    refine (first_any _).mono ?_; rintro e w3 ⟨rfl, b3⟩
    go_wp2_with fail
    go_ret
    exact ⟨rfl, below_size BB.out b3⟩
  have hlb' : ¬ (1000 : Int) < (b.size : Int) := by omega
  go_wp2_with fail
  refine (new_any _ _ _ _ _ HR.out HK.out).mono ?_; rintro e w3 ⟨v, c, rfl, hn, hv0, hv, b3⟩
  replace BB := Lib.hid (below_size BB.out b3)
  clear b3 hla hla' hlb hlb' hbf
  by_cases hc : c = 0
  · subst hc
    obtain ⟨g, gm, M, rfl, gr⟩ := hv rfl
    have good : Good ns := by
      rcases hn with ⟨_, h⟩ | ⟨_, _, h⟩ | ⟨_, _, _, h⟩ | ⟨_, _, _, _, h⟩ | ⟨h, _⟩
      · cases h
      · cases h
      · cases h
      · cases h
      · exact h
    have GR := Lib.hid gr; have GD := Lib.hid good
    clear hn hv0 hv gr good HR
    go_wp2_with fail
    refine (base_any g gm M ns a b _ GR.out GD.out HK.out HA.out HB.out).mono ?_; rintro e w4 ⟨x, f, rfl, hf, b4⟩
    replace GR := Lib.hid (GR.out.below b4); replace BB := Lib.hid (below_size BB.out b4)
    have HF := Lib.hid hf
    clear b4 hf
    go_wp2_with fail
    refine (base_any g gm M ns b a _ GR.out GD.out HK.out HB.out HA.out).mono ?_; rintro e w5 ⟨y, h, rfl, hh, b5⟩
    obtain ⟨rfl, rfl⟩ := HF.out.uniq hh.symm
    replace GR := Lib.hid (GR.out.below b5); replace BB := Lib.hid (below_size BB.out b5)
    clear b5 hh
    have hxx := str_eq x
    --MARK
    rcases HF.out with ⟨hne, ex, rfl⟩ | ⟨hin, hno, ex, rfl⟩ | ⟨hin, hba, rfl⟩
    · subst ex
      have HNone : Hid (∀ y, ¬ Both ns a b y) := Lib.hid (fun y hy => hne ⟨hy.1.1, hy.2.1⟩)
      have HNE := Lib.hid hne
      clear hne
      go_wp2_with fail
      refine (has_any g gm M ns a _ GR.out HA.out).mono ?_; rintro e w20 ⟨rfl, b20⟩
      replace GR := Lib.hid (GR.out.below b20); replace BB := Lib.hid (below_size BB.out b20)
      clear b20
      by_cases hina : a ∈ keysOf ns
      · rw [decide_eq_true hina]
        have hinb : b ∉ keysOf ns := fun h => HNE.out ⟨hina, h⟩
        have HIB := Lib.hid hinb
        clear hina hinb
        go_wp2_with fail
        refine (has_any g gm M ns b _ GR.out HB.out).mono ?_; rintro e w21 ⟨rfl, b21⟩
        replace GR := Lib.hid (GR.out.below b21); replace BB := Lib.hid (below_size BB.out b21)
        clear b21
        rw [decide_eq_false HIB.out]
        go_wp2_with fail
        refine (anc_any g gm M ns a _ GR.out GD.out HK.out HA.out).mono ?_; rintro e w6 ⟨p, hp, ap, cp, rfl, op, b6⟩
        replace GR := Lib.hid (GR.out.below b6); replace BB := Lib.hid (below_size BB.out b6)
        have PP := Lib.hid hp; have RP := Lib.hid (readsA_of_owns (f := Value.string) ByteArray.empty op)
        clear b6 hp op
        go_wp2_with fail
        refine (anc_any g gm M ns b _ GR.out GD.out HK.out HB.out).mono ?_; rintro e w7 ⟨qq, hq, aq, cq, rfl, oq, b7⟩
        replace GR := Lib.hid (GR.out.below b7); replace BB := Lib.hid (below_size BB.out b7); replace RP := Lib.hid (RP.out.below b7)
        have QQ := Lib.hid hq; have RQ := Lib.hid (readsA_of_owns (f := Value.string) ByteArray.empty oq)
        have h63 := RP.out.n63.1
        clear b7 hq oq
        go_wp2_with fail
        go_loopw [15, 16] (fun va vi wr => ∃ (any : Bool) (i : Nat), va = .bool any ∧ vi = .int .i64 i ∧ i ≤ p.length ∧ Hid (any = true ↔ ∃ j, j < i ∧ p.getD j ByteArray.empty ∈ qq) ∧ Hid (Below w7.heap.size w7 wr)) (fun _ vi _ => p.length - (intOf vi).toNat)
        case atStart => exact ⟨false, 0, rfl, rfl, Nat.zero_le _, Lib.hid ⟨(fun h => nomatch h), fun ⟨j, h, _⟩ => absurd h (by omega)⟩, Lib.hid (Below.refl _ _)⟩
        case round =>
          obtain ⟨any, i, rfl, rfl, hi, HAny, B9⟩ := hrel
          by_cases hlt : i < p.length
          · have i1 : (i : Int) < p.length := by omega
            have i2 : (0 : Int) ≤ i := by omega
            obtain ⟨b0, off, rfl, hb0, c0⟩ := (RP.out.below B9.out).cellAt i hlt
            have HAny2 := Lib.hid (fun bb (h : decide (p.getD i ByteArray.empty ∈ qq) = bb) => h ▸ anyB p qq i any HAny.out)
            have hmem : p.getD i ByteArray.empty ∈ p := getDS_mem hlt
            obtain ⟨z, hz⟩ : ∃ z, z = p.getD i ByteArray.empty := ⟨_, rfl⟩
            rw [← hz] at c0 HAny2 hmem
            have HM := Lib.hid hmem
            clear hz hb0 hmem
            have R9 := Lib.hid (RQ.out.below B9.out)
            go_wp2_with fail
            refine (rhas_any _ _ _ qq z _ R9.out).mono ?_; rintro e w10 ⟨rfl, rfl⟩
            by_cases hin : z ∈ qq
            · rw [decide_eq_true hin]
              have HA3 := Lib.hid (HAny2.out true (decide_eq_true hin))
              have HIN := Lib.hid hin
              clear hin
              exact absurd ⟨(PP.out.mem z).1 HM.out, (QQ.out.mem z).1 HIN.out⟩ (HNone.out z)
            · rw [decide_eq_false hin]
              have HA3 := Lib.hid (HAny2.out false (decide_eq_false hin))
              rw [Bool.or_false] at HA3
              clear hin
              cases any with
              | true =>
                have HA4 : Hid (true = true ↔ ∃ j, j < i + 1 ∧ p.getD j ByteArray.empty ∈ qq) := HA3
                go_wp2_with fail
                go_roundw
                case rel => exact ⟨true, i + 1, rfl, by go_num, by omega, Lib.hid (by have h4 := HA4.out; simp only [true_iff] at h4 ⊢; exact h4), B9⟩
                case measure => simp [intOf]; omega
              | false =>
                go_wp2_with fail
                go_roundw
                case rel => exact ⟨false, i + 1, rfl, by go_num, by omega, HA3, B9⟩
                case measure => simp [intOf]; omega
          · obtain rfl : i = p.length := by omega
            have i1 : ¬ (p.length : Int) < p.length := by omega
            have hany : any = false := by
              rw [← Bool.not_eq_true, HAny.out]
              rintro ⟨j, hj, h⟩
              exact HNone.out _ ⟨(PP.out.mem _).1 (getDS_mem hj), (QQ.out.mem _).1 h⟩
            subst hany
            replace BB := Lib.hid (below_size BB.out B9.out)
            clear hi hlt
            go_wp2_with fail
            refine (first_any _).mono ?_; rintro e w12 ⟨rfl, b12⟩
            go_wp2_with fail
            go_ret
            exact ⟨rfl, below_size BB.out b12⟩

      · rw [decide_eq_false hina]
        clear hina
        go_wp2_with fail
        refine (anc_any g gm M ns a _ GR.out GD.out HK.out HA.out).mono ?_; rintro e w6 ⟨p, hp, ap, cp, rfl, op, b6⟩
        replace GR := Lib.hid (GR.out.below b6); replace BB := Lib.hid (below_size BB.out b6)
        have PP := Lib.hid hp; have RP := Lib.hid (readsA_of_owns (f := Value.string) ByteArray.empty op)
        clear b6 hp op
        go_wp2_with fail
        refine (anc_any g gm M ns b _ GR.out GD.out HK.out HB.out).mono ?_; rintro e w7 ⟨qq, hq, aq, cq, rfl, oq, b7⟩
        replace GR := Lib.hid (GR.out.below b7); replace BB := Lib.hid (below_size BB.out b7); replace RP := Lib.hid (RP.out.below b7)
        have QQ := Lib.hid hq; have RQ := Lib.hid (readsA_of_owns (f := Value.string) ByteArray.empty oq)
        have h63 := RP.out.n63.1
        clear b7 hq oq
        go_wp2_with fail
        go_loopw [15, 16] (fun va vi wr => ∃ (any : Bool) (i : Nat), va = .bool any ∧ vi = .int .i64 i ∧ i ≤ p.length ∧ Hid (any = true ↔ ∃ j, j < i ∧ p.getD j ByteArray.empty ∈ qq) ∧ Hid (Below w7.heap.size w7 wr)) (fun _ vi _ => p.length - (intOf vi).toNat)
        case atStart => exact ⟨false, 0, rfl, rfl, Nat.zero_le _, Lib.hid ⟨(fun h => nomatch h), fun ⟨j, h, _⟩ => absurd h (by omega)⟩, Lib.hid (Below.refl _ _)⟩
        case round =>
          obtain ⟨any, i, rfl, rfl, hi, HAny, B9⟩ := hrel
          by_cases hlt : i < p.length
          · have i1 : (i : Int) < p.length := by omega
            have i2 : (0 : Int) ≤ i := by omega
            obtain ⟨b0, off, rfl, hb0, c0⟩ := (RP.out.below B9.out).cellAt i hlt
            have HAny2 := Lib.hid (fun bb (h : decide (p.getD i ByteArray.empty ∈ qq) = bb) => h ▸ anyB p qq i any HAny.out)
            have hmem : p.getD i ByteArray.empty ∈ p := getDS_mem hlt
            obtain ⟨z, hz⟩ : ∃ z, z = p.getD i ByteArray.empty := ⟨_, rfl⟩
            rw [← hz] at c0 HAny2 hmem
            have HM := Lib.hid hmem
            clear hz hb0 hmem
            have R9 := Lib.hid (RQ.out.below B9.out)
            go_wp2_with fail
            refine (rhas_any _ _ _ qq z _ R9.out).mono ?_; rintro e w10 ⟨rfl, rfl⟩
            by_cases hin : z ∈ qq
            · rw [decide_eq_true hin]
              have HA3 := Lib.hid (HAny2.out true (decide_eq_true hin))
              have HIN := Lib.hid hin
              clear hin
              exact absurd ⟨(PP.out.mem z).1 HM.out, (QQ.out.mem z).1 HIN.out⟩ (HNone.out z)
            · rw [decide_eq_false hin]
              have HA3 := Lib.hid (HAny2.out false (decide_eq_false hin))
              rw [Bool.or_false] at HA3
              clear hin
              cases any with
              | true =>
                have HA4 : Hid (true = true ↔ ∃ j, j < i + 1 ∧ p.getD j ByteArray.empty ∈ qq) := HA3
                go_wp2_with fail
                go_roundw
                case rel => exact ⟨true, i + 1, rfl, by go_num, by omega, Lib.hid (by have h4 := HA4.out; simp only [true_iff] at h4 ⊢; exact h4), B9⟩
                case measure => simp [intOf]; omega
              | false =>
                go_wp2_with fail
                go_roundw
                case rel => exact ⟨false, i + 1, rfl, by go_num, by omega, HA3, B9⟩
                case measure => simp [intOf]; omega
          · obtain rfl : i = p.length := by omega
            have i1 : ¬ (p.length : Int) < p.length := by omega
            have hany : any = false := by
              rw [← Bool.not_eq_true, HAny.out]
              rintro ⟨j, hj, h⟩
              exact HNone.out _ ⟨(PP.out.mem _).1 (getDS_mem hj), (QQ.out.mem _).1 h⟩
            subst hany
            replace BB := Lib.hid (below_size BB.out B9.out)
            clear hi hlt
            go_wp2_with fail
            refine (first_any _).mono ?_; rintro e w12 ⟨rfl, b12⟩
            go_wp2_with fail
            go_ret
            exact ⟨rfl, below_size BB.out b12⟩

    · subst ex
      have HNone : Hid (∀ y, ¬ Both ns a b y) := Lib.hid hno
      clear hin hno
      go_wp2_with fail
      refine (anc_any g gm M ns a _ GR.out GD.out HK.out HA.out).mono ?_; rintro e w6 ⟨p, hp, ap, cp, rfl, op, b6⟩
      replace GR := Lib.hid (GR.out.below b6); replace BB := Lib.hid (below_size BB.out b6)
      have PP := Lib.hid hp; have RP := Lib.hid (readsA_of_owns (f := Value.string) ByteArray.empty op)
      clear b6 hp op
      go_wp2_with fail
      refine (anc_any g gm M ns b _ GR.out GD.out HK.out HB.out).mono ?_; rintro e w7 ⟨qq, hq, aq, cq, rfl, oq, b7⟩
      replace GR := Lib.hid (GR.out.below b7); replace BB := Lib.hid (below_size BB.out b7); replace RP := Lib.hid (RP.out.below b7)
      have QQ := Lib.hid hq; have RQ := Lib.hid (readsA_of_owns (f := Value.string) ByteArray.empty oq)
      have h63 := RP.out.n63.1
      clear b7 hq oq
      go_wp2_with fail
      go_loopw [15, 16] (fun va vi wr => ∃ (any : Bool) (i : Nat), va = .bool any ∧ vi = .int .i64 i ∧ i ≤ p.length ∧ Hid (any = true ↔ ∃ j, j < i ∧ p.getD j ByteArray.empty ∈ qq) ∧ Hid (Below w7.heap.size w7 wr)) (fun _ vi _ => p.length - (intOf vi).toNat)
      case atStart => exact ⟨false, 0, rfl, rfl, Nat.zero_le _, Lib.hid ⟨(fun h => nomatch h), fun ⟨j, h, _⟩ => absurd h (by omega)⟩, Lib.hid (Below.refl _ _)⟩
      case round =>
        obtain ⟨any, i, rfl, rfl, hi, HAny, B9⟩ := hrel
        by_cases hlt : i < p.length
        · have i1 : (i : Int) < p.length := by omega
          have i2 : (0 : Int) ≤ i := by omega
          obtain ⟨b0, off, rfl, hb0, c0⟩ := (RP.out.below B9.out).cellAt i hlt
          have HAny2 := Lib.hid (fun bb (h : decide (p.getD i ByteArray.empty ∈ qq) = bb) => h ▸ anyB p qq i any HAny.out)
          have hmem : p.getD i ByteArray.empty ∈ p := getDS_mem hlt
          obtain ⟨z, hz⟩ : ∃ z, z = p.getD i ByteArray.empty := ⟨_, rfl⟩
          rw [← hz] at c0 HAny2 hmem
          have HM := Lib.hid hmem
          clear hz hb0 hmem
          have R9 := Lib.hid (RQ.out.below B9.out)
          go_wp2_with fail
          refine (rhas_any _ _ _ qq z _ R9.out).mono ?_; rintro e w10 ⟨rfl, rfl⟩
          by_cases hin : z ∈ qq
          · rw [decide_eq_true hin]
            have HA3 := Lib.hid (HAny2.out true (decide_eq_true hin))
            have HIN := Lib.hid hin
            clear hin
            exact absurd ⟨(PP.out.mem z).1 HM.out, (QQ.out.mem z).1 HIN.out⟩ (HNone.out z)
          · rw [decide_eq_false hin]
            have HA3 := Lib.hid (HAny2.out false (decide_eq_false hin))
            rw [Bool.or_false] at HA3
            clear hin
            cases any with
            | true =>
              have HA4 : Hid (true = true ↔ ∃ j, j < i + 1 ∧ p.getD j ByteArray.empty ∈ qq) := HA3
              go_wp2_with fail
              go_roundw
              case rel => exact ⟨true, i + 1, rfl, by go_num, by omega, Lib.hid (by have h4 := HA4.out; simp only [true_iff] at h4 ⊢; exact h4), B9⟩
              case measure => simp [intOf]; omega
            | false =>
              go_wp2_with fail
              go_roundw
              case rel => exact ⟨false, i + 1, rfl, by go_num, by omega, HA3, B9⟩
              case measure => simp [intOf]; omega
        · obtain rfl : i = p.length := by omega
          have i1 : ¬ (p.length : Int) < p.length := by omega
          have hany : any = false := by
            rw [← Bool.not_eq_true, HAny.out]
            rintro ⟨j, hj, h⟩
            exact HNone.out _ ⟨(PP.out.mem _).1 (getDS_mem hj), (QQ.out.mem _).1 h⟩
          subst hany
          replace BB := Lib.hid (below_size BB.out B9.out)
          clear hi hlt
          go_wp2_with fail
          refine (first_any _).mono ?_; rintro e w12 ⟨rfl, b12⟩
          go_wp2_with fail
          go_ret
          exact ⟨rfl, below_size BB.out b12⟩

    · have HBase : Hid (IsBase ns a b x) := Lib.hid hba
      clear hin hba
      go_wp2_with fail
      refine (anc_any g gm M ns a _ GR.out GD.out HK.out HA.out).mono ?_; rintro e w6 ⟨p, hp, ap, cp, rfl, op, b6⟩
      replace GR := Lib.hid (GR.out.below b6); replace BB := Lib.hid (below_size BB.out b6)
      have PP := Lib.hid hp; have RP := Lib.hid (readsA_of_owns (f := Value.string) ByteArray.empty op)
      clear b6 hp op
      go_wp2_with fail
      refine (anc_any g gm M ns b _ GR.out GD.out HK.out HB.out).mono ?_; rintro e w7 ⟨qq, hq, aq, cq, rfl, oq, b7⟩
      replace GR := Lib.hid (GR.out.below b7); replace BB := Lib.hid (below_size BB.out b7); replace RP := Lib.hid (RP.out.below b7)
      have QQ := Lib.hid hq; have RQ := Lib.hid (readsA_of_owns (f := Value.string) ByteArray.empty oq)
      have h63 := RP.out.n63.1
      clear b7 hq oq
      go_wp2_with fail
      go_loopw [15, 16] (fun va vi wr => ∃ (any : Bool) (i : Nat), va = .bool any ∧ vi = .int .i64 i ∧ i ≤ p.length ∧ Hid (any = true ↔ ∃ j, j < i ∧ p.getD j ByteArray.empty ∈ qq) ∧ Hid (Below w7.heap.size w7 wr)) (fun _ vi _ => p.length - (intOf vi).toNat)
      case atStart => exact ⟨false, 0, rfl, rfl, Nat.zero_le _, Lib.hid ⟨(fun h => nomatch h), fun ⟨j, h, _⟩ => absurd h (by omega)⟩, Lib.hid (Below.refl _ _)⟩
      case round =>
        obtain ⟨any, i, rfl, rfl, hi, HAny, B9⟩ := hrel
        by_cases hlt : i < p.length
        · have i1 : (i : Int) < p.length := by omega
          have i2 : (0 : Int) ≤ i := by omega
          obtain ⟨b0, off, rfl, hb0, c0⟩ := (RP.out.below B9.out).cellAt i hlt
          have HAny2 := Lib.hid (fun bb (h : decide (p.getD i ByteArray.empty ∈ qq) = bb) => h ▸ anyB p qq i any HAny.out)
          have hmem : p.getD i ByteArray.empty ∈ p := getDS_mem hlt
          obtain ⟨z, hz⟩ : ∃ z, z = p.getD i ByteArray.empty := ⟨_, rfl⟩
          rw [← hz] at c0 HAny2 hmem
          have HM := Lib.hid hmem
          clear hz hb0 hmem
          have R9 := Lib.hid (RQ.out.below B9.out)
          have hzs : z.size ≤ maxLen := keys_small HK.out (((PP.out.mem z).1 HM.out).2.there GD.out ((PP.out.mem z).1 HM.out).1)
          have G9 := Lib.hid (GR.out.below B9.out)
          go_wp2_with fail
          refine (rhas_any _ _ _ qq z _ R9.out).mono ?_; rintro e w10 ⟨rfl, rfl⟩
          by_cases hin : z ∈ qq
          · rw [decide_eq_true hin]
            have HA3 := Lib.hid (HAny2.out true (decide_eq_true hin))
            have HIN := Lib.hid hin
            clear hin
            by_cases hzx : z = x
            · subst hzx
              have hzz := str_eq z
              cases any with
              | true =>
                go_wp2_with fail
                go_roundw
                case rel => exact ⟨true, i + 1, rfl, by go_num, by omega, HA3, B9⟩
                case measure => simp [intOf]; omega
              | false =>
                go_wp2_with fail
                go_roundw
                case rel => exact ⟨true, i + 1, rfl, by go_num, by omega, HA3, B9⟩
                case measure => simp [intOf]; omega
            · have hzz := str_ne hzx
              have hnear : ancB ns x z = false := by
                rw [← Bool.not_eq_true, ancB_iff]
                exact fun hh => HBase.out.near GD.out ⟨(PP.out.mem z).1 HM.out, (QQ.out.mem z).1 HIN.out⟩ hzx hh.2
              have HNear := Lib.hid hnear
              clear hzx hnear
              cases any with
              | true =>
                go_wp2_with fail
                refine (is_any g gm M ns x z _ G9.out GD.out HK.out hzs).mono ?_; rintro e w11 ⟨rfl, b11⟩
                rw [HNear.out]
                go_wp2_with fail
                go_roundw
                case rel => exact ⟨true, i + 1, rfl, by go_num, by omega, HA3, Lib.hid (below_size B9.out b11)⟩
                case measure => simp [intOf]; omega
              | false =>
                go_wp2_with fail
                refine (is_any g gm M ns x z _ G9.out GD.out HK.out hzs).mono ?_; rintro e w11 ⟨rfl, b11⟩
                rw [HNear.out]
                go_wp2_with fail
                go_roundw
                case rel => exact ⟨true, i + 1, rfl, by go_num, by omega, HA3, Lib.hid (below_size B9.out b11)⟩
                case measure => simp [intOf]; omega
          · rw [decide_eq_false hin]
            have HA3 := Lib.hid (HAny2.out false (decide_eq_false hin))
            rw [Bool.or_false] at HA3
            clear hin
            cases any with
            | true =>
              have HA4 : Hid (true = true ↔ ∃ j, j < i + 1 ∧ p.getD j ByteArray.empty ∈ qq) := HA3
              go_wp2_with fail
              go_roundw
              case rel => exact ⟨true, i + 1, rfl, by go_num, by omega, Lib.hid (by have h4 := HA4.out; simp only [true_iff] at h4 ⊢; exact h4), B9⟩
              case measure => simp [intOf]; omega
            | false =>
              go_wp2_with fail
              go_roundw
              case rel => exact ⟨false, i + 1, rfl, by go_num, by omega, HA3, B9⟩
              case measure => simp [intOf]; omega
        · obtain rfl : i = p.length := by omega
          have i1 : ¬ (p.length : Int) < p.length := by omega
          have hany : any = true := HAny.out.2 (by
            obtain ⟨j, hj, e⟩ := mem_getDS ((PP.out.mem x).2 HBase.out.both.1)
            exact ⟨j, hj, by rw [e]; exact (QQ.out.mem x).2 HBase.out.both.2⟩)
          subst hany
          have RP9 := Lib.hid (RP.out.below B9.out); have RQ9 := Lib.hid (RQ.out.below B9.out)
          have G9 := Lib.hid (GR.out.below B9.out)
          replace BB := Lib.hid (below_size BB.out B9.out)
          have XP : x ∈ p := (PP.out.mem x).2 HBase.out.both.1
          have XQ : x ∈ qq := (QQ.out.mem x).2 HBase.out.both.2
          have KX := Lib.hid XP; have KQ := Lib.hid XQ
          have HE1 : Hid (ancB ns a b = true → x = a) := Lib.hid (fun h => HBase.out.elder GD.out ((ancB_iff ns a b).1 h).2)
          have HE2 : Hid (ancB ns b a = true → x = b) := Lib.hid (fun h => HBase.out.symm.elder GD.out ((ancB_iff ns b a).1 h).2)
          clear XP XQ hi hlt
          generalize wr = w9 at *
          go_wp2_with fail
          refine (first_any _).mono ?_; rintro e w12 ⟨rfl, b12⟩
          replace RP9 := Lib.hid (RP9.out.below b12); replace RQ9 := Lib.hid (RQ9.out.below b12); replace G9 := Lib.hid (G9.out.below b12); replace BB := Lib.hid (below_size BB.out b12)
          clear b12
          go_wp2_with fail
          refine (rhas_any _ _ _ p x _ RP9.out).mono ?_; rintro e w13 ⟨rfl, rfl⟩
          rw [decide_eq_true KX.out]
          go_wp2_with fail
          refine (rhas_any _ _ _ qq x _ RQ9.out).mono ?_; rintro e w13 ⟨rfl, rfl⟩
          rw [decide_eq_true KQ.out]
          go_wp2_with fail
          refine (is_any g gm M ns a b _ G9.out GD.out HK.out HB.out).mono ?_; rintro e w14 ⟨rfl, b14⟩
          replace G9 := Lib.hid (G9.out.below b14); replace BB := Lib.hid (below_size BB.out b14)
          clear b14
          generalize hq1 : ancB ns a b = q1 at *
          cases q1 with
          | false =>
            go_wp2_with fail
            refine (is_any g gm M ns b a _ G9.out GD.out HK.out HA.out).mono ?_; rintro e w15 ⟨rfl, b15⟩
            generalize hq2 : ancB ns b a = q2 at *
            cases q2 with
            | false =>
              go_wp2_with fail
              go_ret
              exact ⟨rfl, below_size BB.out b15⟩
            | true =>
              have e2 := HE2.out rfl
              have hxb : (x.toList == b.toList) = true := by rw [e2]; exact str_eq b
              clear e2
              go_wp2_with fail
              go_ret
              exact ⟨rfl, below_size BB.out b15⟩
          | true =>
            have e1 := HE1.out rfl
            have hxa : (x.toList == a.toList) = true := by rw [e1]; exact str_eq a
            clear e1
            go_wp2_with fail
            refine (is_any g gm M ns b a _ G9.out GD.out HK.out HA.out).mono ?_; rintro e w15 ⟨rfl, b15⟩
            generalize hq2 : ancB ns b a = q2 at *
            cases q2 with
            | false =>
              go_wp2_with fail
              go_ret
              exact ⟨rfl, below_size BB.out b15⟩
            | true =>
              have e2 := HE2.out rfl
              have hxb : (x.toList == b.toList) = true := by rw [e2]; exact str_eq b
              clear e2
              go_wp2_with fail
              go_ret
              exact ⟨rfl, below_size BB.out b15⟩

  · obtain rfl := hv0 hc
    go_wp2_with fail
    refine (first_any _).mono ?_; rintro e w4 ⟨rfl, b4⟩
    go_wp2_with fail
    go_ret
    exact ⟨rfl, below_size BB.out b4⟩
end Go.Proofs.Ytdjbmjkfpmchgaa
