/-
  The walk of DagAsks.
-/
import Derived.Test.YtdjbmjkfpmchgaaDagRGraph
import Derived.Test.YtdjbmjkfpmchgaaDagWalkLogs
namespace Go.Proofs.Ytdjbmjkfpmchgaa
open Go.RowKit Go.Maps

set_option maxRecDepth 100000 in
set_option maxHeartbeats 8000000 in
theorem walk_DagAsks (al : Option Addr) (n cap : Nat) (ns : List Nd) (a b : ByteArray) (w : World) (hk : Keyable ns) (hP : ∀ nd ∈ ns, nd.ps.length ≤ 1048576) (hr : NdL w al n cap ns) (ha : a.size ≤ maxLen) (hb : b.size ≤ maxLen) :
    Calls Try.prog 3 #[.slice al n cap, .string a, .string b] w fun e w' => e = .returned (.bool true) ∧ Below w.heap.size w w' := by
  have HR := Lib.hid hr; have HK := Lib.hid hk; have HP := Lib.hid hP
  have ha' : (a.size : Int) ≤ 9223372036854775807 := by unfold maxLen at ha; omega
  have hb' : (b.size : Int) ≤ 9223372036854775807 := by unfold maxLen at hb; omega
  have HA := Lib.hid ha; have HB := Lib.hid hb
  have h63 := hr.n63
  clear hr hk ha hb hP
  go_enter Try.func3, Try.ntmps3
  go_wp2_with fail
  refine (first_any _).mono ?_; rintro e w1 ⟨rfl, b1⟩
  replace HR := Lib.hid (HR.out.below b1)
  have BB := Lib.hid b1
  clear b1
  go_wp2_with fail
  refine (few_any _ _ _ _ _ HR.out).mono ?_; rintro e w2 ⟨⟨bf, rfl, hbf⟩, q, rfl⟩
  replace HR := Lib.hid (HR.out.below (below_drewN (Below.refl _ _) q))
  replace BB := Lib.hid (below_drewN BB.out q)
  generalize w1.drewN q = w2 at *
  cases bf with
  | false =>
    go_wp2_with fail
    refine (first_any _).mono ?_; rintro e w3 ⟨rfl, b3⟩
    go_wp2_with fail
    go_ret
    exact ⟨rfl, below_size BB.out b3⟩
  | true =>
  have h60 := hbf rfl
  by_cases hla : 1000 < a.size
  · have hla' : (1000 : Int) < a.size := by omega
    go_wp2_with fail
    refine (first_any _).mono ?_; rintro e w3 ⟨rfl, b3⟩
    go_wp2_with fail
    go_ret
    exact ⟨rfl, below_size BB.out b3⟩
  have hla' : ¬ (1000 : Int) < a.size := by omega
  by_cases hlb : 1000 < b.size
  · have hlb' : (1000 : Int) < b.size := by omega
    go_wp2_with fail
    refine (first_any _).mono ?_; rintro e w3 ⟨rfl, b3⟩
    go_wp2_with fail
    go_ret
    exact ⟨rfl, below_size BB.out b3⟩
  have hlb' : ¬ (1000 : Int) < b.size := by omega
  go_wp2_with fail
  refine (graph_any _ _ _ _ _ HR.out HK.out HP.out h60).mono ?_; rintro e w3 ⟨v, v2, c, rfl, hn, hv0, hv, b3⟩
  replace BB := Lib.hid (below_size BB.out b3)
  have hpb : ∀ x, (psOf ns x).length ≤ 1048576 := fun x => by
    by_cases hx : x ∈ keysOf ns
    · exact HP.out _ (ndOf_in hx).1
    · unfold psOf; rw [ndOf_out hx]; exact Nat.zero_le _
  clear b3 hla hla' hlb hlb' hbf
  by_cases hc : c = 0
  · subst hc
    obtain ⟨⟨g, gm, M, rfl, gr⟩, h, a2, n2, cap2, rfl, rr⟩ := hv rfl
    have GR := Lib.hid gr; have RR := Lib.hid rr; have GD := Lib.hid (good_new hn)
    have PB := Lib.hid hpb
    clear hn hv hv0 gr rr hpb
    go_wp2_with fail
    refine (base_any g gm M ns a b _ GR.out GD.out HK.out HA.out HB.out).mono ?_; rintro e w4 ⟨x, c, rfl, h1, b4⟩
    replace GR := Lib.hid (GR.out.below b4); replace RR := Lib.hid (RR.out.below b4); replace BB := Lib.hid (below_size BB.out b4)
    have BI := Lib.hid h1
    clear h1 b4
    go_wp2_with fail
    refine (rbase_any h n2 cap2 a2 ns a b _ RR.out GD.out PB.out).mono ?_; rintro e w5 ⟨y, d, rfl, h1, b5⟩
    obtain ⟨e1, e2⟩ := BI.out.uniq h1
    subst e1; subst e2
    replace GR := Lib.hid (GR.out.below b5); replace RR := Lib.hid (RR.out.below b5); replace BB := Lib.hid (below_size BB.out b5)
    clear h1 b5 BI
    go_wp2_with fail
    refine (first_any _).mono ?_; rintro e w6 ⟨rfl, b6⟩
    replace GR := Lib.hid (GR.out.below b6); replace RR := Lib.hid (RR.out.below b6); replace BB := Lib.hid (below_size BB.out b6)
    clear b6
    go_wp2_with fail
    refine (len_any g gm M ns _ GR.out).mono ?_; rintro e w7 ⟨rfl, rfl⟩
    go_wp2_with fail
    refine (glen_any h n2 cap2 a2 ns _ RR.out).mono ?_; rintro e w7 ⟨rfl, rfl⟩
    go_wp2_with fail
    refine (has_any g gm M ns a _ GR.out HA.out).mono ?_; rintro e w8 ⟨rfl, b8⟩
    replace GR := Lib.hid (GR.out.below b8); replace RR := Lib.hid (RR.out.below b8); replace BB := Lib.hid (below_size BB.out b8)
    clear b8
    have heq : ∀ q : Bool, (q == q) = true := fun q => by cases q <;> rfl
    generalize hda : decide (a ∈ keysOf ns) = da
    have HDA := Lib.hid hda
    clear hda
    go_wp2_with fail
    refine (ghas_any h n2 cap2 a2 ns a _ RR.out).mono ?_; rintro e w9 ⟨rfl, rfl⟩
    rw [HDA.out]
    cases da <;> (
      go_wp2_with fail
      refine (anc_any g gm M ns a _ GR.out GD.out HK.out HA.out).mono ?_; rintro e w10 ⟨l, hl, a10, c10, rfl, o10, b10⟩
      have R10 := Lib.hid (readsA_of_owns (f := Value.string) ByteArray.empty o10)
      have HL := Lib.hid hl
      replace GR := Lib.hid (GR.out.below b10); replace RR := Lib.hid (RR.out.below b10); replace BB := Lib.hid (below_size BB.out b10)
      clear o10 hl b10
      go_wp2_with fail
      refine (ranc_any h n2 cap2 a2 ns a _ RR.out GD.out PB.out).mono ?_; rintro e w11 ⟨l2, hl, a11, c11, rfl, o11, b11⟩
      have hll := HL.out.uniq hl
      subst hll
      have R11 := Lib.hid (readsA_of_owns (f := Value.string) ByteArray.empty o11)
      replace GR := Lib.hid (GR.out.below b11); replace RR := Lib.hid (RR.out.below b11); replace BB := Lib.hid (below_size BB.out b11); replace R10 := Lib.hid (R10.out.below b11)
      clear o11 hl b11 HL
      go_wp2_with fail
      refine (texts_any _ _ _ _ _ _ l l _ R10.out R11.out).mono ?_; rintro e w12 ⟨rfl, b12⟩
      rw [decide_eq_true rfl]
      replace GR := Lib.hid (GR.out.below b12); replace RR := Lib.hid (RR.out.below b12); replace BB := Lib.hid (below_size BB.out b12)
      clear R10 R11 b12
      go_wp2_with fail
      refine (is_any g gm M ns a b _ GR.out GD.out HK.out HB.out).mono ?_; rintro e w13 ⟨rfl, b13⟩
      replace GR := Lib.hid (GR.out.below b13); replace RR := Lib.hid (RR.out.below b13); replace BB := Lib.hid (below_size BB.out b13)
      clear b13
      go_wp2_with fail
      refine (ris_any h n2 cap2 a2 ns a b _ RR.out GD.out PB.out).mono ?_; rintro e w14 ⟨rfl, b14⟩
      replace GR := Lib.hid (GR.out.below b14); replace RR := Lib.hid (RR.out.below b14); replace BB := Lib.hid (below_size BB.out b14)
      clear b14
      generalize ancB ns a b = ab at *
      cases ab <;> (
        go_wp2_with fail
        refine (log_any g gm M ns a _ GR.out GD.out HK.out HA.out).mono ?_; rintro e w15 ⟨k, hl, a15, c15, rfl, o15, b15⟩
        have R15 := Lib.hid (readsA_of_owns (f := Value.string) ByteArray.empty o15)
        have HL := Lib.hid hl
        replace GR := Lib.hid (GR.out.below b15); replace RR := Lib.hid (RR.out.below b15); replace BB := Lib.hid (below_size BB.out b15)
        clear o15 hl b15
        go_wp2_with fail
        refine (rlog_any h n2 cap2 a2 ns a _ RR.out GD.out PB.out).mono ?_; rintro e w16 ⟨k2, hl, a16, c16, rfl, o16, b16⟩
        have hll := HL.out.uniq hl
        subst hll
        have R16 := Lib.hid (readsA_of_owns (f := Value.string) ByteArray.empty o16)
        replace GR := Lib.hid (GR.out.below b16); replace RR := Lib.hid (RR.out.below b16); replace BB := Lib.hid (below_size BB.out b16); replace R15 := Lib.hid (R15.out.below b16)
        clear o16 hl b16 HL
        go_wp2_with fail
        refine (texts_any _ _ _ _ _ _ k k _ R15.out R16.out).mono ?_; rintro e w17 ⟨rfl, b17⟩
        rw [decide_eq_true rfl]
        replace BB := Lib.hid (below_size BB.out b17)
        have e3 := str_eq x
        go_wp2_with fail
        go_ret
        exact ⟨rfl, BB.out⟩))
  · obtain ⟨rfl, rfl⟩ := hv0 hc
    clear hn hv hv0 hpb
    go_wp2_with fail
    refine (first_any _).mono ?_; rintro e w4 ⟨rfl, b4⟩
    go_wp2_with fail
    go_ret
    exact ⟨rfl, below_size BB.out b4⟩
end Go.Proofs.Ytdjbmjkfpmchgaa
