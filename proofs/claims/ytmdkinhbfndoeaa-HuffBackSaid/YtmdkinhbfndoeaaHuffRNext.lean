/-
  aquref5's New and Next.
-/
import Derived.Test.YtmdkinhbfndoeaaHuffNext
import Derived.Test.YtmdkinhbfndoeaaHuffPrefixW
namespace Go.Proofs.Ytmdkinhbfndoeaa
open Go.RowKit

theorem rnew_no1 (a : Option Addr) (n cap : Nat) (ls : List Int) (w : World) (hr : Reads .i64 w a n cap ls) (h64 : is64 ls) (hk : ¬ lensOk ls) :
    Calls Try.prog 21 #[.slice a n cap] w fun e w' => e = .returned (.tuple #[.pointer Option.none, .int .i64 1]) ∧ w' = w := by
  go_enter Try.func21, Try.ntmps21
  go_wp2_with fail
  refine (rcodes_no1 a n cap ls _ hr h64 hk).mono ?_; rintro e w1 ⟨rfl, rfl⟩
  go_wp2_with fail
  go_ret2
  exact ⟨rfl, rfl⟩
theorem rnew_no4 (a : Option Addr) (n cap : Nat) (ls : List Int) (w : World) (hr : Reads .i64 w a n cap ls) (h64 : is64 ls) (hk : lensOk ls) (hf : 32768 < krS ls) :
    Calls Try.prog 21 #[.slice a n cap] w fun e w' => e = .returned (.tuple #[.pointer Option.none, .int .i64 4]) ∧ w' = w := by
  go_enter Try.func21, Try.ntmps21
  go_wp2_with fail
  refine (rcodes_no4 a n cap ls _ hr h64 hk hf).mono ?_; rintro e w1 ⟨rfl, rfl⟩
  go_wp2_with fail
  go_ret2
  exact ⟨rfl, rfl⟩
/-- The reference's decoder. -/
structure RDec (w : World) (gx gc n cap : Nat) (ls : List Int) : Prop where
  lt : gx < w.heap.size
  c0 : w.cell? ⟨gx, 0, Option.none⟩ = some (.slice (some ⟨gc, 0, Option.none⟩) n cap)
  row : ∃ B, CRow w B 41 gc n cap (codeAt ls)
theorem RDec.below {w w' : World} {gx gc n cap : Nat} {ls : List Int} (h : RDec w gx gc n cap ls) (hb : Below w.heap.size w w') : RDec w' gx gc n cap ls :=
  ⟨Nat.lt_of_lt_of_le h.lt hb.size, (hb.cell (p := ⟨gx, 0, Option.none⟩) h.lt).trans h.c0, by obtain ⟨B, r⟩ := h.row; exact ⟨B, r.below hb⟩⟩
theorem CRow.keep {w w' : World} {B g n cap : Nat} {T : TypeId} {c : Nat → Int × Int} (h : CRow w B T g n cap c) (e : w'.heap[g]? = w.heap[g]?) : CRow w' B T g n cap c := by
  obtain ⟨vs, ⟨hl, h1⟩, hv⟩ := h
  refine ⟨vs, ⟨hl, ?_⟩, hv⟩
  rcases h1 with h1 | ⟨g', c', cur, e1, hb, hg, r⟩
  · exact .inl h1
  · refine .inr ⟨g', c', cur, e1, hb, ?_, r⟩
    have : g = g' := by simp at e1; exact e1.1
    subst this
    exact e.trans hg
theorem RDec.only {w w' : World} {gx gc n cap g : Nat} {ls : List Int} (h : RDec w gx gc n cap ls) (ho : Only g w w') (h1 : gx ≠ g) (h2 : gc ≠ g) : RDec w' gx gc n cap ls := by
  obtain ⟨B, r⟩ := h.row
  exact ⟨Nat.lt_of_lt_of_le h.lt ho.1.size, (World.cell?_of_block (a := ⟨gx, 0, Option.none⟩) (ho.1.block gx h.lt h1)).trans h.c0, B, r.keep (ho.1.block gc r.lt.2 h2)⟩
/-- What New answers where there are codes. -/
def RNewIs (ls : List Int) (w : World) (e : Ending) (w' : World) : Prop :=
  Below w.heap.size w w' ∧ ((offN ls 16 = 0 ∧ e = .returned (.tuple #[.pointer Option.none, .int .i64 4])) ∨
    (0 < offN ls 16 ∧ ∃ gx gc cap, w.heap.size ≤ gx ∧ w.heap.size ≤ gc ∧ e = .returned (.tuple #[.pointer (some ⟨gx, 0, Option.none⟩), .int .i64 0]) ∧ RDec w' gx gc ls.length cap ls))
theorem offN_pos (ls : List Int) (i : Nat) (hk : lensOk ls) (hi : i < ls.length) (h : 0 < ls.getD i 0) : 0 < offN ls 16 := by
  have hx := hk.2 (ls.getD i 0) (by simp [List.getD, hi])
  obtain ⟨y, hy⟩ := Int.eq_ofNat_of_zero_le hx.1
  have := posN_lt ls i y hi hy (by omega) (by omega)
  omega
theorem offN_zero (ls : List Int) (h : ∀ i, i < ls.length → ¬ 0 < ls.getD i 0) : offN ls 16 = 0 := by
  rw [offN_le, List.length_eq_zero_iff, List.filter_eq_nil_iff]
  intro x hx
  obtain ⟨i, hi, e⟩ := List.getElem_of_mem hx
  have := h i hi
  refine lowB_no fun hh => this ?_
  simp [List.getD, hi, e]
  exact hh.1

set_option maxRecDepth 100000 in
set_option maxHeartbeats 4000000 in
theorem rnew_yes (a : Option Addr) (n cap : Nat) (ls : List Int) (w : World) (hr : Reads .i64 w a n cap ls) (h64 : is64 ls) (hk : lensOk ls) (hf : krS ls ≤ 32768) :
    Calls Try.prog 21 #[.slice a n cap] w (RNewIs ls w) := by
  have HK := Lib.hid hk; have HL := Lib.hid hr.len
  have hn : n ≤ 300 := by have := hk.1; have := hr.len; omega
  go_enter Try.func21, Try.ntmps21
  go_wp2_with fail
  refine (rcodes_yes a n cap ls _ hr h64 hk hf).mono ?_; rintro e w1 ⟨g, k, rfl, C, b1⟩
  rw [HL.out] at C ⊢
  have HC := Lib.hid C; have B := Lib.hid b1
  clear C b1 h64 hf hr hk
  go_wp2_with fail
  go_loopw [6] (fun vi wr => ∃ i : Nat, i ≤ n ∧ vi = .int .i64 i ∧ wr = w1 ∧ Hid (∀ j, j < i → ¬ 0 < ls.getD j 0)) (fun vi _ => n - (intOf vi).toNat)
  case atStart => exact ⟨0, Nat.zero_le _, rfl, rfl, Lib.hid fun j h => absurd h (by omega)⟩
  case round =>
    obtain ⟨i, hi, rfl, rfl, H⟩ := hrel
    by_cases hlt : i < n
    · have i1 : (i : Int) < n := by omega
      have e1 := HC.out.c1 i hlt
      have hx := HK.out.2 (ls.getD i 0) (by simp [List.getD, HL.out, hlt])
      by_cases hp : 0 < ls.getD i 0
      · have hc : (codeAt ls i).2 = ls.getD i 0 := by unfold codeAt; rw [if_pos hp]
        rw [hc] at e1
        have HO := Lib.hid (offN_pos ls i HK.out (by rw [HL.out]; exact hlt) hp)
        clear hx hc
        generalize ls.getD i 0 = x at *
        go_wp2_with fail
        go_ret2
        have hcl := HC.out.lt
        have hb : Below wr.heap.size wr (wr.alloc (.cells #[.slice (some ⟨g, 0, Option.none⟩) n k] 86)) := (Below.refl _ _).alloc (Nat.le_refl _) _
        have hh : (wr.alloc (.cells #[.slice (some ⟨g, 0, Option.none⟩) n k] 86)).heap[wr.heap.size]? = some (.cells #[.slice (some ⟨g, 0, Option.none⟩) n k] 86) := by
          show (wr.heap.push _)[wr.heap.size]? = _
          simp
        refine ⟨below_size B.out hb, .inr ⟨HO.out, wr.heap.size, g, k, B.out.size, hcl.1, rfl, ⟨by simp, ?_, w.heap.size, ?_⟩⟩⟩
        · rw [HL.out]; unfold World.cell?; rw [hh]; rfl
        · rw [HL.out]; exact HC.out.below hb
      · have hc : (codeAt ls i).2 = 0 := by unfold codeAt; rw [if_neg hp]
        rw [hc] at e1
        clear hx hc
        go_wp2_with fail
        go_roundw
        case rel =>
          refine ⟨i + 1, by omega, by go_num, by first | rfl | trivial, Lib.hid fun j hj => ?_⟩
          by_cases e : j = i
          · rw [e]; exact hp
          · exact H.out j (by omega)
        case measure => simp [intOf]; omega
    · have i1 : ¬ (i : Int) < n := by omega
      go_wp2_with fail
      go_ret2
      exact ⟨B.out, .inl ⟨offN_zero ls fun j hj => by
        have h3 := H.out j (by have := HL.out; omega)
        omega, rfl⟩⟩
/-- What the reference's Next answers. -/
def RNexted (ls : List Int) (V p g : Nat) (a : Option Addr) (m cap : Nat) (w : World) (e : Ending) (w' : World) : Prop :=
  ∃ v er q, e = .returned (.tuple #[.int .i64 v, .int .i64 er]) ∧ NextIs ls V (8 * m) p v er q ∧ RRd w' g a m cap q ∧ Only g w w'

set_option maxRecDepth 100000 in
set_option maxHeartbeats 4000000 in
theorem rnext_any (gx gc n kc g : Nat) (a : Option Addr) (m cap : Nat) (ls xs : List Int) (V p : Nat) (w : World) (hd : RDec w gx gc n kc ls) (hln : ls.length = n) (hw : RRd w g a m cap p) (hr : Reads .u8 w a m cap xs) (hb : isB xs) (hne : 0 < m → ∀ b, a = some b → b.block ≠ g) (hV : rlit xs = (V : Int)) (hp : p ≤ 8 * m) (hk : lensOk ls) (hf : krS ls ≤ 32768) (h1 : gx ≠ g) (h2 : gc ≠ g) :
    Calls Try.prog 24 #[.pointer (some ⟨gx, 0, Option.none⟩), .pointer (some ⟨g, 0, Option.none⟩)] w
      (RNexted ls V p g a m cap w) := by
  have HD := Lib.hid hd; have HW := Lib.hid hw; have HV := Lib.hid hV; have HK := Lib.hid hk; have HF := Lib.hid hf; have HP := Lib.hid hp
  have HR := Lib.hid hr; have HB := Lib.hid hb; have HNE := Lib.hid hne; have HLN := Lib.hid hln
  have H1 := Lib.hid h1; have H2 := Lib.hid h2
  have hn300 : n ≤ 300 := by have := hk.1; omega
  clear hd hw hV hk hf h1 h2 hp hr hb hne hln
  go_enter Try.func24, Try.ntmps24
  go_wp2_with fail
  go_loopw [6, 7] (fun vc vn wr => ∃ l : Nat, l ≤ 15 ∧ vn = .int .i64 ((l : Int) + 1) ∧ vc = .int .u32 (codeOf V p l : Nat) ∧ Hid (NoHit ls V p l ∧ p + l ≤ 8 * m ∧ RRd wr g a m cap (p + l) ∧ Only g w wr)) (fun _ vn _ => 17 - (intOf vn).toNat)
  case atStart => exact ⟨0, Nat.zero_le _, rfl, rfl, Lib.hid ⟨noHit_zero _ _ _, HP.out, HW.out, Only.refl _ _⟩⟩
  case round =>
    obtain ⟨l, hl, rfl, rfl, H⟩ := hrel
    by_cases hlt : l < 15
    · have i1 : (l : Int) + 1 ≤ 15 := by omega
      by_cases hsh : 8 * m - (p + l) < 1
      · go_wp2_with fail
        refine (rget_short 1 H.out.2.2.1 (by decide) hsh).mono ?_; rintro e w2 ⟨rfl, k, rfl⟩
        go_wp2_with fail
        go_ret2
        obtain ⟨a1, b, c, d⟩ := H.out
        exact ⟨0, 2, p + l, rfl, ⟨l, a1, .inl ⟨hlt, by omega, rfl, rfl, rfl⟩⟩, c.drewN k, d.drewN k⟩
      · have HLE := Lib.hid (show p + l + 1 ≤ 8 * m by omega)
        clear hsh
        have hcb := codeOf_lt V p l
        have hc15 : (2 : Nat) ^ l ≤ 2 ^ 14 := Nat.pow_le_pow_right (by decide) (by omega)
        have hCS : codeOf V p (l + 1) = 2 * codeOf V p l + V / 2 ^ (p + l) % 2 := rfl
        have hG := rget_yes 1 V H.out.2.2.1 (HR.out.onlyPos H.out.2.2.2 HNE.out) HB.out HV.out (by decide) HLE.out
        unfold RGot at hG
        rw [Nat.pow_one] at hG
        have hbl : V / 2 ^ (p + l) % 2 < 2 := Nat.mod_lt _ (by decide)
        have HCS := Lib.hid hCS
        clear hCS
        generalize codeOf V p l = c at *
        generalize V / 2 ^ (p + l) % 2 = b at *
        have hor : bits .or .u32 ((c : Int) * 2) (b : Int) = ((2 * c + b : Nat) : Int) := by
          rw [or_join_u32 1 _ _ (by omega) (by omega) (by omega) (by omega) (by omega) (by omega)]; omega
        have hcb2 : c ≤ 16384 := by omega
        have HG := Lib.hid hG
        clear hG hcb hc15
        go_wp2_with fail
        refine HG.out.mono ?_; rintro e w2 ⟨rfl, hr2, ho2⟩
        have HR2 := Lib.hid hr2; have HO2 := Lib.hid (H.out.2.2.2.trans ho2)
        have HD2 := Lib.hid (HD.out.only HO2.out H1.out H2.out)
        clear hr2 ho2
        go_upto_region 9 with (fail)
        clear hor
        obtain ⟨d, hdd⟩ : ∃ d, 2 * c + b = d := ⟨_, rfl⟩
        rw [show 2 * (c : Int) + (b : Int) = (d : Int) by omega]
        rw [hdd] at HCS
        clear hdd hbl hcb2 HG
        go_wp2_with fail
        go_loopw [10] (fun vi wz => ∃ i : Nat, i ≤ n ∧ vi = .int .i64 i ∧ wz = w2 ∧ Hid (∀ j, j < i → ¬ Hit ls V p (l + 1) j)) (fun vi _ => n - (intOf vi).toNat)
        case atStart => exact ⟨0, Nat.zero_le _, rfl, rfl, Lib.hid fun j h => absurd h (by omega)⟩
        case round =>
          obtain ⟨i, hi, rfl, rfl, HI⟩ := hrel
          have g0 := HD2.out.c0
          by_cases hin : i < n
          · have i2 : (i : Int) < n := by omega
            obtain ⟨B0, hrow⟩ := HD2.out.row
            have e0 := hrow.c0 i hin; have e1 := hrow.c1 i hin
            have hx := HK.out.2 (ls.getD i 0) (by simp [List.getD, HLN.out, hin])
            clear hrow
            by_cases he : ls.getD i 0 = (l : Int) + 1
            · have hca := codeAt_num ls i (l + 1) (by rw [he]; rfl) (by omega)
              rw [hca] at e0 e1
              have HE := Lib.hid he
              have q1 : (((l + 1 : Nat) : Int) == (l : Int) + 1) = true := by simp
              have q3 : ((l : Int) + 1 == (l : Int) + 1) = true := by simp
              clear hca he hx
              by_cases hc : codeN ls i = d
              · rw [hc] at e0
                have q2 : ((d : Int) == (d : Int)) = true := by simp
                have HC := Lib.hid hc
                clear hc
                go_wp2_with fail
                go_ret2
                obtain ⟨a1, _, _, _⟩ := H.out
                exact ⟨(i : Int), 0, p + l + 1, rfl, ⟨l, a1, .inr (.inr ⟨hlt, HLE.out, rfl, rfl, i, ⟨by rw [HLN.out]; exact hin, HE.out, by rw [HC.out, HCS.out]⟩, rfl⟩)⟩, HR2.out, HO2.out⟩
              · have q5 : ¬ (codeN ls i : Int) = (d : Int) := by omega
                have q2 : ((codeN ls i : Int) == (d : Int)) = false := beq_eq_false_iff_ne.2 q5
                have q4 : (codeN ls i == d) = false := beq_eq_false_iff_ne.2 hc
                have HC : Hid (¬ Hit ls V p (l + 1) i) := Lib.hid fun h => hc (h.2.2.trans HCS.out)
                generalize codeN ls i = cc at *
                clear hc
                go_wp2_with fail
                go_roundw
                case rel =>
                  refine ⟨i + 1, by omega, by go_num, by first | rfl | trivial, Lib.hid fun j hj => ?_⟩
                  by_cases e : j = i
                  · rw [e]; exact HC.out
                  · exact HI.out j (by omega)
                case measure => simp [intOf]; omega
            · have hca : ((codeAt ls i).2 == (l : Int) + 1) = false := by
                rw [codeAt_len ls i hx.1]; simpa using he
              have hca2 : ¬ (codeAt ls i).2 = (l : Int) + 1 := by rw [codeAt_len ls i hx.1]; exact he
              have HE := Lib.hid he
              clear he hx
              generalize (codeAt ls i).1 = c0 at *
              generalize (codeAt ls i).2 = c1 at *
              go_wp2_with fail
              go_roundw
              case rel =>
                refine ⟨i + 1, by omega, by go_num, by first | rfl | trivial, Lib.hid fun j hj => ?_⟩
                by_cases e : j = i
                · subst e
                  rintro ⟨_, h2, _⟩
                  exact HE.out (by rw [h2]; rfl)
                · exact HI.out j (by omega)
              case measure => simp [intOf]; omega
          · have i2 : ¬ (i : Int) < n := by omega
            go_wp2_with fail
            go_roundw
            case rel =>
              obtain ⟨a1, _, _, _⟩ := H.out
              refine ⟨l + 1, by omega, by go_num, ?_, Lib.hid ⟨noHit_succ a1 fun j hj => ?_, HLE.out, HR2.out, HO2.out⟩⟩
              · rw [HCS.out]
              · by_cases e : j < i
                · exact HI.out j e hj
                · have := hj.1; have := HLN.out; omega
            case measure => simp [intOf]; omega
    · have hlt' : ¬ (l : Int) + 1 ≤ 15 := by omega
      go_wp2_with fail
      go_ret2
      obtain ⟨a1, b, c, d⟩ := H.out
      have hl15 : l = 15 := by omega
      rw [hl15] at b c
      exact ⟨0, 4, p + 15, rfl, ⟨l, a1, .inr (.inl ⟨hl15, rfl, rfl, rfl, b⟩)⟩, c, d⟩
end Go.Proofs.Ytmdkinhbfndoeaa
