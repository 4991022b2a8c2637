/-
  huff.Decoder's Next.
-/
import Derived.Test.YtmdkinhbfndoeaaHuffNew
import Derived.Test.YtmdkinhbfndoeaaBitsRRef
namespace Go.Proofs.Ytmdkinhbfndoeaa
open Go.RowKit

theorem Dec.only {w w' : World} {gd gs g : Nat} {ls : List Int} (h : Dec w gd gs ls) (ho : Only g w w') (h1 : gd ≠ g) (h2 : gs ≠ g) : Dec w' gd gs ls := by
  obtain ⟨S, k, s⟩ := h.syms
  exact ⟨h.dbox.keep (ho.1.block gd h.dbox.lt h1), S, k.keep (ho.1.block gs k.lt h2), s⟩

/-- What Next answers. -/
def Nexted (ls xs : List Int) (V p g : Nat) (w : World) (e : Ending) (w' : World) : Prop :=
  ∃ v er q, e = .returned (.tuple #[.int .i64 v, .int .i64 er]) ∧ NextIs ls V (8 * xs.length) p v er q ∧ Rdr w' g xs q ∧ Only g w w'

theorem endN_le (ls : List Int) (hk : lensOk ls) (hf : krS ls ≤ 32768) (m : Nat) (h : m ≤ 15) : endN ls m ≤ 32768 := by
  unfold endN
  split
  · omega
  · have := nextN_fits ls m (by omega) h hf
    unfold nextN at this
    have : (2 : Nat) ^ m ≤ 2 ^ 15 := Nat.pow_le_pow_right (by decide) h
    omega

set_option maxRecDepth 100000 in
set_option maxHeartbeats 4000000 in
theorem next_any (gd gs g : Nat) (ls xs : List Int) (V p : Nat) (w : World) (hd : Dec w gd gs ls) (hw : Rdr w g xs p) (hV : rlit xs = (V : Int)) (hp : p ≤ 8 * xs.length) (hk : lensOk ls) (hf : krS ls ≤ 32768) (h1 : gd ≠ g) (h2 : gs ≠ g) :
    Calls Try.prog 23 #[.pointer (some ⟨gd, 0, Option.none⟩), .pointer (some ⟨g, 0, Option.none⟩)] w (Nexted ls xs V p g w) := by
  have HD := Lib.hid hd; have HW := Lib.hid hw; have HV := Lib.hid hV; have HK := Lib.hid hk; have HF := Lib.hid hf; have HP := Lib.hid hp
  have H1 := Lib.hid h1; have H2 := Lib.hid h2
  clear hd hw hV hk hf h1 h2 hp
  go_enter Try.func23, Try.ntmps23
  go_wp2_with fail
  go_loopw [6, 7, 8, 9] (fun vc vf vs vn wr => ∃ m : Nat, m ≤ 15 ∧ vn = .int .i64 ((m : Int) + 1) ∧ vc = .int .i64 (codeOf V p m : Nat) ∧ vf = .int .i64 (endN ls m : Nat) ∧ vs = .int .i64 (offN ls (m + 1) : Nat) ∧ Hid (NoHit ls V p m ∧ endN ls m ≤ codeOf V p m ∧ p + m ≤ 8 * xs.length ∧ Rdr wr g xs (p + m) ∧ Only g w wr)) (fun _ _ _ vn _ => 17 - (intOf vn).toNat)
  case atStart => exact ⟨0, Nat.zero_le _, rfl, rfl, rfl, rfl, Lib.hid ⟨noHit_zero _ _ _, Nat.le_refl _, HP.out, HW.out, Only.refl _ _⟩⟩
  case round =>
    obtain ⟨m, hm, rfl, rfl, rfl, rfl, H⟩ := hrel
    by_cases hlt : m < 15
    · have i1 : (m : Int) + 1 ≤ 15 := by omega
      by_cases hsh : 8 * xs.length - (p + m) < 1
      · go_wp2_with fail
        refine (get_short 1 H.out.2.2.2.1 (by decide) hsh).mono ?_; rintro e w2 ⟨rfl, k, rfl⟩
        go_wp2_with fail
        go_ret2
        obtain ⟨a, b, c, d, f⟩ := H.out
        exact ⟨0, 2, p + m, rfl, ⟨m, a, .inl ⟨hlt, by omega, rfl, rfl, rfl⟩⟩, d.drewN k, f.drewN k⟩
      · have hle : p + m + 1 ≤ 8 * xs.length := by omega
        have HLE := Lib.hid hle
        clear hsh hle
        have hcb := codeOf_lt V p m
        have hc15 : (2 : Nat) ^ m ≤ 2 ^ 14 := Nat.pow_le_pow_right (by decide) (by omega)
        have hCS : codeOf V p (m + 1) = 2 * codeOf V p m + V / 2 ^ (p + m) % 2 := rfl
        have hFS : 2 * endN ls m = base ls (m + 1) := by have := endN_base ls (m + 1) (by omega); rw [this]; simp; omega
        have hfb := endN_le ls HK.out HF.out m hm
        have hcl := cnt_le ls (m + 1)
        have hlen := HK.out.1
        have hob := offN_len ls (m + 1)
        have hOS := offN_succ ls (m + 1) (by omega)
        have hES : endN ls (m + 1) = base ls (m + 1) + cnt ls (m + 1) := by unfold endN; rw [if_neg (by omega)]
        have hfc := H.out.2.1
        have hG := get_yes 1 V H.out.2.2.2.1 HV.out (by decide) HLE.out
        unfold Got at hG
        rw [Nat.pow_one] at hG
        have hbl : V / 2 ^ (p + m) % 2 < 2 := Nat.mod_lt _ (by decide)
        have HH := Lib.hid (hit_of (ls := ls) (V := V) (p := p) (n := m + 1))
        have HN := Lib.hid (hit_no (ls := ls) (V := V) (p := p) (n := m + 1))
        have hpm : ∀ i, Hit ls V p (m + 1) i → posN ls i (m + 1) < offN ls 16 := fun i h => posN_lt ls i (m + 1) h.1 h.2.1 (by omega) (by omega)
        have HPM := Lib.hid hpm
        rw [hCS] at HH HN
        have ht := tallyL_getD ls (m + 1) (by omega)
        rw [if_neg (by omega)] at ht
        have HT := Lib.hid ht
        rw [← hFS] at HH HN hES
        have HCS := Lib.hid hCS; have HOS := Lib.hid hOS; have HES := Lib.hid hES
        clear hCS hFS hOS hES ht hpm
        generalize codeOf V p m = c at *
        generalize V / 2 ^ (p + m) % 2 = b at *
        generalize endN ls m = f at *
        generalize cnt ls (m + 1) = ct at *
        generalize offN ls (m + 1) = sh at *
        have hor : bits .or .i64 ((c : Int) * 2) (b : Int) = ((2 * c + b : Nat) : Int) := by
          rw [or_join_i64 1 _ _ (by omega) (by omega) (by omega) (by omega) (by omega) (by omega)]; omega
        have hcb2 : c ≤ 16384 := by omega
        have HG := Lib.hid hG
        clear hG hcb hc15
        go_wp2_with fail
        refine HG.out.mono ?_; rintro e w2 ⟨rfl, hr2, ho2⟩
        have HR2 := Lib.hid hr2; have HO2 := Lib.hid (H.out.2.2.2.2.trans ho2)
        have HD2 := Lib.hid (HD.out.only HO2.out H1.out H2.out)
        have hcell := HD2.out.dbox.cell (m + 1) (by omega)
        rw [HT.out] at hcell
        clear hr2 ho2
        go_upto_region 10 with (fail)
        by_cases hh : 2 * c + b < 2 * f + ct
        · obtain ⟨i, hit, hpos⟩ := HH.out (by omega) hh
          have hplt := HPM.out i hit
          have hd16 := HD2.out.dbox.last
          obtain ⟨S, hS, hY⟩ := HD2.out.syms
          have hcs := hS.cell (posN ls i (m + 1)) (by rw [hY.1]; exact hplt)
          rw [hY.2 i hit.1 (m + 1) (by omega) hit.2.1] at hcs
          have HIT := Lib.hid hit
          have i2 : 2 * (c : Int) + b - f * 2 < ct := by omega
          have hq : (sh : Int) + (2 * (c : Int) + b) - f * 2 = ((posN ls i (m + 1) : Nat) : Int) := by omega
          have hq2 : ((posN ls i (m + 1) : Nat) : Int) < ((offN ls 16 : Nat) : Int) := by omega
          clear hit hpos hS hY
          generalize posN ls i (m + 1) = ps at *
          generalize offN ls 16 = tot at *
          clear hplt
          go_wp2_with fail
          go_ret2
          obtain ⟨a, _, _, _, _⟩ := H.out
          exact ⟨(i : Int), 0, p + m + 1, rfl, ⟨m, a, .inr (.inr ⟨hlt, HLE.out, rfl, rfl, i, HIT.out, rfl⟩)⟩, HR2.out, HO2.out⟩
        · have i2 : ¬ 2 * (c : Int) + b - f * 2 < ct := by omega
          go_wp2_with fail
          go_roundw
          case rel =>
            obtain ⟨a, _, _, _, _⟩ := H.out
            refine ⟨m + 1, by omega, by go_num, ?_, ?_, ?_, Lib.hid ⟨noHit_succ a (HN.out hh), ?_, HLE.out, HR2.out, HO2.out⟩⟩
            · rw [HCS.out]; go_num
            · rw [HES.out]; go_num
            · rw [HOS.out]; go_num
            · rw [HCS.out, HES.out]; omega
          case measure => simp [intOf]; omega
    · have hlt' : ¬ (m : Int) + 1 ≤ 15 := by omega
      go_wp2_with fail
      go_ret2
      obtain ⟨a, _, c, d, f⟩ := H.out
      have hm15 : m = 15 := by omega
      rw [hm15] at d c
      exact ⟨0, 4, p + 15, rfl, ⟨m, a, .inr (.inl ⟨hm15, rfl, rfl, rfl, c⟩)⟩, d, f⟩
end Go.Proofs.Ytmdkinhbfndoeaa
