/-
  The walk of HuffBack.
-/
import Derived.Test.YtmdkinhbfndoeaaHuffWalkReads
import Derived.Test.YtmdkinhbfndoeaaHuffBackP
import Derived.Test.YtmdkinhbfndoeaaBitsKeep
namespace Go.Proofs.Ytmdkinhbfndoeaa
open Go.RowKit

def natsI (ds : List Nat) : List Int := ds.map fun p : Nat => (p : Int)
theorem natsI_append (ds : List Nat) (p : Nat) : natsI (ds ++ [p]) = natsI ds ++ [(p : Int)] := by simp [natsI]
theorem natsI_len (ds : List Nat) : (natsI ds).length = ds.length := by simp [natsI]
theorem natsI_getD (ds : List Nat) (j : Nat) : (natsI ds).getD j 0 = ((ds.getD j 0 : Nat) : Int) := by
  unfold natsI
  by_cases h : j < ds.length <;> simp [List.getD, h]
/-- A writer and the list of what was written. -/
structure WI (w : World) (g : Nat) (o : Option Nat) (N c : Nat) (a : Option Addr) (n cap : Nat) (xs : List Int) : Prop where
  wr : Wrt w g o N c
  row : w.ownsRow (g + 1) 3 1 (.slice a n cap) n (xs.map (Value.int .i64))
  dis : Dis o (Value.slice a n cap).ownBlock
section
variable {w w' : World} {g : Nat} {o o' : Option Nat} {N c N' c' : Nat} {a a' : Option Addr} {n n' cap cap' : Nat} {xs xs' : List Int}
theorem WI.below (h : WI w g o N c a n cap xs) (hb : Below w.heap.size w w') : WI w' g o N c a n cap xs :=
  ⟨h.wr.below hb, owns_keep h.row (fun r e => hb.block r (h.row.lt r e).2), h.dis⟩
theorem WI.put (h : WI w g o N c a n cap xs) (hw : Wrt w' g o' N' c') (m : Moved g o o' w w') : WI w' g o' N' c' a n cap xs :=
  ⟨hw, owns_keep h.row (fun r e => m.1.block r (h.row.lt r e).2 (by
    rintro (e' | e')
    · have := (h.row.lt r e).1; omega
    · exact h.dis r e'.symm e)), dis_moved h.dis m (fun r e => (h.row.lt r e).2)⟩
theorem WI.app (h : WI w g o N c a n cap xs) (hr : w'.ownsRow (g + 1) 3 1 (.slice a' n' cap') n' (xs'.map (Value.int .i64))) (hg : w.grownBy w' (Value.slice a n cap).ownBlock) (hf : ∀ r, (Value.slice a' n' cap').ownBlock = some r → (Value.slice a n cap).ownBlock = some r ∨ w.heap.size ≤ r) : WI w' g o N c a' n' cap' xs' :=
  ⟨h.wr.keep hg.size (hg.block g h.wr.lt.1 (fun e => by have := (h.row.lt g e.symm).1; omega)) (fun b e => hg.block b (h.wr.lt.2 b e).2 (fun e' => h.dis b e e'.symm)), hr, fun r h1 h2 => by
    rcases hf r h2 with e | e
    · exact h.dis r h1 e
    · have := (h.wr.lt.2 r h1).2; omega⟩
end

set_option maxRecDepth 100000 in
set_option maxHeartbeats 1000000 in
theorem hb_not (a : Option Addr) (n cap : Nat) (b : Option Addr) (m cb : Nat) (w : World) (_hn : n ≤ 9223372036854775807) (_hm : m ≤ 9223372036854775807) (h : ¬ (n ≤ 300 ∧ m ≤ 500)) :
    Calls Try.prog 7 #[.slice a n cap, .slice b m cb] w fun e w' => e = .returned (.bool true) ∧ Below w.heap.size w w' := by
  by_cases h1 : (300 : Int) < n
  · clear h
    go_enter Try.func7, Try.ntmps7
    go_wp2_with fail
    refine (first_any w).mono ?_; rintro e w1 ⟨rfl, b1⟩
    go_wp2_with fail
    refine (first_any w1).mono ?_; rintro e w2 ⟨rfl, b2⟩
    go_wp2_with fail
    go_ret
    exact ⟨rfl, below_size b1 b2⟩
  · have h2 : (500 : Int) < m := by omega
    clear h
    go_enter Try.func7, Try.ntmps7
    go_wp2_with fail
    refine (first_any w).mono ?_; rintro e w1 ⟨rfl, b1⟩
    go_wp2_with fail
    refine (first_any w1).mono ?_; rintro e w2 ⟨rfl, b2⟩
    go_wp2_with fail
    go_ret
    exact ⟨rfl, below_size b1 b2⟩

set_option maxRecDepth 100000 in
set_option maxHeartbeats 1000000 in
theorem hb_no1 (a : Option Addr) (n cap : Nat) (xs : List Int) (b : Option Addr) (m cb : Nat) (w : World) (hr : Reads .i64 w a n cap xs) (h64 : is64 xs) (hn : n ≤ 300) (hm : m ≤ 500) (hk : ¬ lensOk xs) :
    Calls Try.prog 7 #[.slice a n cap, .slice b m cb] w fun e w' => e = .returned (.bool true) ∧ Below w.heap.size w w' := by
  have HR := Lib.hid hr; have H64 := Lib.hid h64; have HK := Lib.hid hk
  have h1 : ¬ (300 : Int) < n := by omega
  have h2 : ¬ (500 : Int) < m := by omega
  clear hr h64 hk
  go_enter Try.func7, Try.ntmps7
  go_wp2_with fail
  refine (first_any w).mono ?_; rintro e w1 ⟨rfl, b1⟩
  go_wp2_with fail
  refine (codes_no1 a n cap xs w1 (HR.out.below b1) H64.out HK.out).mono ?_; rintro e w2 ⟨rfl, rfl⟩
  go_wp2_with fail
  refine (new_no1 a n cap xs _ (HR.out.below b1) H64.out HK.out).mono ?_; rintro e w2 ⟨rfl, rfl⟩
  go_wp2_with fail
  refine (newWriter_any _).mono ?_; rintro e w2 ⟨rfl, _, _, b2⟩
  go_wp2_with fail
  refine (first_any _).mono ?_; rintro e w3 ⟨rfl, b3⟩
  go_wp2_with fail
  go_ret
  exact ⟨rfl, below_size (below_size b1 b2) b3⟩

set_option maxRecDepth 100000 in
set_option maxHeartbeats 1000000 in
theorem hb_no4 (a : Option Addr) (n cap : Nat) (xs : List Int) (b : Option Addr) (m cb : Nat) (w : World) (hr : Reads .i64 w a n cap xs) (h64 : is64 xs) (hn : n ≤ 300) (hm : m ≤ 500) (hk : lensOk xs) (hf : 32768 < krS xs) :
    Calls Try.prog 7 #[.slice a n cap, .slice b m cb] w fun e w' => e = .returned (.bool true) ∧ Below w.heap.size w w' := by
  have HR := Lib.hid hr; have H64 := Lib.hid h64; have HK := Lib.hid hk; have HF := Lib.hid hf
  have h1 : ¬ (300 : Int) < n := by omega
  have h2 : ¬ (500 : Int) < m := by omega
  clear hr h64 hk hf
  go_enter Try.func7, Try.ntmps7
  go_wp2_with fail
  refine (first_any w).mono ?_; rintro e w1 ⟨rfl, b1⟩
  go_wp2_with fail
  refine (codes_no4 a n cap xs w1 (HR.out.below b1) H64.out HK.out HF.out).mono ?_; rintro e w2 ⟨rfl, rfl⟩
  go_wp2_with fail
  refine (new_no4 a n cap xs _ (HR.out.below b1) H64.out HK.out HF.out).mono ?_; rintro e w2 ⟨rfl, rfl⟩
  go_wp2_with fail
  refine (newWriter_any _).mono ?_; rintro e w2 ⟨rfl, _, _, b2⟩
  go_wp2_with fail
  refine (first_any _).mono ?_; rintro e w3 ⟨rfl, b3⟩
  go_wp2_with fail
  go_ret
  exact ⟨rfl, below_size (below_size b1 b2) b3⟩

set_option maxRecDepth 100000 in
set_option maxHeartbeats 4000000 in
theorem hb_yes (a : Option Addr) (n cap : Nat) (ls : List Int) (b : Option Addr) (m cb : Nat) (ps : List Int) (w : World) (hr : Reads .i64 w a n cap ls) (hx : Reads .i64 w b m cb ps) (h64 : is64 ls) (hp64 : is64 ps) (hn : n ≤ 300) (hm : m ≤ 500) (hk : lensOk ls) (hf : krS ls ≤ 32768) :
    Calls Try.prog 7 #[.slice a n cap, .slice b m cb] w fun e w' => e = .returned (.bool true) ∧ Below w.heap.size w w' := by
  have HR := Lib.hid hr; have H64 := Lib.hid h64; have HK := Lib.hid hk; have HF := Lib.hid hf; have HX := Lib.hid hx; have HXL := Lib.hid hx.len; have HLL := Lib.hid hr.len
  have HP64 := Lib.hid hp64
  have h1 : ¬ (300 : Int) < n := by omega
  have h2 : ¬ (500 : Int) < m := by omega
  clear hr h64 hk hf hx hp64
  go_enter Try.func7, Try.ntmps7
  go_wp2_with fail
  refine (first_any w).mono ?_; rintro e w0 ⟨rfl, b1⟩
  replace HR := Lib.hid (HR.out.below b1); replace HX := Lib.hid (HX.out.below b1)
  have B := Lib.hid b1
  clear b1
  go_wp2_with fail
  refine (codes_yes a n cap ls w0 HR.out H64.out HK.out HF.out).mono ?_; rintro e w1 ⟨gc, kc, rfl, C, b1⟩
  rw [HLL.out] at C ⊢
  have HC := Lib.hid C
  replace HR := Lib.hid (HR.out.below b1); replace HX := Lib.hid (HX.out.below b1)
  replace B := Lib.hid (below_size B.out b1)
  clear b1 C
  go_wp2_with fail
  refine (new_yes a n cap ls w1 HR.out H64.out HK.out HF.out).mono ?_; rintro e w2 ⟨b2, ⟨h0, rfl⟩ | ⟨h0, gd, gs, hgd, hgs, rfl, D⟩⟩
  · replace B := Lib.hid (below_size B.out b2)
    clear b2 h0
    go_wp2_with fail
    refine (newWriter_any _).mono ?_; rintro e w3 ⟨rfl, _, _, b3⟩
    go_wp2_with fail
    refine (first_any _).mono ?_; rintro e w4 ⟨rfl, b4⟩
    go_wp2_with fail
    go_ret
    exact ⟨rfl, below_size (below_size B.out b3) b4⟩
  have HD := Lib.hid D
  replace HC := Lib.hid (HC.out.below b2); replace HX := Lib.hid (HX.out.below b2)
  replace B := Lib.hid (below_size B.out b2)
  clear b2 h0 D HR H64
  go_wp2_with fail
  refine (newWriter_any _).mono ?_; rintro e w3 ⟨rfl, W3, hs3, b3⟩
  have hWI : WI w3 w2.heap.size Option.none (encP ls []) (bitsOf ls []) Option.none 0 0 (natsI []) := ⟨W3, by simpa [natsI] using World.ownsRow_nil _ _ _ _, fun r h => nomatch h⟩
  have HW := Lib.hid (And.intro hWI b3)
  clear W3 hs3 b3 hWI
  generalize hg : w2.heap.size = g at *
  have HG := Lib.hid hg
  clear hg hgd hgs
  obtain ⟨i1, ki, kz0, kz1, kz2⟩ := info_parts infoInt
  have Ki := Lib.hid ki; have Kz0 := Lib.hid kz0; have Kz1 := Lib.hid kz1; have Kz2 := Lib.hid kz2
  clear ki kz0 kz1 kz2
  go_wp2_with fail
  go_loopw [10, 11, 12] (fun vd vi _ wr => ∃ (i : Nat) (ds : List Nat) (o : Option Nat) (a' : Option Addr) (cap' : Nat), i ≤ m ∧ vi = .int .i64 i ∧ vd = .slice a' ds.length cap' ∧ Hid ((WI wr g o (encP ls ds) (bitsOf ls ds) a' ds.length cap' (natsI ds) ∧ Below g w2 wr) ∧ (∀ p ∈ ds, p < ls.length ∧ 0 < ls.getD p 0) ∧ bitsOf ls ds ≤ 15 * i ∧ ds.length ≤ i)) (fun _ vi _ _ => m - (intOf vi).toNat)
  case atStart => exact ⟨0, [], Option.none, Option.none, 0, Nat.zero_le _, rfl, rfl, Lib.hid ⟨HW.out, (fun p hp => nomatch hp), Nat.le_refl _, Nat.le_refl _⟩⟩
  case round =>
    clear HW
    obtain ⟨i, ds, o, a', cap', hi, rfl, rfl, H⟩ := hrel
    by_cases hlt : i < m
    · have i1' : (i : Int) < m := by omega
      have X := (HX.out.below (by rw [HG.out]; exact H.out.1.2)).cellAt i hlt
      obtain ⟨bx, off, rfl, hc⟩ := X
      obtain ⟨x, hx⟩ : ∃ x, ps.getD i 0 = x := ⟨_, rfl⟩
      rw [hx] at hc
      have hx64 : -9223372036854775808 ≤ x ∧ x ≤ 9223372036854775807 := by
        rw [← hx]; exact HP64.out _ (by simp [List.getD, HXL.out, hlt])
      clear hx
      by_cases hx0 : x < 0
      · go_wp2_with fail
        go_roundw
        case rel => exact ⟨i + 1, ds, o, a', cap', by omega, by go_num, rfl, Lib.hid ⟨H.out.1, H.out.2.1, by have := H.out.2.2; omega, by have := H.out.2.2; omega⟩⟩
        case measure => simp [intOf]; omega
      · obtain ⟨p, rfl⟩ : ∃ p : Nat, x = p := ⟨x.toNat, by omega⟩
        by_cases hpn : p < n
        · have hpn1 : ¬ (n : Int) ≤ (p : Int) := by omega
          have hpn2 : (p : Int) < n := by omega
          have HC2 := Lib.hid (HC.out.below (by rw [HG.out]; exact H.out.1.2))
          have e1 := HC2.out.c1 p hpn
          have hy := HK.out.2 (ls.getD p 0) (by simp [List.getD, HLL.out, hpn])
          by_cases hz : ls.getD p 0 = 0
          · rw [codeAt_zero ls p hz] at e1
            clear hy
            go_wp2_with fail
            go_roundw
            case rel => exact ⟨i + 1, ds, o, a', cap', by omega, by go_num, rfl, Lib.hid ⟨H.out.1, H.out.2.1, by have := H.out.2.2; omega, by have := H.out.2.2; omega⟩⟩
            case measure => simp [intOf]; omega
          · have e0 := HC2.out.c0 p hpn
            have hyl : ls.getD p 0 = (lenN ls p : Int) := by unfold lenN; omega
            rw [codeAt_num ls p (lenN ls p) hyl (by omega)] at e0 e1
            have hfit := code_fits ls p (lenN ls p) (by rw [HLL.out]; exact hpn) hyl (by omega) (by omega) HF.out
            have HPp : Hid (p < ls.length ∧ 0 < ls.getD p 0) := Lib.hid ⟨by rw [HLL.out]; exact hpn, by omega⟩
            have hl0 : ¬ ((lenN ls p : Nat) : Int) = 0 := by omega
            have hl1 : (((lenN ls p : Nat) : Int) == 0) = false := beq_eq_false_iff_ne.2 hl0
            have hl15 : lenN ls p ≤ 15 := by omega
            have HEN := Lib.hid (encP_append ls ds p)
            have HBN : Hid (bitsOf ls (ds ++ [p]) = bitsOf ls ds + lenN ls p) := Lib.hid (by rw [bitsOf_append]; simp [bitsOf])
            have HFIT := Lib.hid hfit
            clear hy hz hyl hfit
            obtain ⟨cn, hcn⟩ : ∃ c, codeN ls p = c := ⟨_, rfl⟩
            obtain ⟨ln, hln⟩ : ∃ c, lenN ls p = c := ⟨_, rfl⟩
            rw [hcn, hln] at e0 e1 HEN HFIT
            rw [hln] at hl0 hl1 hl15 HBN
            change _ = some (Value.int .u32 (cn : Int)) at e0
            change _ = some (Value.int .i64 (ln : Int)) at e1
            clear hcn hln
            go_upto_region 16 with (fail)
            refine wp_region_still_tail 11 (by kernel_rfl) (by kernel_rfl) ?_
            simp only [List.take_succ_cons, List.take_zero, List.drop_succ_cons, List.drop_zero]
            repeat still_step
            refine wpStill_nil ?_
            change wpList _ _ _ _ _ wr.drew
            clear e0 e1 hc
            have hbits := H.out.2.2.1
            go_wp2_with fail
            refine (code_yes g o (encP ls ds) (bitsOf ls ds) cn ln wr.drew H.out.1.1.wr HFIT.out (by omega) (by omega)).mono ?_; rintro e wy ⟨rfl, o', hwr, hmv⟩
            rw [← HBN.out, ← HEN.out] at hwr
            have hWI2 := (show WI wr.drew g o (encP ls ds) (bitsOf ls ds) a' ds.length cap' (natsI ds) from ⟨H.out.1.1.wr.drew, H.out.1.1.row, H.out.1.1.dis⟩).put hwr hmv
            have hB2 : Below g w2 wy := (Below.drew H.out.1.2).trans (hmv.below (Nat.le_refl _) (Nat.le_of_lt H.out.1.1.wr.lt.1) (fun b e => Nat.le_of_lt (H.out.1.1.wr.lt.2 b e).1))
            have HW2 := Lib.hid (And.intro hWI2 hB2)
            have HL15 := Lib.hid hl15
            clear hWI2 hB2 hwr hmv hl0 hl1 hl15
            go_upto_region 18 with (fail)
            have bal : Below wy.heap.size wy (wy.alloc (.cells #[.int .i64 (p : Int)] 3)) := (Below.refl _ _).alloc (Nat.le_refl _) _
            have hWI3 := HW2.out.1.below bal
            have HW3 := Lib.hid hWI3
            have hsy : g < wy.heap.size := HW2.out.1.wr.lt.1
            have hdl := H.out.2.2.2
            clear hWI3
            go_wp2_with (at_builtin; go_loud (refine wpList_append_fresh _ rfl _ _ 22 rfl (g + 1) 3 i1 (.int .i64 0) 8 Try.underlying22 Ki.out Kz0.out Kz1.out Kz2.out rfl .i64 a' ds.length cap' (natsI ds) rfl HW3.out.row ⟨wy.heap.size, 0, Option.none⟩ 1 1 [(p : Int)] rfl (reads_alloc (k := .i64) wy [(p : Int)] _ _ _ rfl (by unfold maxLen; simp) _ rfl) (by decide) (by unfold maxLen; omega) (by omega) (by simp; omega) ?_); intro a2 cap2 w5 hown hgrow hfr)
            have hw5 := HW3.out.app (xs' := natsI (ds ++ [p])) (by rw [natsI_append]; exact hown) hgrow hfr
            have hb5 : Below g w2 w5 := (HW2.out.2.trans (bal.mono (Nat.le_of_lt hsy))).grown hgrow (by have := HW2.out.2.size; have := HG.out; simp; omega) (fun k hk => by have := (HW3.out.row.lt k hk).1; omega)
            have HW5 := Lib.hid (And.intro hw5 hb5)
            clear hown hgrow hfr hw5 hb5 bal hsy hdl
            go_wp2_with fail
            go_roundw
            case rel =>
              refine ⟨i + 1, ds ++ [p], _, a2, cap2, by omega, by go_num, by simp, Lib.hid ⟨by simpa using HW5.out, fun q hq => ?_, ?_, ?_⟩⟩
              · rcases List.mem_append.1 hq with h | h
                · exact H.out.2.1 q h
                · obtain rfl : q = p := by simpa using h
                  exact HPp.out
              · have h3 := H.out.2.2.1
                have h4 := HL15.out
                rw [HBN.out]; omega
              · have := H.out.2.2.2; simp; omega
            case measure => simp [intOf]; omega
        · have hpn1 : (n : Int) ≤ (p : Int) := by omega
          go_wp2_with fail
          go_roundw
          case rel => exact ⟨i + 1, ds, o, a', cap', by omega, by go_num, rfl, Lib.hid ⟨H.out.1, H.out.2.1, by have := H.out.2.2; omega, by have := H.out.2.2; omega⟩⟩
          case measure => simp [intOf]; omega
    · have i1' : ¬ (i : Int) < m := by omega
      have hbits := H.out.2.2.1
      have hdl := H.out.2.2.2
      have hb15 : bitsOf ls ds ≤ 7500 := by omega
      clear hbits
      go_wp2_with fail
      refine (wbytes_any H.out.1.1.wr (by omega)).mono ?_; rintro e w6 ⟨ab, kb, xs, rfl, hxl, hxb, hxN, oxs, b6⟩
      go_wp2_with fail
      refine (newReader_any ab _ kb xs w6 (reads_of_owns oxs) hxb (by omega)).mono ?_; rintro e w7 ⟨gr, rfl, R7, hgr, b7⟩
      have HXLN := Lib.hid hxl; have HXB := Lib.hid hxb; have HXN := Lib.hid hxN
      have HR7 := Lib.hid R7
      have hrow : Reads .i64 w7 a' ds.length cap' (natsI ds) := ((reads_of_owns H.out.1.1.row).below b6).below b7
      have HROW := Lib.hid hrow
      have hb27 : Below w2.heap.size w2 w7 := (by have := H.out.1.2; rw [← HG.out] at this; exact below_size (below_size this b6) b7)
      have HD7 := Lib.hid (HD.out.below hb27)
      have HB7 := Lib.hid (below_size B.out hb27)
      have hne : gd ≠ gr ∧ gs ≠ gr ∧ (0 < ds.length → ∀ c, a' = some c → c.block ≠ gr) := by
        have hw26 : w2.heap.size ≤ w6.heap.size := by
          have := H.out.1.2.size; have := b6.size; omega
        have hdb := HD.out.dbox.lt
        obtain ⟨S, hS, _⟩ := HD.out.syms
        have hsl := hS.lt
        refine ⟨by omega, by omega, fun h0 c hc => ?_⟩
        obtain ⟨y, off, e, hy, _⟩ := ((reads_of_owns H.out.1.1.row).below b6).cells h0
        rw [hc] at e
        obtain rfl : c = ⟨y, off, Option.none⟩ := by simpa using e
        show y ≠ gr
        omega
      have HNE := Lib.hid hne
      have HGR : Hid (w.heap.size ≤ gr) := Lib.hid (by
        have := B.out.size; have := H.out.1.2.size; have := b6.size; omega)
      have HB15 := Lib.hid hb15
      clear hxl hxb hxN R7 hrow hb27 hne oxs b6 b7 hgr hb15
      go_wp2_with fail
      go_loopw [14, 15, 16] (fun vj _ _ wr => ∃ j : Nat, j ≤ ds.length ∧ vj = .int .i64 j ∧ Hid (Rdr wr gr xs (bitsOf ls (ds.take j)) ∧ Only gr w7 wr)) (fun vj _ _ _ => ds.length - (intOf vj).toNat)
      case atStart => exact ⟨0, Nat.zero_le _, rfl, Lib.hid ⟨HR7.out, Only.refl _ _⟩⟩
      case round =>
        clear HR7
        obtain ⟨j, hj, rfl, J⟩ := hrel
        by_cases hjl : j < ds.length
        · have j1 : (j : Int) < ds.length := by omega
          have hin := H.out.2.1 (ds.getD j 0) (by simp [List.getD, hjl])
          have hbt := bitsOf_take ls ds j hjl
          have hle := bitsOf_le ls ds (j + 1)
          have hL : bitsOf ls (ds.take j) + lenN ls (ds.getD j 0) ≤ 8 * xs.length := by have := HXLN.out; omega
          have hnx := next_enc ls ds j (8 * xs.length) hjl HK.out HF.out hin.1 hin.2 hL
          have hnat := natsI_getD ds j
          obtain ⟨q, off2, he2, hcell⟩ := (HROW.out.onlyPos J.out.2 HNE.out.2.2).cellAt j hjl
          rw [← hbt] at hnx
          have HNX := Lib.hid hnx; have HBT := Lib.hid hbt; have HNAT := Lib.hid hnat
          have HP8 := Lib.hid (show bitsOf ls (ds.take j) ≤ 8 * xs.length by omega)
          clear hin hbt hle hL hnx hnat hcell
          subst he2
          go_wp2_with fail
          refine (next_any gd gs gr ls xs (encP ls ds) (bitsOf ls (ds.take j)) wr (HD7.out.only J.out.2 HNE.out.1 HNE.out.2.1) J.out.1 HXN.out HP8.out HK.out HF.out HNE.out.1 HNE.out.2.1).mono ?_; rintro e wy ⟨v, er, qq, rfl, N1, R4, O4⟩
          obtain ⟨rfl, rfl, rfl⟩ := next_one HNX.out N1
          have J2 := Lib.hid (And.intro R4 (J.out.2.trans O4))
          have hcell : wy.cell? ⟨q, off2 + j, Option.none⟩ = some (.int .i64 ((ds.getD j 0 : Nat) : Int)) := by
            obtain ⟨q', off', he, hc⟩ := (HROW.out.onlyPos J2.out.2 HNE.out.2.2).cellAt j hjl
            obtain ⟨rfl, rfl⟩ : q = q' ∧ off2 = off' := by simpa using he
            rw [hc, HNAT.out]
          clear N1 R4 O4
          generalize ds.getD j 0 = dj at *
          go_wp2_with fail
          go_roundw
          case rel => exact ⟨j + 1, by omega, by go_num, J2⟩
          case measure => simp [intOf]; omega
        · have j1 : ¬ (j : Int) < ds.length := by omega
          go_wp2_with fail
          refine (first_any _).mono ?_; rintro e w8 ⟨rfl, b8⟩
          go_wp2_with fail
          go_ret
          have hl := HB7.out.size
          exact ⟨rfl, below_size (HB7.out.trans (J.out.2.below.mono HGR.out)) b8⟩

theorem walk_HuffBack (a : Option Addr) (n cap : Nat) (ls : List Int) (b : Option Addr) (m cb : Nat) (ps : List Int) (w : World) (hr : Reads .i64 w a n cap ls) (hw : ∀ n ∈ ls, (Lit.int .i64 n).wf = true) (hx : Reads .i64 w b m cb ps) (hp : ∀ n ∈ ps, (Lit.int .i64 n).wf = true) :
    Calls Try.prog 7 #[.slice a n cap, .slice b m cb] w fun e w' => e = .returned (.bool true) ∧ Below w.heap.size w w' := by
  have h64 := is64_of_wf hw
  have p64 := is64_of_wf hp
  by_cases hn : n ≤ 300 ∧ m ≤ 500
  · by_cases hk : lensOk ls
    · by_cases hf : krS ls ≤ 32768
      · exact hb_yes a n cap ls b m cb ps w hr hx h64 p64 hn.1 hn.2 hk hf
      · exact hb_no4 a n cap ls b m cb w hr h64 hn.1 hn.2 hk (by omega)
    · exact hb_no1 a n cap ls b m cb w hr h64 hn.1 hn.2 hk
  · exact hb_not a n cap b m cb w hr.n63.1 hx.n63.1 hn
end Go.Proofs.Ytmdkinhbfndoeaa
