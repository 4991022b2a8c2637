/-
  aquref5.Codes.
-/
import Derived.Test.YtmdkinhbfndoeaaHuffCodes
namespace Go.Proofs.Ytmdkinhbfndoeaa
open Go.RowKit

theorem infoRCode : (Try.prog.info? 41).map (fun i => (i.zero, i.size, i.bytes)) = some (some (.agg #[.int .u32 0, .int .i64 0]), 2, 16) := by kernel_rfl
/-- One more than the last code of a length. -/
def endN (ls : List Int) (l : Nat) : Nat := if l = 0 then 0 else base ls l + cnt ls l
theorem endN_base (ls : List Int) (l : Nat) (h : 1 ≤ l) : base ls l = endN ls (l - 1) * 2 := by
  match l, h with
  | 1, _ => rfl
  | n + 2, _ => simp [endN, base]
theorem rcodes_no1 (a : Option Addr) (n cap : Nat) (ls : List Int) (w : World) (hr : Reads .i64 w a n cap ls) (h64 : is64 ls) (hk : ¬ lensOk ls) :
    Calls Try.prog 19 #[.slice a n cap] w fun e w' => e = .returned (.tuple #[.slice Option.none 0 0, .int .i64 1]) ∧ w' = w := by
  have HK := Lib.hid (krR_no hk)
  go_enter Try.func19, Try.ntmps19
  go_wp2_with fail
  refine (rkraft_any a n cap ls _ hr h64).mono ?_; rintro e w1 ⟨rfl, rfl⟩
  rw [HK.out]
  go_wp2_with fail
  go_ret2
  exact ⟨rfl, rfl⟩
theorem rcodes_no4 (a : Option Addr) (n cap : Nat) (ls : List Int) (w : World) (hr : Reads .i64 w a n cap ls) (h64 : is64 ls) (hk : lensOk ls) (hf : 32768 < krS ls) :
    Calls Try.prog 19 #[.slice a n cap] w fun e w' => e = .returned (.tuple #[.slice Option.none 0 0, .int .i64 4]) ∧ w' = w := by
  have HK := Lib.hid (krR_ok hk)
  generalize krS ls = S at *
  go_enter Try.func19, Try.ntmps19
  go_wp2_with fail
  refine (rkraft_any a n cap ls _ hr h64).mono ?_; rintro e w1 ⟨rfl, rfl⟩
  rw [HK.out]
  go_wp2_with fail
  go_ret2
  exact ⟨rfl, rfl⟩


set_option maxRecDepth 100000 in
set_option maxHeartbeats 4000000 in
theorem rcodes_yes (a : Option Addr) (n cap : Nat) (ls : List Int) (w : World) (hr : Reads .i64 w a n cap ls) (h64 : is64 ls) (hk : lensOk ls) (hf : krS ls ≤ 32768) :
    Calls Try.prog 19 #[.slice a n cap] w (RetC 41 w ls) := by
  have HK := Lib.hid (krR_ok hk); have HKO := Lib.hid hk; have HR := Lib.hid hr; have HL := Lib.hid hr.len
  have hn : n ≤ 300 := by have := hk.1; have := hr.len; omega
  have hn63 := hr.n63.1
  have hncap := hr.le
  obtain ⟨i0, hi, hz0, hz1, hz2⟩ := info_parts infoRCode
  have Hi := Lib.hid hi; have Hz0 := Lib.hid hz0; have Hz1 := Lib.hid hz1; have Hz2 := Lib.hid hz2
  clear hr hk hi hz0 hz1 hz2
  have hS0 := (krS_bd ls (fun x hx => (HKO.out.2 x hx).1)).1
  generalize krS ls = S at *
  go_enter Try.func19, Try.ntmps19
  go_wp2_with fail
  refine (rkraft_any a n cap ls _ HR.out h64).mono ?_; rintro e w1 ⟨rfl, rfl⟩
  rw [HK.out]
  clear h64
  go_upto_region 6 with (fail)
  go_wp2_with (at_make; refine wpList_make_full _ rfl _ _ 35 rfl w1.heap.size 41 i0 _ 2 Try.underlying35 Hi.out Hz0.out Hz1.out _ _ _ _ n rfl rfl (by first | rfl | omega) (by first | rfl | omega) (by rw [Hz2.out]; omega) (by unfold maxLen; omega) (Nat.le_refl _) ?_)
  intro w5 hown hgrow
  have hb5 : Below w1.heap.size w1 w5 := (Below.refl _ _).grown hgrow (Nat.le_refl _) (fun k h => nomatch h)
  clear hgrow
  have C5 : Hid (CRow w5 w1.heap.size 41 w1.heap.size n n (fun _ => (0, 0))) := Lib.hid ⟨_, hown, fun j hj => by
    have e0 : j * 2 < n * 2 := by omega
    have e1 : j * 2 + 1 < n * 2 := by omega
    have e2 : (j * 2 + 1) % 2 = 1 := by omega
    simp [madeCells, e0, e1, e2]⟩
  have B5 := Lib.hid hb5
  clear hown hb5
  obtain ⟨gc, hgc⟩ : ∃ gc, w1.heap.size = gc := ⟨_, rfl⟩
  rw [hgc] at C5 B5 ⊢
  rw [show decide ((32768 : Int) < S) = false from decide_eq_false (by omega)]
  go_wp2_with fail
  go_loopw [7, 8] (fun vn vl wr => ∃ l : Nat, 1 ≤ l ∧ l ≤ 16 ∧ vl = .int .i64 l ∧ vn = .int .u32 ((endN ls (l - 1) : Nat) : Int) ∧ Hid (CRow wr gc 41 gc n n (fun j => if 0 < ls.getD j 0 ∧ ls.getD j 0 < (l : Int) then codeAt ls j else (0, 0))) ∧ Hid (Below gc w1 wr)) (fun _ vl _ => 16 - (intOf vl).toNat)
  case atStart => exact ⟨1, Nat.le_refl _, by decide, rfl, rfl, Lib.hid (C5.out.congr fun j _ => by rw [if_neg (by omega)]), B5⟩
  case round =>
    obtain ⟨l, hl1, hl, rfl, rfl, C, B⟩ := hrel
    clear C5 B5
    by_cases hlt : l < 16
    · have hbl := base_le ls HKO.out.1 l
      have hp : (2 : Nat) ^ l ≤ 2 ^ 15 := Nat.pow_le_pow_right (by decide) (by omega)
      have hb2 : base ls l ≤ 20000000 := by omega
      have HEB := Lib.hid (endN_base ls l hl1)
      have HEE := Lib.hid (show endN ls (l + 1 - 1) = base ls l + cnt ls l by rw [Nat.add_sub_cancel]; unfold endN; rw [if_neg (by omega)])
      have hle : endN ls (l - 1) * 2 ≤ 20000000 := by rw [← HEB.out]; exact hb2
      have hlt' : (l : Int) ≤ 15 := by omega
      clear hbl hp
      generalize endN ls (l - 1) = en at *
      go_upto_region 12 with (fail)
      rw [show ((en : Int) * 2) = ((base ls l + cnt (ls.take 0) l : Nat) : Int) by rw [HEB.out]; simp [cnt]]
      generalize hbs : base ls l = bs at *
      go_wp2_with fail
      go_loopw [7, 9] (fun vn vi wr => ∃ i : Nat, i ≤ n ∧ vi = .int .i64 i ∧ vn = .int .u32 ((bs + cnt (ls.take i) l : Nat) : Int) ∧ Hid (CRow wr gc 41 gc n n (fun j => if (0 < ls.getD j 0 ∧ ls.getD j 0 < (l : Int)) ∨ (ls.getD j 0 = (l : Int) ∧ j < i) then codeAt ls j else (0, 0))) ∧ Hid (Below gc w1 wr)) (fun _ vi _ => n - (intOf vi).toNat)
      case atStart =>
        refine ⟨0, Nat.zero_le _, rfl, rfl, Lib.hid (C.out.congr fun j _ => ?_), B⟩
        by_cases e : 0 < ls.getD j 0 ∧ ls.getD j 0 < (l : Int)
        · rw [if_pos e, if_pos (.inl e)]
        · rw [if_neg e, if_neg (by omega)]
      case round =>
        obtain ⟨i, hi, rfl, rfl, C, B⟩ := hrel
        by_cases hli : i < n
        · obtain ⟨b, off, rfl, hc⟩ := (HR.out.below (hgc ▸ B.out)).cellAt i hli
          have hx := HKO.out.2 (ls.getD i 0) (by simp [List.getD, HL.out, hli])
          have hil : i < ls.length := by rw [HL.out]; exact hli
          have hlt2 : (i : Int) < n := by omega
          have hi0 : (0 : Int) ≤ i := by omega
          have hcl := cnt_le (ls.take i) l
          rw [List.length_take, HL.out] at hcl
          have HCN := Lib.hid (show cnt (ls.take (i + 1)) l = cnt (ls.take i) l + if ls.getD i 0 = (l : Int) then 1 else 0 by rw [take_getD ls i hil, cnt_snoc])
          by_cases he : ls.getD i 0 = (l : Int)
          · have HCA := Lib.hid (show codeAt ls i = (((bs + cnt (ls.take i) l : Nat) : Int), (l : Int)) by unfold codeAt; rw [if_pos (by omega)]; unfold codeN; rw [he, Int.toNat_natCast, hbs])
            have HE := Lib.hid he
            rw [he] at hc
            have e0 := C.out.c0 i hli; have e1 := C.out.c1 i hli
            have f0 := C.out.f (i * 2); have f1 := C.out.f (i * 2 + 1)
            generalize hcd : bs + cnt (ls.take i) l = cd at *
            clear he hx hil
            go_wp2_with fail
            go_roundw
            case rel =>
              refine ⟨i + 1, by omega, by go_num, ?_, Lib.hid ?_, Lib.hid ?_⟩
              · rw [HCN.out, if_pos HE.out, ← Nat.add_assoc, hcd]; rfl
              · refine (C.out.set i cd l hli).congr fun j hj => ?_
                by_cases e2 : j = i
                · rw [if_pos e2, e2, if_pos (.inr ⟨HE.out, by omega⟩), HCA.out]
                · rw [if_neg e2]
                  by_cases e : (0 < ls.getD j 0 ∧ ls.getD j 0 < (l : Int)) ∨ (ls.getD j 0 = (l : Int) ∧ j < i)
                  · rw [if_pos e, if_pos (by omega)]
                  · rw [if_neg e, if_neg (by omega)]
              · exact (B.out.setCell (p := ⟨gc, i * 2, Option.none⟩) (Nat.le_refl _) _).setCell (p := ⟨gc, i * 2 + 1, Option.none⟩) (Nat.le_refl _) _
            case measure => simp [intOf]; omega
          · have HE := Lib.hid he
            generalize hxx : ls.getD i 0 = x at *
            go_wp2_with fail
            go_roundw
            case rel =>
              refine ⟨i + 1, by omega, by go_num, ?_, Lib.hid (C.out.congr fun j hj => ?_), B⟩
              · rw [HCN.out, if_neg HE.out, Nat.add_zero]
              · have HE2 := HE.out
                by_cases e : (0 < ls.getD j 0 ∧ ls.getD j 0 < (l : Int)) ∨ (ls.getD j 0 = (l : Int) ∧ j < i)
                · rw [if_pos e, if_pos (by omega)]
                · rw [if_neg e, if_neg ?_]
                  rintro (h | ⟨h1, h2⟩)
                  · exact e (.inl h)
                  · have : j = i := by
                      by_cases h3 : j < i
                      · exact absurd (.inr ⟨h1, h3⟩) e
                      · omega
                    subst this
                    exact HE2 (by rw [← hxx]; exact h1)
            case measure => simp [intOf]; omega
        · have hin : i = n := by omega
          have hnl : ¬ (i : Int) < n := by omega
          rw [hin, show cnt (ls.take n) l = cnt ls l by rw [List.take_of_length_le (by rw [HL.out]; exact Nat.le_refl _)]]
          go_wp2_with fail
          go_roundw
          case rel =>
            refine ⟨l + 1, by omega, by omega, by go_num, by rw [HEE.out], Lib.hid (C.out.congr fun j hj => ?_), B⟩
            by_cases e : 0 < ls.getD j 0 ∧ ls.getD j 0 < ((l + 1 : Nat) : Int)
            · rw [if_pos e, if_pos (by omega)]
            · rw [if_neg e, if_neg (by omega)]
          case measure => simp [intOf]; omega
    · have hl16 : l = 16 := by omega
      have hnl : ¬ (l : Int) ≤ 15 := by omega
      go_wp2_with fail
      go_ret2
      unfold RetC
      rw [HL.out, hgc]
      refine ⟨gc, n, rfl, C.out.congr fun j hj => ?_, B.out⟩
      have hx := HKO.out.2 (ls.getD j 0) (by simp [List.getD, HL.out, hj])
      by_cases e : 0 < ls.getD j 0
      · rw [if_pos ⟨e, by omega⟩]
      · rw [if_neg (fun h => e h.1)]; unfold codeAt; rw [if_neg e]
end Go.Proofs.Ytmdkinhbfndoeaa
