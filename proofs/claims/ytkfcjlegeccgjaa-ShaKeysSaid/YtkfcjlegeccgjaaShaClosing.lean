/-
  sha.closing: the last blocks.
-/
import Derived.Test.YtkfcjlegeccgjaaShaBegin
import Derived.Test.YtkfcjlegeccgjaaCopy
import Derived.Test.YtkfcjlegeccgjaaCopyRow
namespace Go.Proofs.Ytkfcjlegeccgjaa
open Go.RowKit

/-- The end of a message of n bytes in all, rest being what is left over. -/
def closeS (rest : List Int) (n : Nat) : List Int := rest ++ ([128] ++ (List.replicate (padN n) 0 ++ be8 ((n : Int) * 8)))
theorem closeS_len (rest : List Int) (n : Nat) (h : rest.length = n % 64) : (closeS rest n).length = if n % 64 + 9 > 64 then 128 else 64 := by
  unfold closeS be8 padN
  simp only [List.length_append, List.length_replicate, List.length_map, List.length_range, List.length_cons, List.length_nil, h]
  split <;> omega
theorem be8_getD (n : Int) (j : Nat) (h : j < 8) : (be8 n).getD j 0 = n / 2 ^ (8 * (7 - j)) % 256 := by
  unfold be8; rw [getD_map_range, if_pos h]
theorem getD_append_l (xs ys : List Int) (j : Nat) (h : j < xs.length) : (xs ++ ys).getD j 0 = xs.getD j 0 := by
  simp [List.getD, List.getElem?_append_left h]
theorem getD_append_r (xs ys : List Int) (j : Nat) (h : xs.length ≤ j) : (xs ++ ys).getD j 0 = ys.getD (j - xs.length) 0 := by
  simp [List.getD, List.getElem?_append_right h]
theorem getD_rep (m j : Nat) : (List.replicate m (0 : Int)).getD j 0 = 0 := by
  by_cases h : j < m <;> simp [List.getD, h]
/-- What stands where in the end of a message. -/
theorem closeS_getD (rest : List Int) (n size j : Nat) (hr : rest.length = n % 64) (hs : (closeS rest n).length = size) (hj : j < size) :
    (closeS rest n).getD j 0 = if size - 1 - j < 8 then ((n : Int) * 8) / 2 ^ (8 * (size - 1 - j)) % 256 else if j = n % 64 then 128 else if j < n % 64 then rest.getD j 0 else 0 := by
  have hl := closeS_len rest n hr
  have hz : size = n % 64 + 9 + padN n := by
    rw [← hs]; unfold closeS be8; simp; omega
  unfold closeS
  by_cases h1 : j < n % 64
  · rw [getD_append_l _ _ _ (by omega), if_neg (by omega), if_neg (by omega), if_pos h1]
  · rw [getD_append_r _ _ _ (by omega), hr]
    by_cases h2 : j = n % 64
    · subst h2
      rw [if_neg (by omega), if_pos rfl, Nat.sub_self]; rfl
    · rw [getD_append_r _ _ _ (by simp; omega)]
      simp only [List.length_cons, List.length_nil]
      by_cases h3 : j - n % 64 - (0 + 1) < padN n
      · rw [getD_append_l _ _ _ (by simpa using h3), getD_rep, if_neg (by omega), if_neg h2, if_neg h1]
      · rw [getD_append_r _ _ _ (by simp; omega), List.length_replicate, be8_getD _ _ (by omega), if_pos (by omega)]
        congr 4
        omega

set_option maxHeartbeats 2000000 in
theorem closing128 (b : Option Addr) (m cap n : Nat) (xs : List Int) (w : World) (hr : Reads .u8 w b m cap xs) (hm : m = n % 64) (hn : n ≤ 140737488355328) (hsz : 64 < m + 9) :
    Calls Try.prog 18 #[.slice b m cap, .int .i64 n] w (RetS w (closeS xs n)) := by
  have hxl := hr.len
  have hcap := hr.le
  obtain ⟨i0, hi, hz0, hz1, hz2⟩ := info_parts infoC
  have Hi := Lib.hid hi; have Hz0 := Lib.hid hz0; have Hz1 := Lib.hid hz1; have Hz2 := Lib.hid hz2
  clear hi hz0 hz1 hz2
  have hs : (closeS xs n).length = 128 := by rw [closeS_len xs n (by omega), if_pos (by omega)]
  have HS := Lib.hid hs
  have HR := Lib.hid hr; have HX := Lib.hid hxl
  have HM := Lib.hid hm
  have h9 : m + 9 ≤ 128 := by omega
  have hsz' : (64 : Int) < (m : Int) + 9 := by omega
  clear hs hr hxl hm hsz
  have u1 : IntKind.u64.wrap (n : Int) = n := by rw [IntKind.wrap_u64]; omega
  have u2 : IntKind.u64.wrap ((n : Int) * 8) = (n : Int) * 8 := by rw [IntKind.wrap_u64]; omega
  go_enter Try.func18, Try.ntmps18
  go_wp2_with (at_make; refine wpList_make_full _ rfl _ _ 22 rfl w.heap.size 5 i0 (.int .u8 0) 1 Try.underlying22 Hi.out Hz0.out Hz1.out _ _ _ _ 128 rfl rfl (by first | rfl | omega) (by first | rfl | omega) (by rw [Hz2.out]; omega) (by unfold maxLen; omega) (Nat.le_refl _) ?_)
  intro w2 hown hgrow
  rw [toList_made 128 .u8] at hown
  have hb0 : Below w.heap.size w w2 := (Below.refl _ _).grown hgrow (Nat.le_refl _) (fun k h => nomatch h)
  clear hgrow
  have hr2 := HR.out.below hb0
  generalize hg : w.heap.size = g at *
  have HG := Lib.hid hg
  obtain ⟨zs, hzs⟩ : ∃ zs, List.replicate 128 (0 : Int) = zs := ⟨_, rfl⟩
  rw [hzs] at hown
  have HZ := Lib.hid hzs; clear hzs
  go_wp2_with (refine wpList_copy_row rfl _ _ 22 rfl g 5 Try.underlying22 (by rw [Hi.out]; exact congrArg some Hz1.out) .u8 g 0 128 128 128 128 zs hown rfl b m cap xs rfl hr2 m (Nat.min_eq_left (by omega)).symm (by omega) ?_)
  intro w3 hown3 hgrow3
  have hb3 : Below g w w3 := hb0.grown hgrow3 (by have := hb0.size; omega) (fun k h => by cases h; exact Nat.le_refl _)
  clear hgrow3 hown hb0 hr2
  rw [← List.map_take, ← List.map_drop, ← List.map_append, List.take_of_length_le (Nat.le_of_eq HX.out)] at hown3
  obtain ⟨ys, hys⟩ : ∃ ys, xs ++ List.drop m zs = ys := ⟨_, rfl⟩
  rw [hys] at hown3
  have HY := Lib.hid hys; clear hys
  have c1 := owns_cell hown3 m (by omega)
  have f1 := hown3.frozenAt m
  have i1 : (m : Int) < 128 := by omega
  go_upto_region 7 with (fail)
  have hown4 := owns_set hown3 m 128
  have hb4 : Below g w (w3.setCell ⟨g, m, none⟩ (.int .u8 128)) := hb3.setCell (p := ⟨g, m, none⟩) (Nat.le_refl _) _
  clear c1 f1 hown3 hb3 hsz'
  generalize w3.setCell ⟨g, m, none⟩ (.int .u8 128) = w4 at *
  clear hg
  go_upto_region 9 with (fail)
  go_loopw [25] (fun vi wr => ∃ (i : Nat) (zs : List Int), i ≤ 8 ∧ vi = .int .i64 i ∧ wr.ownsRow g 5 1 (.slice (some ⟨g, 0, none⟩) 128 128) 128 (zs.map (Value.int .u8)) ∧ Below g w wr ∧
      Hid (zs.length = 128 ∧ ∀ j, j < 128 → zs.getD j 0 = if 128 - 1 - j < i then ((n : Int) * 8) / 2 ^ (8 * (128 - 1 - j)) % 256 else if j = m then 128 else if j < m then xs.getD j 0 else 0)) (fun vi _ => 8 - (intOf vi).toNat)
  case atStart =>
    refine ⟨0, _, Nat.zero_le _, rfl, hown4, hb4, Lib.hid ⟨?_, ?_⟩⟩
    · rw [List.length_set, ← HY.out, ← HZ.out]; simp [HX.out]; omega
    · intro j hj
      rw [if_neg (by omega), getD_set, ← HY.out]
      by_cases e : j = m
      · rw [if_pos ⟨e.symm, by rw [← HZ.out]; simp [HX.out]; omega⟩, if_pos e]
      · rw [if_neg (fun h => e h.1.symm), if_neg e]
        by_cases h1 : j < m
        · rw [if_pos h1, getD_append_l _ _ _ (by rw [HX.out]; exact h1)]
        · rw [if_neg h1, getD_append_r _ _ _ (by rw [HX.out]; omega), ← HZ.out, List.drop_replicate, getD_rep]
  case round =>
    obtain ⟨i, zs, hi, rfl, own, hb, Hz⟩ := hrel
    clear hown4 hb4
    by_cases hlt : i < 8
    · have hc := owns_cell own (128 - 1 - i) (by omega)
      have hfz := own.frozenAt (128 - 1 - i)
      have e1 : ((128 : Int) - 1 - i).toNat = 128 - 1 - i := by omega
      have hlt' : (i : Int) < 8 := by omega
      have hx : (0 : Int) ≤ ((n : Int) * 8) / 2 ^ (8 * i) := Int.ediv_nonneg (by omega) (by exact_mod_cast Nat.zero_le _)
      go_wp2
      go_roundw
      case rel =>
        obtain ⟨hzl, hzj⟩ := Hz.out
        refine ⟨i + 1, zs.set (128 - 1 - i) (((n : Int) * 8) / 2 ^ (8 * i) % 256), by omega, by go_num, owns_set own _ _, hb.setCell (p := ⟨g, 128 - 1 - i, none⟩) (Nat.le_refl _) _, Lib.hid ⟨by rw [List.length_set, hzl], fun j hj => ?_⟩⟩
        rw [getD_set, hzl, hzj j hj]
        by_cases e : 128 - 1 - i = j
        · rw [if_pos ⟨e, by omega⟩, if_pos (by omega), show 128 - 1 - j = i by omega]
        · rw [if_neg (fun h => e h.1)]
          by_cases h2 : 128 - 1 - j < i
          · rw [if_pos h2, if_pos (by omega)]
          · rw [if_neg h2, if_neg (show ¬ 128 - 1 - j < i + 1 by omega)]
      case measure => simp [intOf]; omega
    · have hi8 : i = 8 := by omega
      have hnl : ¬ (i : Int) < 8 := by omega
      go_wp2
      go_ret
      obtain ⟨hzl, hzj⟩ := Hz.out
      have e : zs = closeS xs n := ext_getD (by rw [hzl, HS.out]) fun j hj => by
        rw [hzj j (by omega), closeS_getD xs n 128 j (by rw [HX.out]; exact HM.out) HS.out (by omega), hi8, HM.out]
      subst e
      unfold RetS
      rw [HS.out, HG.out]
      exact ⟨_, _, rfl, own, hb⟩

set_option maxHeartbeats 2000000 in
theorem closing64 (b : Option Addr) (m cap n : Nat) (xs : List Int) (w : World) (hr : Reads .u8 w b m cap xs) (hm : m = n % 64) (hn : n ≤ 140737488355328) (hsz : ¬ 64 < m + 9) :
    Calls Try.prog 18 #[.slice b m cap, .int .i64 n] w (RetS w (closeS xs n)) := by
  have hxl := hr.len
  have hcap := hr.le
  obtain ⟨i0, hi, hz0, hz1, hz2⟩ := info_parts infoC
  have Hi := Lib.hid hi; have Hz0 := Lib.hid hz0; have Hz1 := Lib.hid hz1; have Hz2 := Lib.hid hz2
  clear hi hz0 hz1 hz2
  have hs : (closeS xs n).length = 64 := by rw [closeS_len xs n (by omega), if_neg (by omega)]
  have HS := Lib.hid hs
  have HR := Lib.hid hr; have HX := Lib.hid hxl
  have HM := Lib.hid hm
  have h9 : m + 9 ≤ 64 := by omega
  have hsz' : ¬ (64 : Int) < (m : Int) + 9 := by omega
  clear hs hr hxl hm hsz
  have u1 : IntKind.u64.wrap (n : Int) = n := by rw [IntKind.wrap_u64]; omega
  have u2 : IntKind.u64.wrap ((n : Int) * 8) = (n : Int) * 8 := by rw [IntKind.wrap_u64]; omega
  go_enter Try.func18, Try.ntmps18
  go_wp2_with (at_make; refine wpList_make_full _ rfl _ _ 22 rfl w.heap.size 5 i0 (.int .u8 0) 1 Try.underlying22 Hi.out Hz0.out Hz1.out _ _ _ _ 64 rfl rfl (by first | rfl | omega) (by first | rfl | omega) (by rw [Hz2.out]; omega) (by unfold maxLen; omega) (Nat.le_refl _) ?_)
  intro w2 hown hgrow
  rw [toList_made 64 .u8] at hown
  have hb0 : Below w.heap.size w w2 := (Below.refl _ _).grown hgrow (Nat.le_refl _) (fun k h => nomatch h)
  clear hgrow
  have hr2 := HR.out.below hb0
  generalize hg : w.heap.size = g at *
  have HG := Lib.hid hg
  obtain ⟨zs, hzs⟩ : ∃ zs, List.replicate 64 (0 : Int) = zs := ⟨_, rfl⟩
  rw [hzs] at hown
  have HZ := Lib.hid hzs; clear hzs
  go_wp2_with (refine wpList_copy_row rfl _ _ 22 rfl g 5 Try.underlying22 (by rw [Hi.out]; exact congrArg some Hz1.out) .u8 g 0 64 64 64 64 zs hown rfl b m cap xs rfl hr2 m (Nat.min_eq_left (by omega)).symm (by omega) ?_)
  intro w3 hown3 hgrow3
  have hb3 : Below g w w3 := hb0.grown hgrow3 (by have := hb0.size; omega) (fun k h => by cases h; exact Nat.le_refl _)
  clear hgrow3 hown hb0 hr2
  rw [← List.map_take, ← List.map_drop, ← List.map_append, List.take_of_length_le (Nat.le_of_eq HX.out)] at hown3
  obtain ⟨ys, hys⟩ : ∃ ys, xs ++ List.drop m zs = ys := ⟨_, rfl⟩
  rw [hys] at hown3
  have HY := Lib.hid hys; clear hys
  have c1 := owns_cell hown3 m (by omega)
  have f1 := hown3.frozenAt m
  have i1 : (m : Int) < 64 := by omega
  go_upto_region 7 with (fail)
  have hown4 := owns_set hown3 m 128
  have hb4 : Below g w (w3.setCell ⟨g, m, none⟩ (.int .u8 128)) := hb3.setCell (p := ⟨g, m, none⟩) (Nat.le_refl _) _
  clear c1 f1 hown3 hb3 hsz'
  generalize w3.setCell ⟨g, m, none⟩ (.int .u8 128) = w4 at *
  clear hg
  go_upto_region 9 with (fail)
  go_loopw [25] (fun vi wr => ∃ (i : Nat) (zs : List Int), i ≤ 8 ∧ vi = .int .i64 i ∧ wr.ownsRow g 5 1 (.slice (some ⟨g, 0, none⟩) 64 64) 64 (zs.map (Value.int .u8)) ∧ Below g w wr ∧
      Hid (zs.length = 64 ∧ ∀ j, j < 64 → zs.getD j 0 = if 64 - 1 - j < i then ((n : Int) * 8) / 2 ^ (8 * (64 - 1 - j)) % 256 else if j = m then 128 else if j < m then xs.getD j 0 else 0)) (fun vi _ => 8 - (intOf vi).toNat)
  case atStart =>
    refine ⟨0, _, Nat.zero_le _, rfl, hown4, hb4, Lib.hid ⟨?_, ?_⟩⟩
    · rw [List.length_set, ← HY.out, ← HZ.out]; simp [HX.out]; omega
    · intro j hj
      rw [if_neg (by omega), getD_set, ← HY.out]
      by_cases e : j = m
      · rw [if_pos ⟨e.symm, by rw [← HZ.out]; simp [HX.out]; omega⟩, if_pos e]
      · rw [if_neg (fun h => e h.1.symm), if_neg e]
        by_cases h1 : j < m
        · rw [if_pos h1, getD_append_l _ _ _ (by rw [HX.out]; exact h1)]
        · rw [if_neg h1, getD_append_r _ _ _ (by rw [HX.out]; omega), ← HZ.out, List.drop_replicate, getD_rep]
  case round =>
    obtain ⟨i, zs, hi, rfl, own, hb, Hz⟩ := hrel
    clear hown4 hb4
    by_cases hlt : i < 8
    · have hc := owns_cell own (64 - 1 - i) (by omega)
      have hfz := own.frozenAt (64 - 1 - i)
      have e1 : ((64 : Int) - 1 - i).toNat = 64 - 1 - i := by omega
      have hlt' : (i : Int) < 8 := by omega
      have hx : (0 : Int) ≤ ((n : Int) * 8) / 2 ^ (8 * i) := Int.ediv_nonneg (by omega) (by exact_mod_cast Nat.zero_le _)
      go_wp2
      go_roundw
      case rel =>
        obtain ⟨hzl, hzj⟩ := Hz.out
        refine ⟨i + 1, zs.set (64 - 1 - i) (((n : Int) * 8) / 2 ^ (8 * i) % 256), by omega, by go_num, owns_set own _ _, hb.setCell (p := ⟨g, 64 - 1 - i, none⟩) (Nat.le_refl _) _, Lib.hid ⟨by rw [List.length_set, hzl], fun j hj => ?_⟩⟩
        rw [getD_set, hzl, hzj j hj]
        by_cases e : 64 - 1 - i = j
        · rw [if_pos ⟨e, by omega⟩, if_pos (by omega), show 64 - 1 - j = i by omega]
        · rw [if_neg (fun h => e h.1)]
          by_cases h2 : 64 - 1 - j < i
          · rw [if_pos h2, if_pos (by omega)]
          · rw [if_neg h2, if_neg (show ¬ 64 - 1 - j < i + 1 by omega)]
      case measure => simp [intOf]; omega
    · have hi8 : i = 8 := by omega
      have hnl : ¬ (i : Int) < 8 := by omega
      go_wp2
      go_ret
      obtain ⟨hzl, hzj⟩ := Hz.out
      have e : zs = closeS xs n := ext_getD (by rw [hzl, HS.out]) fun j hj => by
        rw [hzj j (by omega), closeS_getD xs n 64 j (by rw [HX.out]; exact HM.out) HS.out (by omega), hi8, HM.out]
      subst e
      unfold RetS
      rw [HS.out, HG.out]
      exact ⟨_, _, rfl, own, hb⟩

theorem closing_any (b : Option Addr) (m cap n : Nat) (xs : List Int) (w : World) (hr : Reads .u8 w b m cap xs) (hm : m = n % 64) (hn : n ≤ 140737488355328) :
    Calls Try.prog 18 #[.slice b m cap, .int .i64 n] w (RetS w (closeS xs n)) := by
  by_cases h : 64 < m + 9
  · exact closing128 b m cap n xs w hr hm hn h
  · exact closing64 b m cap n xs w hr hm hn h
end Go.Proofs.Ytkfcjlegeccgjaa
