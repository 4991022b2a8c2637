/-
  A row given back (filt.Undo): plain lists, and its contract.
-/
import Derived.Test.YtkbbnmcbekhioaaFiltFirst
namespace Go.Proofs.Ytkbbnmcbekhioaa
open Go.RowKit

/-- A row of which the beginning is known, given back. -/
def unPre (kind : Int) (bpp : Nat) (prev row : List Int) : Nat → List Int
  | 0 => []
  | k + 1 => unPre kind bpp prev row k ++ [(row.getD k 0 + gss kind bpp prev (unPre kind bpp prev row k) k) % 256]
theorem unPre_len (kind : Int) (bpp : Nat) (prev row : List Int) (k : Nat) : (unPre kind bpp prev row k).length = k := by
  induction k with
  | zero => rfl
  | succ k ih => simp [unPre, ih]
def unL (kind : Int) (bpp : Nat) (prev row : List Int) : List Int := unPre kind bpp prev row row.length
theorem unL_len (kind : Int) (bpp : Nat) (prev row : List Int) : (unL kind bpp prev row).length = row.length := unPre_len _ _ _ _ _
theorem unPre_isB (kind : Int) (bpp : Nat) (prev row : List Int) (k : Nat) : isB (unPre kind bpp prev row k) := by
  induction k with
  | zero => exact isB.nil
  | succ k ih => exact ih.append (isB.one (by omega) (by omega))
theorem unL_isB (kind : Int) (bpp : Nat) (prev row : List Int) : isB (unL kind bpp prev row) := unPre_isB _ _ _ _ _
theorem unPre_getD (kind : Int) (bpp : Nat) (prev row : List Int) (j : Nat) : ∀ k, j < k → (unPre kind bpp prev row k).getD j 0 = (unPre kind bpp prev row (j + 1)).getD j 0 := by
  intro k
  induction k with
  | zero => intro h; omega
  | succ k ih =>
    intro h
    by_cases e : j = k
    · subst e; rfl
    · rw [← ih (by omega), unPre]
      simp only [List.getD]
      rw [List.getElem?_append_left (by rw [unPre_len]; omega)]
/-- What a byte is held against hangs on the bytes ahead of it alone. -/
theorem gss_front (kind : Int) (bpp : Nat) (prev xs ys : List Int) (i : Nat) (hb : 1 ≤ bpp) (h : ∀ j, j < i → xs.getD j 0 = ys.getD j 0) : gss kind bpp prev xs i = gss kind bpp prev ys i := by
  unfold gss lback
  by_cases hi : bpp ≤ i
  · simp only [if_pos hi]; rw [h (i - bpp) (by omega)]
  · simp only [if_neg hi]
theorem unL_getD (kind : Int) (bpp : Nat) (prev row : List Int) (i : Nat) (hb : 1 ≤ bpp) (h : i < row.length) : (unL kind bpp prev row).getD i 0 = (row.getD i 0 + gss kind bpp prev (unL kind bpp prev row) i) % 256 := by
  rw [gss_front kind bpp prev (unL kind bpp prev row) (unPre kind bpp prev row i) i hb fun j hj => ?_]
  · unfold unL
    rw [unPre_getD _ _ _ _ i _ h, unPre]
    simp only [List.getD]
    rw [List.getElem?_append_right (by rw [unPre_len]; exact Nat.le_refl _), unPre_len]
    simp
  · unfold unL
    rw [unPre_getD _ _ _ _ j _ (by omega), unPre_getD _ _ _ _ j _ hj]
/-- Filtered and back. -/
theorem unL_doL (kind : Int) (bpp : Nat) (prev row : List Int) (hr : isB row) (hb : 1 ≤ bpp) : unL kind bpp prev (doL kind bpp prev row) = row := by
  apply ext_getD (by rw [unL_len, doL_len])
  intro i
  induction i using Nat.strongRecOn with
  | _ i ih =>
    intro hi
    rw [unL_len, doL_len] at hi
    rw [unL_getD _ _ _ _ _ hb (by rw [doL_len]; exact hi), doL_getD _ _ _ _ _ hi, gss_front kind bpp prev (unL kind bpp prev (doL kind bpp prev row)) row i hb fun j hj => ih j hj (by rw [unL_len, doL_len]; omega)]
    have := hr.get i hi
    omega
/-- Back and filtered. -/
theorem doL_unL (kind : Int) (bpp : Nat) (prev row : List Int) (hr : isB row) (hb : 1 ≤ bpp) : doL kind bpp prev (unL kind bpp prev row) = row := by
  apply ext_getD (by rw [doL_len, unL_len])
  intro i hi
  rw [doL_len, unL_len] at hi
  rw [doL_getD _ _ _ _ _ (by rw [unL_len]; exact hi), unL_getD _ _ _ _ _ hb hi]
  have := hr.get i hi
  omega

theorem undo_no (kind bpp : Int) (pa ra : Option Addr) (pn pc rn rc : Nat) (w : World) (hp : pn ≤ 9223372036854775807) (hr : rn ≤ 9223372036854775807) (h0 : -9223372036854775808 ≤ kind ∧ kind ≤ 9223372036854775807) (h1 : -9223372036854775808 ≤ bpp ∧ bpp ≤ 9223372036854775807) (h : mayE kind bpp pn rn ≠ 0) :
    Calls Try.prog 12 #[.int .i64 kind, .int .i64 bpp, .slice pa pn pc, .slice ra rn rc] w fun e w' => e = .returned (.tuple #[.slice Option.none 0 0, .int .i64 (mayE kind bpp pn rn)]) ∧ w' = w := by
  have hb : (mayE kind bpp pn rn != 0) = true := by simpa using h
  go_enter Try.func12, Try.ntmps12
  go_wp2_with fail
  refine (may_any kind bpp pa ra pn pc rn rc w hp hr h0 h1).mono ?_; rintro e w1 ⟨rfl, rfl⟩
  go_wp2
  go_ret2
  exact ⟨rfl, rfl⟩

set_option maxHeartbeats 1000000 in
theorem undo_yes (kind : Int) (bpp : Nat) (pa ra : Option Addr) (pn pc rn rc : Nat) (ps rs : List Int) (w : World) (hp : Reads .u8 w pa pn pc ps) (hr : Reads .u8 w ra rn rc rs) (bp : isB ps) (br : isB rs) (h : mayE kind bpp pn rn = 0) (hsz : rn ≤ 1000000) :
    Calls Try.prog 12 #[.int .i64 kind, .int .i64 bpp, .slice pa pn pc, .slice ra rn rc] w (RetB w (unL kind bpp ps rs) 0) := by
  obtain ⟨hk, hb1, hb8, hpr⟩ := mayE_zero h
  have hp63 := hp.n63.1
  have Hl := Lib.hid hr.len
  obtain ⟨i0, hi, hz0, hz1, hz2⟩ := info_parts infoB
  have Hi := Lib.hid hi; have Hz0 := Lib.hid hz0; have Hz1 := Lib.hid hz1; have Hz2 := Lib.hid hz2
  have Hpr := Lib.hid hpr
  clear hi hz0 hz1 hz2 hpr
  go_enter Try.func12, Try.ntmps12
  go_wp2_with fail
  refine (may_any kind bpp pa ra pn pc rn rc w hp63 (by omega) (by omega) (by omega)).mono ?_; rintro e w1 ⟨rfl, rfl⟩
  rw [h]
  clear h
  go_wp2_with (at_make; refine wpList_make_full _ rfl _ _ 22 rfl w1.heap.size 5 i0 (.int .u8 0) 1 Try.underlying22 Hi.out Hz0.out Hz1.out _ _ _ _ rn rfl rfl (by first | rfl | omega) (by first | rfl | omega) (by rw [Hz2.out]; omega) (by unfold maxLen; omega) (Nat.le_refl _) ?_)
  intro w2 hown hgrow
  rw [toList_made rn .u8] at hown
  have hb0 : Below w1.heap.size w1 w2 := (Below.refl _ _).grown hgrow (Nat.le_refl _) (fun k h => nomatch h)
  clear hgrow
  generalize hg : w1.heap.size = g at *
  have HG := Lib.hid hg; clear hg
  generalize hxs : List.replicate rn (0 : Int) = xs at hown
  have Hxs := Lib.hid hxs; clear hxs
  go_wp2
  go_loopw [27] (fun i wr => ∃ (k : Nat) (xs : List Int), k ≤ rn ∧ i = .int .i64 k ∧ wr.ownsRow g 5 1 (.slice (some ⟨g, 0, Option.none⟩) rn rn) rn (xs.map (Value.int .u8)) ∧ Below g w1 wr ∧
      Hid (xs.length = rn ∧ ∀ j, j < rn → xs.getD j 0 = if j < k then (unL kind bpp ps rs).getD j 0 else 0)) (fun i _ => rn - (intOf i).toNat)
  case atStart =>
    refine ⟨0, xs, Nat.zero_le _, rfl, hown, hb0, ?_⟩
    rw [← Hxs.out]
    exact ⟨by simp, fun j hj => by simp [List.getD, hj]⟩
  case round =>
    obtain ⟨k, ys, hkk, rfl, ho, hbel, Hy⟩ := hrel
    clear hown hb0 Hxs
    by_cases hlt : k < rn
    · have hr' : Reads .u8 wr ra rn rc rs := hr.below (by rw [HG.out]; exact hbel)
      have hp' : Reads .u8 wr pa pn pc ps := hp.below (by rw [HG.out]; exact hbel)
      have bys : isB ys := by
        intro x hx
        obtain ⟨j, hj, rfl⟩ := List.getElem_of_mem hx
        have hj2 : j < rn := by rw [← Hy.out.1]; exact hj
        have := Hy.out.2 j hj2
        rw [List.getD, List.getElem?_eq_getElem hj] at this
        simp only [Option.getD_some] at this
        rw [this]
        split
        · have := getD_bd (unL_isB kind bpp ps rs) j; omega
        · omega
      have hcall := guess_any kind bpp k pa (some ⟨g, 0, Option.none⟩) pn pc rn rn ps ys wr hp' (reads_of_owns ho) bp bys hk (by omega) hlt (fun hn => by rw [Hpr.out hn]; exact hlt)
      have hgs : gss kind bpp ps ys k = gss kind bpp ps (unL kind bpp ps rs) k := gss_front kind bpp ps _ _ k (by omega) fun j hj => by rw [Hy.out.2 j (by omega), if_pos hj]
      rw [hgs] at hcall
      have hgb : 0 ≤ gss kind bpp ps (unL kind bpp ps rs) k ∧ gss kind bpp ps (unL kind bpp ps rs) k ≤ 255 := gss_bd bp (unL_isB _ _ _ _) k
      have hV : Hid ((unL kind bpp ps rs).getD k 0 = (rs.getD k 0 + gss kind bpp ps (unL kind bpp ps rs) k) % 256) := unL_getD _ _ _ _ _ (by omega) (by rw [Hl.out]; exact hlt)
      obtain ⟨b, off, rfl, hc1⟩ := hr'.cellAt k hlt
      have hc := owns_cell ho k (by omega)
      have hfz := ho.frozenAt k
      have hx := getD_bd br k
      have HC := Lib.hid hcall; clear hcall
      generalize rs.getD k 0 = x at *
      clear hr hp hr' hp' bp br bys hgs
      go_wp2_with fail
      refine HC.out.mono ?_; rintro e w' ⟨rfl, rfl⟩
      generalize gss kind bpp ps (unL kind bpp ps rs) k = gv at *
      clear HC
      go_wp2_with fail
      go_roundw
      case rel =>
        obtain ⟨hyl, hyj⟩ := Hy.out
        refine ⟨k + 1, ys.set k ((x + gv) % 256), by omega, by go_num, owns_set ho _ _, hbel.setCell (p := ⟨g, k, Option.none⟩) (Nat.le_refl _) _, by simpa using hyl, fun j hj => ?_⟩
        rw [getD_set, hyj j hj]
        by_cases e : j = k
        · rw [if_pos ⟨e.symm, by omega⟩, if_pos (by omega), e, hV.out]
        · rw [if_neg (fun h => e h.1.symm)]
          by_cases h2 : j < k
          · rw [if_pos h2, if_pos (by omega)]
          · rw [if_neg h2, if_neg (by omega)]
      case measure => simp [intOf]; omega
    · obtain rfl : k = rn := by omega
      go_wp2
      go_ret2
      obtain ⟨hyl, hyj⟩ := Hy.out
      have e : ys = unL kind bpp ps rs := ext_getD (by rw [hyl, unL_len, Hl.out]) fun j hj => by
        rw [hyj j (by omega), if_pos (by omega)]
      subst e
      unfold RetB
      rw [unL_len, Hl.out, HG.out]
      exact ⟨g, k, rfl, ho, hbel⟩

/-! ### The best -/
/-- Of the first k kinds the one of the least weight. -/
def bst (bpp : Nat) (prev row : List Int) : Nat → Nat
  | 0 => 0
  | k + 1 => if k = 0 ∨ wt (doL k bpp prev row) < wt (doL (bst bpp prev row k) bpp prev row) then k else bst bpp prev row k
theorem bst_le (bpp : Nat) (prev row : List Int) (k : Nat) : bst bpp prev row (k + 1) ≤ k := by
  induction k with
  | zero => unfold bst; rw [if_pos (.inl rfl)]; exact Nat.le_refl _
  | succ k ih => unfold bst; split <;> omega
theorem bst_min (bpp : Nat) (prev row : List Int) : ∀ (k i : Nat), i < k → wt (doL (bst bpp prev row k) bpp prev row) ≤ wt (doL i bpp prev row) ∧ (wt (doL i bpp prev row) = wt (doL (bst bpp prev row k) bpp prev row) → bst bpp prev row k ≤ i) := by
  intro k
  induction k with
  | zero => intro i h; omega
  | succ k ih =>
    intro i hi
    unfold bst
    split
    · rename_i h
      by_cases e : i = k
      · subst e; exact ⟨Int.le_refl _, fun _ => Nat.le_refl _⟩
      · have := ih i (by omega)
        rcases h with h | h
        · omega
        · refine ⟨by omega, fun h2 => by omega⟩
    · rename_i h
      by_cases e : i = k
      · subst e
        have hk : i ≠ 0 := fun h0 => h (.inl h0)
        have h2 : ¬ wt (doL i bpp prev row) < wt (doL (bst bpp prev row i) bpp prev row) := fun h0 => h (.inr h0)
        refine ⟨by omega, fun _ => ?_⟩
        obtain ⟨j, rfl⟩ : ∃ j, i = j + 1 := ⟨i - 1, by omega⟩
        have := bst_le bpp prev row j
        omega
      · exact ih i (by omega)

def RetBest (w : World) (best : Nat) (xs : List Int) (e : Ending) (w' : World) : Prop := ∃ a cap, e = .returned (.tuple #[.int .i64 best, .slice a xs.length cap, .int .i64 0]) ∧ Reads .u8 w' a xs.length cap xs ∧ Below w.heap.size w w'

theorem best_no (bpp : Int) (pa ra : Option Addr) (pn pc rn rc : Nat) (w : World) (hp : pn ≤ 9223372036854775807) (hr : rn ≤ 9223372036854775807) (h1 : -9223372036854775808 ≤ bpp ∧ bpp ≤ 9223372036854775807) (h : mayE 0 bpp pn rn ≠ 0) :
    Calls Try.prog 14 #[.int .i64 bpp, .slice pa pn pc, .slice ra rn rc] w fun e w' => e = .returned (.tuple #[.int .i64 0, .slice Option.none 0 0, .int .i64 (mayE 0 bpp pn rn)]) ∧ w' = w := by
  have hb : (mayE 0 bpp pn rn != 0) = true := by simpa using h
  have hc := do_no 0 bpp pa ra pn pc rn rc w hp hr (by omega) h1 h
  have HC := Lib.hid hc; clear hc
  go_enter Try.func14, Try.ntmps14
  go_wp2_with fail
  refine wp_loop_once ?_
  go_wp2_with fail
  refine HC.out.mono ?_; rintro e w1 ⟨rfl, rfl⟩
  go_wp2_with fail
  go_ret3
  exact ⟨rfl, rfl⟩

set_option maxHeartbeats 1000000 in
theorem best_yes (bpp : Nat) (pa ra : Option Addr) (pn pc rn rc : Nat) (ps rs : List Int) (w : World) (hp : Reads .u8 w pa pn pc ps) (hr : Reads .u8 w ra rn rc rs) (bp : isB ps) (br : isB rs) (h : mayE 0 bpp pn rn = 0) (hsz : rn ≤ 1000000) :
    Calls Try.prog 14 #[.int .i64 bpp, .slice pa pn pc, .slice ra rn rc] w (RetBest w (bst bpp ps rs 5) (doL (bst bpp ps rs 5) bpp ps rs)) := by
  have Hl := Lib.hid hr.len
  have hall : ∀ j : Nat, j < 5 → mayE j bpp pn rn = 0 := by
    intro j hj
    have := mayE_zero h
    unfold mayE
    rw [if_neg (by omega), if_neg (by omega)]
  have Hall := Lib.hid hall
  clear hall h
  go_enter Try.func14, Try.ntmps14
  go_wp2_with fail
  go_loopw [9, 10, 11] (fun b o k wr => ∃ (j : Nat) (a' : Option Addr) (n' c' : Nat) (ys : List Int), j ≤ 5 ∧ k = .int .i64 j ∧ b = .int .i64 (bst bpp ps rs j : Nat) ∧ o = .slice a' n' c' ∧ Below w.heap.size w wr ∧ Reads .u8 wr a' n' c' ys ∧ Hid (0 < j → ys = doL (bst bpp ps rs j) bpp ps rs)) (fun _ _ k _ => (5 - intOf k).toNat)
  case atStart => exact ⟨0, Option.none, 0, 0, [], by omega, rfl, rfl, rfl, Below.refl _ _, Reads.none _ _, fun h => by omega⟩
  case round =>
    obtain ⟨j, a', n', c', ys, hj, rfl, rfl, rfl, hbel, hy, HY⟩ := hrel
    by_cases hlt : j < 5
    · have hr' : Reads .u8 wr ra rn rc rs := hr.below hbel
      have hp' : Reads .u8 wr pa pn pc ps := hp.below hbel
      go_wp2_with fail
      refine (do_yes j bpp pa ra pn pc rn rc ps rs wr hp' hr' bp br (Hall.out j hlt) hsz).mono ?_
      rintro e w2 ⟨g2, c2, rfl, ho2, hb2⟩
      rw [doL_len, Hl.out] at ho2
      rw [doL_len, Hl.out]
      have hb3 := below_size hbel hb2
      have hd2 := reads_of_owns ho2
      have hy2 := hy.below hb2
      clear hr' hp' ho2 hb2 hbel hy
      by_cases h0 : j = 0
      · subst h0
        have hz : (((0 : Nat) : Int) == 0) = true := rfl
        have HB : Hid (bst bpp ps rs (0 + 1) = 0) := by unfold Hid bst; rw [if_pos (.inl rfl)]
        go_wp2_with fail
        go_roundw
        case rel => exact ⟨0 + 1, some ⟨g2, 0, Option.none⟩, rn, c2, _, by omega, by go_num, by rw [HB.out]; rfl, rfl, hb3, hd2, fun _ => by rw [HB.out]⟩
        case measure => simp [intOf]
      · have hz : ((j : Int) == 0) = false := by rw [beq_eq_false_iff_ne]; omega
        have e : ys = doL (bst bpp ps rs j) bpp ps rs := HY.out (by omega)
        have hn' : rn = n' := by rw [← hy2.len, e, doL_len, Hl.out]
        subst hn'
        subst e
        have HB : Hid (bst bpp ps rs (j + 1) = if wt (doL j bpp ps rs) < wt (doL (bst bpp ps rs j) bpp ps rs) then j else bst bpp ps rs j) := by
          unfold Hid; rw [bst]; simp only [h0, false_or]
        by_cases hw : wt (doL j bpp ps rs) < wt (doL (bst bpp ps rs j) bpp ps rs)
        · have HB2 : Hid (bst bpp ps rs (j + 1) = j) := by unfold Hid; rw [HB.out, if_pos hw]
          go_wp2_with fail
          refine (weight_any _ rn c2 _ w2 hd2 (doL_isB _ _ _ _) hsz).mono ?_; rintro e w3 ⟨rfl, rfl⟩
          go_wp2_with fail
          refine (weight_any _ rn c' _ w3 hy2 (doL_isB _ _ _ _) (by omega)).mono ?_; rintro e w4 ⟨rfl, rfl⟩
          go_wp2_with fail
          go_roundw
          case rel => exact ⟨j + 1, some ⟨g2, 0, Option.none⟩, rn, c2, _, by omega, by go_num, by rw [HB2.out], rfl, hb3, hd2, fun _ => by rw [HB2.out]⟩
          case measure => simp [intOf]; omega
        · have HB2 : Hid (bst bpp ps rs (j + 1) = bst bpp ps rs j) := by unfold Hid; rw [HB.out, if_neg hw]
          go_wp2_with fail
          refine (weight_any _ rn c2 _ w2 hd2 (doL_isB _ _ _ _) hsz).mono ?_; rintro e w3 ⟨rfl, rfl⟩
          go_wp2_with fail
          refine (weight_any _ rn c' _ w3 hy2 (doL_isB _ _ _ _) (by omega)).mono ?_; rintro e w4 ⟨rfl, rfl⟩
          go_wp2_with fail
          go_roundw
          case rel => exact ⟨j + 1, a', rn, c', _, by omega, by go_num, by rw [HB2.out], rfl, hb3, hy2, fun _ => by rw [HB2.out]⟩
          case measure => simp [intOf]; omega
    · obtain rfl : j = 5 := by omega
      have e := HY.out (by omega)
      subst e
      go_wp2_with fail
      go_ret3
      unfold RetBest
      have hl := hy.len
      rw [hl]
      exact ⟨a', c', rfl, hy, hbel⟩
end Go.Proofs.Ytkbbnmcbekhioaa
