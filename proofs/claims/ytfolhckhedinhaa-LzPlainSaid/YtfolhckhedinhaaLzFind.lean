/-
  lz.Find: the list of tokens.
-/
import Derived.Test.YtfolhckhedinhaaLzMatch
namespace Go.Proofs.Ytfolhckhedinhaa
open Go.RowKit

abbrev Tok := Int × Int × Int
def flatT : List Tok → List Value
  | [] => []
  | t :: ts => .int .i64 t.1 :: .int .i64 t.2.1 :: .int .i64 t.2.2 :: flatT ts
theorem flatT_append (ds es : List Tok) : flatT (ds ++ es) = flatT ds ++ flatT es := by
  induction ds with
  | nil => rfl
  | cons d ds ih => simp [flatT, ih]
theorem flatT_length (ds : List Tok) : (flatT ds).length = ds.length * 3 := by
  induction ds with
  | nil => rfl
  | cons d ds ih => simp [flatT, ih]; omega
theorem flatT_get (ds : List Tok) (i : Nat) (h : i < ds.length) : (flatT ds)[i * 3]? = some (.int .i64 ds[i].1) ∧ (flatT ds)[i * 3 + 1]? = some (.int .i64 ds[i].2.1) ∧ (flatT ds)[i * 3 + 2]? = some (.int .i64 ds[i].2.2) := by
  induction ds generalizing i with
  | nil => simp at h
  | cons d ds ih =>
    cases i with
    | zero => simp [flatT]
    | succ i =>
      have := ih i (by simpa using h)
      rw [show (i + 1) * 3 = i * 3 + 3 by omega]
      simpa [flatT] using this

theorem mW_le (xs : List Int) (a most : Nat) : ∀ (f : Nat) (p : Int) (l d : Nat), l ≤ most → (mW xs a most f p l d).1 ≤ most := by
  intro f
  induction f with
  | zero => intro p l d h; exact h
  | succ f ih =>
    intro p l d h
    rw [mW]
    split
    · exact h
    · have := lcp_le xs p.toNat a most
      refine ih _ _ _ ?_
      split <;> omega
theorem mtch_le (xs : List Int) (a : Nat) : (mtch xs a).1 ≤ mostOf xs.length a := mW_le _ _ _ _ _ _ _ (Nat.zero_le _)
/-- Where it goes back to. -/
theorem mW_dist (xs : List Int) (a most : Nat) : ∀ (f : Nat) (p : Int) (l d : Nat), p < a → d ≤ a → (mW xs a most f p l d).2 ≤ a := by
  intro f
  induction f with
  | zero => intro p l d _ h; exact h
  | succ f ih =>
    intro p l d hp h
    rw [mW]
    split
    · exact h
    · have := (aheadV_bd xs p.toNat).2
      refine ih _ _ _ (by omega) ?_
      split <;> omega
theorem mtch_dist (xs : List Int) (a : Nat) : (mtch xs a).2 ≤ a := mW_dist _ _ _ _ _ _ _ (aheadV_bd xs a).2 (Nat.zero_le _)

def tokAt (xs : List Int) (a : Nat) : Tok := if (mtch xs a).1 = 0 then (0, 0, xs.getD a 0) else (((mtch xs a).1 : Nat), ((mtch xs a).2 : Nat), 0)
def stepAt (xs : List Int) (a : Nat) : Nat := if (mtch xs a).1 = 0 then 1 else (mtch xs a).1
theorem stepAt_pos (xs : List Int) (a : Nat) : 1 ≤ stepAt xs a := by unfold stepAt; split <;> omega
theorem stepAt_le (xs : List Int) (a : Nat) (h : a < xs.length) : a + stepAt xs a ≤ xs.length := by
  have := mtch_le xs a
  unfold mostOf at this
  unfold stepAt
  split <;> omega
/-- So many tokens, and where they end. -/
def iter (xs : List Int) : Nat → List Tok × Nat
  | 0 => ([], 0)
  | k + 1 => if (iter xs k).2 < xs.length then ((iter xs k).1 ++ [tokAt xs (iter xs k).2], (iter xs k).2 + stepAt xs (iter xs k).2) else iter xs k
def findL (xs : List Int) : List Tok := (iter xs xs.length).1
theorem iter_le (xs : List Int) (k : Nat) : (iter xs k).2 ≤ xs.length := by
  induction k with
  | zero => exact Nat.zero_le _
  | succ k ih =>
    rw [iter]
    split
    · next h => exact stepAt_le xs _ h
    · exact ih
theorem iter_ge (xs : List Int) (k : Nat) : (iter xs k).2 = xs.length ∨ k ≤ (iter xs k).2 := by
  induction k with
  | zero => exact .inr (Nat.zero_le _)
  | succ k ih =>
    rw [iter]
    split
    · next h =>
      have := stepAt_pos xs (iter xs k).2
      rcases ih with ih | ih
      · omega
      · exact .inr (by show k + 1 ≤ (iter xs k).2 + stepAt xs (iter xs k).2; omega)
    · next h =>
      have := iter_le xs k
      exact .inl (by omega)
theorem iter_stay (xs : List Int) (k j : Nat) (h : ¬ (iter xs k).2 < xs.length) : iter xs (k + j) = iter xs k := by
  induction j with
  | zero => rfl
  | succ j ih => rw [← Nat.add_assoc, iter, if_neg (by rw [ih]; exact h), ih]
theorem iter_end (xs : List Int) (k : Nat) (h : ¬ (iter xs k).2 < xs.length) : (iter xs k).1 = findL xs := by
  rcases Nat.le_total k xs.length with hk | hk
  · have := iter_stay xs k (xs.length - k) h
    rw [show k + (xs.length - k) = xs.length by omega] at this
    rw [findL, this]
  · have h' : ¬ (iter xs xs.length).2 < xs.length := by
      rcases iter_ge xs xs.length with e | e <;> omega
    have := iter_stay xs xs.length (k - xs.length) h'
    rw [show xs.length + (k - xs.length) = k by omega] at this
    rw [findL, this]
theorem iter_len (xs : List Int) (k : Nat) : (iter xs k).1.length ≤ (iter xs k).2 := by
  induction k with
  | zero => exact Nat.zero_le _
  | succ k ih =>
    rw [iter]
    split
    · have := stepAt_pos xs (iter xs k).2
      simp; omega
    · exact ih

theorem infoT : (Try.prog.info? 41).map (fun i => (i.zero, i.size, i.bytes)) = some (some (.agg #[.int .i64 0, .int .i64 0, .int .i64 0]), 3, 24) := by kernel_rfl
/-- New tokens and an error's number. -/
def RetT (w : World) (ts : List Tok) (E : Int) (e : Ending) (w' : World) : Prop := ∃ a cap, e = .returned (.tuple #[.slice a ts.length cap, .int .i64 E]) ∧ w'.ownsRow w.heap.size 41 3 (.slice a ts.length cap) ts.length (flatT ts) ∧ Below w.heap.size w w'

theorem owns_keep' {w : World} {base base' T size n : Nat} {v : Value} {xs : List Value} (h : w.ownsRow base T size v n xs) (hb : base' ≤ base) : w.ownsRow base' T size v n xs := by
  refine ⟨h.1, h.2.imp id ?_⟩
  rintro ⟨g, c, cur, e, hg, r⟩
  exact ⟨g, c, cur, e, Nat.le_trans hb hg, r⟩

theorem find_no (b : Option Addr) (n cap : Nat) (w : World) (hn : 40000 < n) (h63 : n ≤ 9223372036854775807) :
    Calls Try.prog 11 #[.slice b n cap] w (RetT w [] 10) := by
  have h1 : (40000 : Int) < n := by omega
  go_enter Try.func11, Try.ntmps11
  go_wp2
  go_ret2
  exact ⟨Option.none, 0, rfl, World.ownsRow_nil _ _ _ _, Below.refl _ _⟩

set_option maxRecDepth 100000 in
set_option maxHeartbeats 1000000 in
theorem find_yes (b : Option Addr) (n cap : Nat) (xs : List Int) (w : World) (hr : Reads .u8 w b n cap xs) (hx : isB xs) (hn : n ≤ 40000) :
    Calls Try.prog 11 #[.slice b n cap] w (RetT w (findL xs) 0) := by
  obtain ⟨i0, hi, hz0, hz1, hz2⟩ := info_parts infoT
  have Hi := Lib.hid hi; have Hz0 := Lib.hid hz0; have Hz1 := Lib.hid hz1; have Hz2 := Lib.hid hz2
  have HR := Lib.hid hr; have HX := Lib.hid hx; have HL := Lib.hid hr.len
  have h1 : decide ((40000 : Int) < n) = false := by simp; omega
  clear hi hz0 hz1 hz2 hr hx
  go_enter Try.func11, Try.ntmps11
  go_wp2_with fail
  refine (chains_any b n cap xs w HR.out HX.out (by omega)).mono ?_; rintro e w1 ⟨g1, k1, rfl, o1, b1⟩
  have ha := reads_of_owns o1
  have hal : (aheadL xs).length = n := by simp [aheadL, HL.out]
  rw [hal] at ha ⊢
  have HA := Lib.hid ha; have B1 := Lib.hid b1
  replace HR := Lib.hid (HR.out.below b1)
  clear o1 b1 ha hal
  go_wp2_with (at_make; refine wpList_make_own _ rfl _ _ 25 rfl w1.heap.size 41 i0 _ 3 Try.underlying25 Hi.out Hz0.out Hz1.out _ _ _ (n / 2) rfl rfl (by first | rfl | omega) (by rw [Hz2.out]; omega) (by unfold maxLen; omega) (Nat.le_refl _) ?_)
  intro w2 hown hgrow
  have B2 := Lib.hid (below_size B1.out ((Below.refl _ _).grown hgrow (Nat.le_refl _) (fun k h => nomatch h) : Below w1.heap.size w1 w2))
  have hb2 : Below w1.heap.size w1 w2 := (Below.refl _ _).grown hgrow (Nat.le_refl _) (fun k h => nomatch h)
  have HB2 := Lib.hid hb2
  have HO := Lib.hid hown
  clear hgrow hown hb2
  go_wp2_with fail
  go_loopw [5, 6] (fun vo vi wr => ∃ (k : Nat) (a : Option Addr) (ca : Nat), vo = .slice a (iter xs k).1.length ca ∧ vi = .int .i64 ((iter xs k).2 : Nat) ∧ wr.ownsRow w1.heap.size 41 3 (.slice a (iter xs k).1.length ca) (iter xs k).1.length (flatT (iter xs k).1) ∧ Below w1.heap.size w1 wr) (fun _ vi _ => n - (intOf vi).toNat)
  case atStart => exact ⟨0, _, _, rfl, rfl, HO.out, HB2.out⟩
  case round =>
    obtain ⟨k, a, ca, rfl, rfl, ho, hbel⟩ := hrel
    have HIL := Lib.hid (iter_le xs k)
    have hil := iter_len xs k
    clear HO
    obtain ⟨ts, at0, hit⟩ : ∃ ts at0, iter xs k = (ts, at0) := ⟨_, _, rfl⟩
    have HIT := Lib.hid hit
    rw [hit] at ho hil ⊢
    dsimp only at ho hil ⊢
    have hle : at0 ≤ n := by have := HIL.out; rw [hit, HL.out] at this; exact this
    clear hit HIL
    have HO := Lib.hid ho; have HB := Lib.hid hbel
    clear ho hbel
    by_cases hlt : at0 < n
    · have hcall := match_any b n cap xs (some ⟨g1, 0, Option.none⟩) n k1 at0 wr (HR.out.below HB.out) (HA.out.below HB.out) hlt (by omega)
      have hml := mtch_le xs at0
      have hmd := mtch_dist xs at0
      have HTA := Lib.hid (show tokAt xs at0 = (if (mtch xs at0).1 = 0 then ((0, 0, xs.getD at0 0) : Tok) else ((((mtch xs at0).1 : Nat) : Int), (((mtch xs at0).2 : Nat) : Int), (0 : Int))) from rfl)
      have HSA := Lib.hid (show stepAt xs at0 = if (mtch xs at0).1 = 0 then 1 else (mtch xs at0).1 from rfl)
      unfold mostOf at hml
      rw [HL.out] at hml
      have HC := Lib.hid hcall
      clear hcall
      generalize (mtch xs at0).1 = l at *
      generalize (mtch xs at0).2 = d at *
      obtain ⟨b0, off, rfl, hx0⟩ := HR.out.cellAt at0 hlt
      have hb0 : b0 < w1.heap.size := by
        obtain ⟨b', off', e', hb', _⟩ := HR.out.cells (by omega)
        obtain ⟨rfl, rfl⟩ : b0 = b' ∧ off = off' := by simpa using e'
        exact hb'
      have hx1 := HX.out.get at0 (by rw [HL.out]; exact hlt)
      have HNX := Lib.hid (show iter xs (k + 1) = (ts ++ [tokAt xs at0], at0 + stepAt xs at0) by rw [iter, HIT.out, if_pos (by rw [HL.out]; exact hlt)])
      go_wp2_with fail
      refine HC.out.mono ?_; rintro e w6 ⟨rfl, q, rfl⟩
      replace HO := Lib.hid (show (wr.drewN q).ownsRow w1.heap.size 41 3 (.slice a ts.length ca) ts.length (flatT ts) from HO.out)
      replace HB := Lib.hid (below_drewN HB.out q)
      have hx2 : (wr.drewN q).cell? ⟨b0, off + at0, Option.none⟩ = some (.int .u8 (xs.getD at0 0)) := (HB.out.cell (p := ⟨b0, off + at0, Option.none⟩) hb0).trans hx0
      generalize xs.getD at0 0 = xv at *
      generalize wr.drewN q = W at *
      clear HC hx0
      by_cases hl0 : l = 0
      · subst hl0
        have i0' : (at0 : Int) < n := by omega
        go_wp2_with (at_builtin; refine wpList_append_any _ rfl _ _ 25 rfl w1.heap.size 41 i0 _ 3 24 Try.underlying25 Hi.out Hz0.out Hz1.out Hz2.out rfl (by decide) a ts.length ca (flatT ts) rfl (World.ownsRow.alloc HO.out _) _ 1 1 _ rfl rfl (cells_alloc3 _ _ _ _ _ _) (by simp [Value.oneCell']) (by decide) (by unfold maxLen; omega) (by omega) (by have := HB.out.size; simp; omega) ?_; intro a2 c2 w5 r5 g5 f5)
        have B5 := Lib.hid ((HB.out.alloc HB.out.size (.cells #[.int .i64 0, .int .i64 0, .int .i64 xv] 41)).grown g5 (by have := HB.out.size; simp; omega) (fun j hj => (HO.out.lt j hj).1))
        have R5 := Lib.hid r5
        clear r5 g5 f5 hx2
        go_wp2_with fail
        go_roundw
        case rel =>
          have e1 : tokAt xs at0 = (0, 0, xv) := by rw [HTA.out]; simp
          have e2 : stepAt xs at0 = 1 := by rw [HSA.out]; simp
          refine ⟨k + 1, a2, c2, ?_, ?_, ?_, B5.out⟩
          · rw [HNX.out]; simp
          · rw [HNX.out, e2]; simp
          · rw [HNX.out, e1]
            simpa [flatT_append, flatT] using R5.out
        case measure => simp [intOf]; omega
      · have hl1 : ((l : Int) == 0) = false := by simp; omega
        go_wp2_with (at_builtin; refine wpList_append_any _ rfl _ _ 25 rfl w1.heap.size 41 i0 _ 3 24 Try.underlying25 Hi.out Hz0.out Hz1.out Hz2.out rfl (by decide) a ts.length ca (flatT ts) rfl (World.ownsRow.alloc HO.out _) _ 1 1 _ rfl rfl (cells_alloc3 _ _ _ _ _ _) (by simp [Value.oneCell']) (by decide) (by unfold maxLen; omega) (by omega) (by have := HB.out.size; simp; omega) ?_; intro a2 c2 w5 r5 g5 f5)
        have B5 := Lib.hid ((HB.out.alloc HB.out.size (.cells #[.int .i64 l, .int .i64 d, .int .i64 0] 41)).grown g5 (by have := HB.out.size; simp; omega) (fun j hj => (HO.out.lt j hj).1))
        have R5 := Lib.hid r5
        clear r5 g5 f5 hx2
        go_wp2_with fail
        go_roundw
        case rel =>
          have e1 : tokAt xs at0 = ((l : Int), (d : Int), (0 : Int)) := by rw [HTA.out, if_neg hl0]
          have e2 : stepAt xs at0 = l := by rw [HSA.out, if_neg hl0]
          refine ⟨k + 1, a2, c2, ?_, ?_, ?_, B5.out⟩
          · rw [HNX.out]; simp
          · rw [HNX.out, e2]; simp
          · rw [HNX.out, e1]
            simpa [flatT_append, flatT] using R5.out
        case measure => simp [intOf]; omega
    · have hend : ts = findL xs := by
        have := iter_end xs k (by rw [HIT.out, HL.out]; exact hlt)
        rw [HIT.out] at this
        exact this
      subst hend
      go_wp2
      go_ret2
      exact ⟨a, ca, rfl, owns_keep' HO.out B1.out.size, below_size B1.out HB.out⟩
end Go.Proofs.Ytfolhckhedinhaa
