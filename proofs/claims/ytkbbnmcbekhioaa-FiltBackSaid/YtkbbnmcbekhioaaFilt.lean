/-
  Contracts of package filt (Paeth, guess, may, Do, Undo, Weight) for every argument within the bounds named.
-/
import Derived.Test.YtkbbnmcbekhioaaChecked
import Derived.Test.YtkbbnmcbekhioaaLib
import Derived.BigRegion
import Derived.Deep.QuietTactic
import Derived.BigQuiet
namespace Go.Proofs.Ytkbbnmcbekhioaa
open Go.RowKit

theorem infoB : (Try.prog.info? 5).map (fun i => (i.zero, i.size, i.bytes)) = some (some (.int .u8 0), 1, 1) := by kernel_rfl

/-- How far two numbers are from one another. -/
def far (x y : Int) : Int := if x < y then y - x else x - y
/-- Of a, b, c the one nearest to a + b - c, the first of equal ones. -/
def pae (a b c : Int) : Int := if far b c ≤ far a c ∧ far b c ≤ far (a + b) (2 * c) then a else if far a c ≤ far (a + b) (2 * c) then b else c

set_option maxHeartbeats 1000000 in
theorem paeth_any (a b c : Int) (w : World) (ha : 0 ≤ a ∧ a ≤ 255) (hb : 0 ≤ b ∧ b ≤ 255) (hc : 0 ≤ c ∧ c ≤ 255) :
    Calls Try.prog 19 #[.int .i64 a, .int .i64 b, .int .i64 c] w fun e w' => e = .returned (.int .i64 (pae a b c)) ∧ w' = w := by
  have ha1 := ha.1; have ha2 := ha.2; have hb1 := hb.1; have hb2 := hb.2; have hc1 := hc.1; have hc2 := hc.2
  clear ha hb hc
  by_cases h1 : b < c <;> by_cases h2 : a < c
  all_goals
    go_enter Try.func19, Try.ntmps19
    go_wp2
  all_goals go_ret
  all_goals go_tidy
  all_goals refine ⟨ret_int ?_, rfl⟩
  all_goals try simp only [beq_iff_eq, beq_eq_false_iff_ne] at *
  all_goals simp only [pae, far]
  all_goals (repeat' split) <;> first | rfl | omega

theorem pae_one (a b c : Int) : pae a b c = a ∨ pae a b c = b ∨ pae a b c = c := by unfold pae; split <;> (try split) <;> simp
theorem pae_bd (a b c : Int) (ha : 0 ≤ a ∧ a ≤ 255) (hb : 0 ≤ b ∧ b ≤ 255) (hc : 0 ≤ c ∧ c ≤ 255) : 0 ≤ pae a b c ∧ pae a b c ≤ 255 := by
  rcases pae_one a b c with h | h | h <;> rw [h] <;> assumption

/-- What a byte is held against, by the kind. -/
def gs (kind l u c : Int) : Int := if kind = 1 then l else if kind = 2 then u else if kind = 3 then (l + u) / 2 else if kind = 4 then pae l u c else 0
theorem gs_bd (kind l u c : Int) (ha : 0 ≤ l ∧ l ≤ 255) (hb : 0 ≤ u ∧ u ≤ 255) (hc : 0 ≤ c ∧ c ≤ 255) : 0 ≤ gs kind l u c ∧ gs kind l u c ≤ 255 := by
  have := pae_bd l u c ha hb hc
  unfold gs
  (repeat' split) <;> omega
/-- The byte so many places back; 0 ahead of the front. -/
def lback (xs : List Int) (i n : Nat) : Int := if n ≤ i then xs.getD (i - n) 0 else 0
def gss (kind : Int) (bpp : Nat) (prev row : List Int) (i : Nat) : Int := gs kind (lback row i bpp) (prev.getD i 0) (lback prev i bpp)
theorem getD_bd {xs : List Int} (h : isB xs) (i : Nat) : 0 ≤ xs.getD i 0 ∧ xs.getD i 0 ≤ 255 := by
  by_cases hi : i < xs.length
  · have := h.get i hi; omega
  · simp [List.getD, hi]
theorem lback_bd {xs : List Int} (h : isB xs) (i n : Nat) : 0 ≤ lback xs i n ∧ lback xs i n ≤ 255 := by
  unfold lback; split
  · exact getD_bd h _
  · omega
theorem gss_bd {kind : Int} {bpp : Nat} {prev row : List Int} (hp : isB prev) (hr : isB row) (i : Nat) : 0 ≤ gss kind bpp prev row i ∧ gss kind bpp prev row i ≤ 255 :=
  gs_bd _ _ _ _ (lback_bd hr _ _) (getD_bd hp _) (lback_bd hp _ _)

set_option maxHeartbeats 1000000 in
theorem guess_back (kind : Int) (bpp i : Nat) (pa ra : Option Addr) (pn pc rn rc : Nat) (ps rs : List Int) (w : World) (hp : Reads .u8 w pa pn pc ps) (hr : Reads .u8 w ra rn rc rs) (bp : isB ps) (br : isB rs)
    (_hk : 0 ≤ kind ∧ kind ≤ 4) (hb1 : bpp ≤ 8) (hi : i < rn) (hpi : pn ≠ 0 → i < pn) (h1 : bpp ≤ i) :
    Calls Try.prog 22 #[.int .i64 kind, .int .i64 bpp, .slice pa pn pc, .slice ra rn rc, .int .i64 i] w fun e w' => e = .returned (.int .u8 (gss kind bpp ps rs i)) ∧ w' = w := by
  have hn := hr.n63.1
  obtain ⟨b, off, rfl, hc1⟩ := hr.cellAt (i - bpp) (by omega)
  have hG : Hid (gss kind bpp ps rs i = gs kind (rs.getD (i - bpp) 0) (ps.getD i 0) (lback ps i bpp)) := by unfold Hid gss; rw [show lback rs i bpp = rs.getD (i - bpp) 0 by unfold lback; rw [if_pos h1]]
  have l0 := getD_bd br (i - bpp)
  by_cases h2 : pn = 0
  · have hne : ((pn : Int) != 0) = false := by subst h2; rfl
    have e : ps = [] := List.eq_nil_of_length_eq_zero (by rw [hp.len, h2])
    have hG2 : Hid (gss kind bpp ps rs i = gs kind (rs.getD (i - bpp) 0) 0 0) := by
      rw [hG.out, e]; unfold lback; simp [Hid]
    clear e h2 hpi hG bp br hp hr
    generalize rs.getD (i - bpp) 0 = l at *
    have hpb := pae_bd l 0 0 l0 (by omega) (by omega)
    go_enter Try.func22, Try.ntmps22
    go_wp2_with (go_at_call 19; refine (paeth_any _ _ _ _ (by omega) (by omega) (by omega)).mono ?_; rintro e w' ⟨rfl, rfl⟩)
    all_goals go_ret
    all_goals go_tidy
    all_goals refine ⟨ret_int ?_, rfl⟩
    all_goals rw [hG2.out]
    all_goals try simp only [beq_iff_eq, beq_eq_false_iff_ne] at *
    all_goals (simp only [gs]; (repeat' split) <;> first | rfl | omega | (exfalso; omega))
  · have hne : ((pn : Int) != 0) = true := by rw [bne_iff_ne]; omega
    have hpn := hp.n63.1
    obtain ⟨b2, off2, rfl, hc2⟩ := hp.cellAt i (hpi h2)
    obtain ⟨b3, off3, e3, hc3⟩ := hp.cellAt (i - bpp) (by have := hpi h2; omega)
    cases e3
    have hG2 : Hid (gss kind bpp ps rs i = gs kind (rs.getD (i - bpp) 0) (ps.getD i 0) (ps.getD (i - bpp) 0)) := by
      rw [hG.out]; unfold lback; rw [if_pos h1]; rfl
    have l1 := getD_bd bp i
    have l2 := getD_bd bp (i - bpp)
    have hpi2 : i < pn := hpi h2
    clear h2 hpi hG bp br hp hr
    generalize rs.getD (i - bpp) 0 = l at *
    generalize ps.getD (i - bpp) 0 = c at *
    generalize ps.getD i 0 = u at *
    have hpb := pae_bd l u c l0 l1 l2
    go_enter Try.func22, Try.ntmps22
    go_wp2_with (go_at_call 19; refine (paeth_any _ _ _ _ (by omega) (by omega) (by omega)).mono ?_; rintro e w' ⟨rfl, rfl⟩)
    all_goals go_ret
    all_goals go_tidy
    all_goals refine ⟨ret_int ?_, rfl⟩
    all_goals rw [hG2.out]
    all_goals try simp only [beq_iff_eq, beq_eq_false_iff_ne] at *
    all_goals (simp only [gs]; (repeat' split) <;> first | rfl | omega | (exfalso; omega))

set_option maxHeartbeats 1000000 in
theorem guess_front (kind : Int) (bpp i : Nat) (pa ra : Option Addr) (pn pc rn rc : Nat) (ps rs : List Int) (w : World) (hp : Reads .u8 w pa pn pc ps) (bp : isB ps)
    (_hk : 0 ≤ kind ∧ kind ≤ 4) (_hb1 : bpp ≤ 8) (hpi : pn ≠ 0 → i < pn) (h1 : ¬ bpp ≤ i) :
    Calls Try.prog 22 #[.int .i64 kind, .int .i64 bpp, .slice pa pn pc, .slice ra rn rc, .int .i64 i] w fun e w' => e = .returned (.int .u8 (gss kind bpp ps rs i)) ∧ w' = w := by
  have hG : Hid (gss kind bpp ps rs i = gs kind 0 (ps.getD i 0) 0) := by unfold Hid gss lback; rw [if_neg h1, if_neg h1]
  by_cases h2 : pn = 0
  · have hne : ((pn : Int) != 0) = false := by subst h2; rfl
    have e : ps = [] := List.eq_nil_of_length_eq_zero (by rw [hp.len, h2])
    have hG2 : Hid (gss kind bpp ps rs i = gs kind 0 0 0) := by
      rw [hG.out, e]; simp [Hid]
    clear e h2 hpi hG bp hp
    have hpb := pae_bd 0 0 0 (by omega) (by omega) (by omega)
    go_enter Try.func22, Try.ntmps22
    go_wp2_with (go_at_call 19; refine (paeth_any _ _ _ _ (by omega) (by omega) (by omega)).mono ?_; rintro e w' ⟨rfl, rfl⟩)
    all_goals go_ret
    all_goals go_tidy
    all_goals refine ⟨ret_int ?_, rfl⟩
    all_goals rw [hG2.out]
    all_goals try simp only [beq_iff_eq, beq_eq_false_iff_ne] at *
    all_goals (simp only [gs]; (repeat' split) <;> first | rfl | omega | (exfalso; omega))
  · have hne : ((pn : Int) != 0) = true := by rw [bne_iff_ne]; omega
    have hpn := hp.n63.1
    obtain ⟨b2, off2, rfl, hc2⟩ := hp.cellAt i (hpi h2)
    have l1 := getD_bd bp i
    have hpi2 : i < pn := hpi h2
    clear h2 hpi bp hp
    generalize ps.getD i 0 = u at *
    have hpb := pae_bd 0 u 0 (by omega) l1 (by omega)
    go_enter Try.func22, Try.ntmps22
    go_wp2_with (go_at_call 19; refine (paeth_any _ _ _ _ (by omega) (by omega) (by omega)).mono ?_; rintro e w' ⟨rfl, rfl⟩)
    all_goals go_ret
    all_goals go_tidy
    all_goals refine ⟨ret_int ?_, rfl⟩
    all_goals rw [hG.out]
    all_goals try simp only [beq_iff_eq, beq_eq_false_iff_ne] at *
    all_goals (simp only [gs]; (repeat' split) <;> first | rfl | omega | (exfalso; omega))

theorem guess_any (kind : Int) (bpp i : Nat) (pa ra : Option Addr) (pn pc rn rc : Nat) (ps rs : List Int) (w : World) (hp : Reads .u8 w pa pn pc ps) (hr : Reads .u8 w ra rn rc rs) (bp : isB ps) (br : isB rs)
    (hk : 0 ≤ kind ∧ kind ≤ 4) (hb1 : bpp ≤ 8) (hi : i < rn) (hpi : pn ≠ 0 → i < pn) :
    Calls Try.prog 22 #[.int .i64 kind, .int .i64 bpp, .slice pa pn pc, .slice ra rn rc, .int .i64 i] w fun e w' => e = .returned (.int .u8 (gss kind bpp ps rs i)) ∧ w' = w := by
  by_cases h1 : bpp ≤ i
  · exact guess_back kind bpp i pa ra pn pc rn rc ps rs w hp hr bp br hk hb1 hi hpi h1
  · exact guess_front kind bpp i pa ra pn pc rn rc ps rs w hp bp hk hb1 hpi h1

/-- May a filter be asked for? -/
def mayE (kind bpp : Int) (pn rn : Nat) : Int := if kind < 0 ∨ 4 < kind ∨ bpp < 1 ∨ 8 < bpp then 1 else if pn ≠ 0 ∧ pn ≠ rn then 4 else 0
theorem mayE_zero {kind bpp : Int} {pn rn : Nat} (h : mayE kind bpp pn rn = 0) : (0 ≤ kind ∧ kind ≤ 4) ∧ 1 ≤ bpp ∧ bpp ≤ 8 ∧ (pn ≠ 0 → pn = rn) := by
  unfold mayE at h
  split at h
  · omega
  · split at h <;> omega

set_option maxHeartbeats 1000000 in
theorem may_any (kind bpp : Int) (pa ra : Option Addr) (pn pc rn rc : Nat) (w : World) (hp : pn ≤ 9223372036854775807) (hr : rn ≤ 9223372036854775807) (h0 : -9223372036854775808 ≤ kind ∧ kind ≤ 9223372036854775807) (h1 : -9223372036854775808 ≤ bpp ∧ bpp ≤ 9223372036854775807) :
    Calls Try.prog 21 #[.int .i64 kind, .int .i64 bpp, .slice pa pn pc, .slice ra rn rc] w fun e w' => e = .returned (.int .i64 (mayE kind bpp pn rn)) ∧ w' = w := by
  by_cases c1 : kind < 0
  · unfold mayE; rw [if_pos (.inl c1)]
    go_enter Try.func21, Try.ntmps21
    go_wp2
    go_ret
    exact ⟨rfl, rfl⟩
  · by_cases c2 : 4 < kind
    · unfold mayE; rw [if_pos (.inr (.inl c2))]
      go_enter Try.func21, Try.ntmps21
      go_wp2
      go_ret
      exact ⟨rfl, rfl⟩
    · by_cases c3 : bpp < 1
      · unfold mayE; rw [if_pos (.inr (.inr (.inl c3)))]
        go_enter Try.func21, Try.ntmps21
        go_wp2
        go_ret
        exact ⟨rfl, rfl⟩
      · by_cases c4 : 8 < bpp
        · unfold mayE; rw [if_pos (.inr (.inr (.inr c4)))]
          go_enter Try.func21, Try.ntmps21
          go_wp2
          go_ret
          exact ⟨rfl, rfl⟩
        · unfold mayE; rw [if_neg (by omega)]
          by_cases c5 : pn = 0
          · have q : ((pn : Int) != 0) = false := by subst c5; rfl
            rw [if_neg (by omega)]
            clear c5
            go_enter Try.func21, Try.ntmps21
            go_wp2
            go_ret
            exact ⟨rfl, rfl⟩
          · have q : ((pn : Int) != 0) = true := by rw [bne_iff_ne]; omega
            by_cases c6 : pn = rn
            · have q2 : ((pn : Int) != (rn : Int)) = false := by subst c6; simp
              rw [if_neg (by omega)]
              clear c5 c6
              go_enter Try.func21, Try.ntmps21
              go_wp2
              go_ret
              exact ⟨rfl, rfl⟩
            · have q2 : ((pn : Int) != (rn : Int)) = true := by rw [bne_iff_ne]; omega
              rw [if_pos ⟨c5, c6⟩]
              clear c5 c6
              go_enter Try.func21, Try.ntmps21
              go_wp2
              go_ret
              exact ⟨rfl, rfl⟩

/-- A row filtered. -/
def doL (kind : Int) (bpp : Nat) (prev row : List Int) : List Int := (List.range row.length).map fun i => (row.getD i 0 - gss kind bpp prev row i) % 256
theorem doL_len (kind : Int) (bpp : Nat) (prev row : List Int) : (doL kind bpp prev row).length = row.length := by simp [doL]
theorem doL_getD (kind : Int) (bpp : Nat) (prev row : List Int) (i : Nat) (h : i < row.length) : (doL kind bpp prev row).getD i 0 = (row.getD i 0 - gss kind bpp prev row i) % 256 := by rw [doL, getD_map_range, if_pos h]
theorem doL_isB (kind : Int) (bpp : Nat) (prev row : List Int) : isB (doL kind bpp prev row) := by
  intro x hx
  simp only [doL, List.mem_map] at hx
  obtain ⟨i, _, rfl⟩ := hx
  omega

/-- A new list of bytes and an error's number. -/
def RetB (w : World) (xs : List Int) (c : Int) (e : Ending) (w' : World) : Prop := ∃ g cap, e = .returned (.tuple #[.slice (some ⟨g, 0, Option.none⟩) xs.length cap, .int .i64 c]) ∧ w'.ownsRow w.heap.size 5 1 (.slice (some ⟨g, 0, Option.none⟩) xs.length cap) xs.length (xs.map (Value.int .u8)) ∧ Below w.heap.size w w'

theorem do_no (kind bpp : Int) (pa ra : Option Addr) (pn pc rn rc : Nat) (w : World) (hp : pn ≤ 9223372036854775807) (hr : rn ≤ 9223372036854775807) (h0 : -9223372036854775808 ≤ kind ∧ kind ≤ 9223372036854775807) (h1 : -9223372036854775808 ≤ bpp ∧ bpp ≤ 9223372036854775807) (h : mayE kind bpp pn rn ≠ 0) :
    Calls Try.prog 10 #[.int .i64 kind, .int .i64 bpp, .slice pa pn pc, .slice ra rn rc] w fun e w' => e = .returned (.tuple #[.slice Option.none 0 0, .int .i64 (mayE kind bpp pn rn)]) ∧ w' = w := by
  have hb : (mayE kind bpp pn rn != 0) = true := by simpa using h
  go_enter Try.func10, Try.ntmps10
  go_wp2_with fail
  refine (may_any kind bpp pa ra pn pc rn rc w hp hr h0 h1).mono ?_; rintro e w1 ⟨rfl, rfl⟩
  go_wp2
  go_ret2
  exact ⟨rfl, rfl⟩

set_option maxHeartbeats 1000000 in
theorem do_yes (kind : Int) (bpp : Nat) (pa ra : Option Addr) (pn pc rn rc : Nat) (ps rs : List Int) (w : World) (hp : Reads .u8 w pa pn pc ps) (hr : Reads .u8 w ra rn rc rs) (bp : isB ps) (br : isB rs) (h : mayE kind bpp pn rn = 0) (hsz : rn ≤ 1000000) :
    Calls Try.prog 10 #[.int .i64 kind, .int .i64 bpp, .slice pa pn pc, .slice ra rn rc] w (RetB w (doL kind bpp ps rs) 0) := by
  obtain ⟨hk, hb1, hb8, hpr⟩ := mayE_zero h
  have hp63 := hp.n63.1
  have Hl := Lib.hid hr.len
  obtain ⟨i0, hi, hz0, hz1, hz2⟩ := info_parts infoB
  have Hi := Lib.hid hi; have Hz0 := Lib.hid hz0; have Hz1 := Lib.hid hz1; have Hz2 := Lib.hid hz2
  have Hpr := Lib.hid hpr
  clear hi hz0 hz1 hz2 hpr
  go_enter Try.func10, Try.ntmps10
  go_wp2_with fail
  refine (may_any kind bpp pa ra pn pc rn rc w hp63 (by omega) (by omega) (by omega)).mono ?_; rintro e w1 ⟨rfl, rfl⟩
  rw [h]
  clear h
  go_wp2_with (at_make; refine wpList_make_full _ rfl _ _ 22 rfl w1.heap.size 5 i0 (.int .u8 0) 1 Try.underlying22 Hi.out Hz0.out Hz1.out _ _ _ _ rn rfl rfl (by first | rfl | omega) (by first | rfl | omega) (by rw [Hz2.out]; omega) (by unfold maxLen; omega) (Nat.le_refl _) ?_)
  intro w2 hown hgrow
  rw [toList_made rn .u8] at hown
  have hb0 : Below w1.heap.size w1 w2 := (Below.refl _ _).grown hgrow (Nat.le_refl _) (fun k h => nomatch h)
  clear hgrow
  generalize hg : w1.heap.size = g at *
  have HG := Lib.hid hg; clear hg
  generalize hxs : List.replicate rn (0 : Int) = xs at hown
  have Hxs := Lib.hid hxs; clear hxs
  go_wp2
  go_loopw [27] (fun i wr => ∃ (k : Nat) (xs : List Int), k ≤ rn ∧ i = .int .i64 k ∧ wr.ownsRow g 5 1 (.slice (some ⟨g, 0, Option.none⟩) rn rn) rn (xs.map (Value.int .u8)) ∧ Below g w1 wr ∧
      Hid (xs.length = rn ∧ ∀ j, j < rn → xs.getD j 0 = if j < k then (doL kind bpp ps rs).getD j 0 else 0)) (fun i _ => rn - (intOf i).toNat)
  case atStart =>
    refine ⟨0, xs, Nat.zero_le _, rfl, hown, hb0, ?_⟩
    rw [← Hxs.out]
    exact ⟨by simp, fun j hj => by simp [List.getD, hj]⟩
  case round =>
    obtain ⟨k, ys, hkk, rfl, ho, hbel, Hy⟩ := hrel
    clear hown hb0 Hxs
    by_cases hlt : k < rn
    · have hr' : Reads .u8 wr ra rn rc rs := hr.below (by rw [HG.out]; exact hbel)
      have hp' : Reads .u8 wr pa pn pc ps := hp.below (by rw [HG.out]; exact hbel)
      have hcall := guess_any kind bpp k pa ra pn pc rn rc ps rs wr hp' hr' bp br hk (by omega) hlt (fun hn => by rw [Hpr.out hn]; exact hlt)
      have hgb : 0 ≤ gss kind bpp ps rs k ∧ gss kind bpp ps rs k ≤ 255 := gss_bd bp br k
      have hV : Hid ((doL kind bpp ps rs).getD k 0 = (rs.getD k 0 - gss kind bpp ps rs k) % 256) := doL_getD _ _ _ _ _ (by rw [Hl.out]; exact hlt)
      obtain ⟨b, off, rfl, hc1⟩ := hr'.cellAt k hlt
      have hc := owns_cell ho k (by omega)
      have hfz := ho.frozenAt k
      have hx := getD_bd br k
      have HC := Lib.hid hcall; clear hcall
      generalize rs.getD k 0 = x at *
      clear hr hp hr' hp' bp br
      go_wp2_with fail
      refine HC.out.mono ?_; rintro e w' ⟨rfl, rfl⟩
      generalize gss kind bpp ps rs k = gv at *
      clear HC
      go_wp2_with fail
      go_roundw
      case rel =>
        obtain ⟨hyl, hyj⟩ := Hy.out
        refine ⟨k + 1, ys.set k ((x - gv) % 256), by omega, by go_num, owns_set ho _ _, hbel.setCell (p := ⟨g, k, Option.none⟩) (Nat.le_refl _) _, by simpa using hyl, fun j hj => ?_⟩
        rw [getD_set, hyj j hj]
        by_cases e : j = k
        · rw [if_pos ⟨e.symm, by omega⟩, if_pos (by omega), e, hV.out]
        · rw [if_neg (fun h => e h.1.symm)]
          by_cases h2 : j < k
          · rw [if_pos h2, if_pos (by omega)]
          · rw [if_neg h2, if_neg (by omega)]
      case measure => simp [intOf]; omega
    · obtain rfl : k = rn := by omega
      go_wp2
      go_ret2
      obtain ⟨hyl, hyj⟩ := Hy.out
      have e : ys = doL kind bpp ps rs := ext_getD (by rw [hyl, doL_len, Hl.out]) fun j hj => by
        rw [hyj j (by omega), if_pos (by omega)]
      subst e
      unfold RetB
      rw [doL_len, Hl.out, HG.out]
      exact ⟨g, k, rfl, ho, hbel⟩
end Go.Proofs.Ytkbbnmcbekhioaa
