/-
  lz.chains: for each place the nearest one ahead with the same three bytes.
-/
import Derived.Test.YtfolhckhedinhaaAppendAny
import Derived.Test.YtfolhckhedinhaaCopy
import Derived.Maps.OwnSet
import Derived.Lib.Hide
import Derived.BigQuiet
namespace Go.Proofs.Ytfolhckhedinhaa
open Go.RowKit Go.Maps

/-- Three bytes as a number. -/
def code (xs : List Int) (k : Nat) : Int := xs.getD k 0 * 65536 + xs.getD (k + 1) 0 * 256 + xs.getD (k + 2) 0
/-- The last place ahead of k at which they make c. -/
def lastOf (xs : List Int) : Nat → Int → Int
  | 0, _ => -1
  | k + 1, c => if k + 3 ≤ xs.length ∧ code xs k = c then (k : Int) else lastOf xs k c
def aheadV (xs : List Int) (k : Nat) : Int := if k + 3 ≤ xs.length then lastOf xs k (code xs k) else -1

theorem lastOf_bd (xs : List Int) (k : Nat) (c : Int) : -1 ≤ lastOf xs k c ∧ lastOf xs k c < k := by
  induction k with
  | zero => simp [lastOf]
  | succ k ih =>
    rw [lastOf]
    split <;> omega
theorem aheadV_bd (xs : List Int) (k : Nat) : -1 ≤ aheadV xs k ∧ aheadV xs k < k := by
  unfold aheadV
  split
  · exact lastOf_bd _ _ _
  · omega

/-- The map behind k rounds. -/
def Near (xs : List Int) (D : DataW Unit) (k : Nat) : Prop := IsMap D ∧ ∀ c : Int, (lastOf xs k c = -1 → Maps.has D (.int .i64 c) = false) ∧ (lastOf xs k c ≠ -1 → Maps.has D (.int .i64 c) = true ∧ ∀ z, D.atKey (.int .i64 c) z = .lit (.int .i64 (lastOf xs k c)))

theorem near_zero (xs : List Int) : Near xs (.map []) 0 := ⟨⟨_, rfl⟩, fun _ => ⟨fun _ => rfl, fun h => absurd rfl h⟩⟩
theorem isMap_put {D : DataW Unit} (h : IsMap D) (k : Lit) (d : DataW Unit) : IsMap (D.put k d) := by
  obtain ⟨es, rfl⟩ := h
  exact ⟨_, rfl⟩
theorem near_put {xs : List Int} {D : DataW Unit} {k : Nat} (h : Near xs D k) (hk : k + 3 ≤ xs.length) : Near xs (D.put (.int .i64 (code xs k)) (.lit (.int .i64 k))) (k + 1) := by
  refine ⟨isMap_put h.1 _ _, fun c => ?_⟩
  rw [lastOf]
  by_cases e : code xs k = c
  · rw [if_pos ⟨hk, e⟩]
    subst e
    exact ⟨fun h0 => by omega, fun _ => ⟨has_put_same (k := .int .i64 (code xs k)) h.1 trivial _, fun z => atKey_put_same (k := .int .i64 (code xs k)) h.1 trivial _ z⟩⟩
  · rw [if_neg (fun h' => e h'.2)]
    have hne : (Lit.int .i64 c) ≠ .int .i64 (code xs k) := fun h' => e (by injection h' with _ h'; exact h'.symm)
    obtain ⟨h1, h2⟩ := h.2 c
    exact ⟨fun h0 => by rw [has_put_other hne]; exact h1 h0, fun h0 => ⟨by rw [has_put_other hne]; exact (h2 h0).1, fun z => by rw [atKey_put_other hne]; exact (h2 h0).2 z⟩⟩
theorem near_skip {xs : List Int} {D : DataW Unit} {k : Nat} (h : Near xs D k) (hk : ¬ k + 3 ≤ xs.length) : Near xs D (k + 1) := by
  refine ⟨h.1, fun c => ?_⟩
  rw [lastOf, if_neg (fun h' => hk h'.1)]
  exact h.2 c

theorem codeV (x y z : Int) (hx : 0 ≤ x ∧ x < 256) (hy : 0 ≤ y ∧ y < 256) (hz : 0 ≤ z ∧ z < 256) : bits .or .i64 (bits .or .i64 (x * 65536) (y * 256)) z = x * 65536 + y * 256 + z := by
  rw [or_join_i64 16 (x * 65536) (y * 256) (by omega) (by omega) (by omega) (by omega) (by omega) (by omega)]
  rw [or_join_i64 8 (x * 65536 + y * 256) z (by omega) (by omega) (by omega) (by omega) (by omega) (by omega)]

theorem infoI : (Try.prog.info? 3).map (fun i => (i.zero, i.size, i.bytes)) = some (some (.int .i64 0), 1, 8) := by kernel_rfl
theorem keyed : Keyed Try.prog 3 := int_keyed Try.underlying3
theorem zeroI (w : World) : (zeroValue 3).run Try.prog w = .ok (.int .i64 0) w := by kernel_rfl

/-- New numbers. -/
def RetI (w : World) (xs : List Int) (e : Ending) (w' : World) : Prop := ∃ g cap, e = .returned (.slice (some ⟨g, 0, Option.none⟩) xs.length cap) ∧ w'.ownsRow w.heap.size 3 1 (.slice (some ⟨g, 0, Option.none⟩) xs.length cap) xs.length (xs.map (Value.int .i64)) ∧ Below w.heap.size w w'
def aheadL (xs : List Int) : List Int := (List.range xs.length).map (aheadV xs)

set_option maxRecDepth 100000 in
set_option maxHeartbeats 1000000 in
theorem chains_any (b : Option Addr) (n cap : Nat) (xs : List Int) (w : World) (hr : Reads .u8 w b n cap xs) (hx : isB xs) (hn : n ≤ 1000000) :
    Calls Try.prog 18 #[.slice b n cap] w (RetI w (aheadL xs)) := by
  have hmm := @run_makeMap Try.prog
  obtain ⟨i0, hi, hz0, hz1, hz2⟩ := info_parts infoI
  have Hi := Lib.hid hi; have Hz0 := Lib.hid hz0; have Hz1 := Lib.hid hz1; have Hz2 := Lib.hid hz2
  have HR := Lib.hid hr; have HX := Lib.hid hx; have HL := Lib.hid hr.len
  clear hi hz0 hz1 hz2 hr hx
  go_enter Try.func18, Try.ntmps18
  go_wp2_with (at_make; refine wpList_make_full _ rfl _ _ 48 rfl w.heap.size 3 i0 (.int .i64 0) 1 Try.underlying48 Hi.out Hz0.out Hz1.out _ _ _ _ n rfl rfl (by first | rfl | omega) (by first | rfl | omega) (by rw [Hz2.out]; omega) (by unfold maxLen; omega) (Nat.le_refl _) ?_)
  intro w2 hown hgrow
  rw [toList_made n .i64] at hown
  have hb0 : Below w.heap.size w w2 := (Below.refl _ _).grown hgrow (Nat.le_refl _) (fun k h => nomatch h)
  have hlt2 := (hown.lt w.heap.size rfl).2
  clear hgrow
  generalize hg : w.heap.size = g at *
  have HG := Lib.hid hg; clear hg
  generalize hxs : List.replicate n (0 : Int) = os at hown
  have Hxs := Lib.hid hxs; clear hxs
  have hbel0 : Below g w (w2.alloc (.map #[] 0)) := hb0.alloc (by have := hb0.size; omega) _
  have hown0 := World.ownsRow.alloc hown (.map #[] 0)
  have hmap0 : (w2.alloc (.map #[] 0)).ownsMap Try.prog 3 (plainElem (H := Unit) Try.prog 3) w2.heap.size 0 (.map []) := World.ownsMap_made _ _ _ _
  have A1 := Lib.hid hbel0; have A2 := Lib.hid hown0; have A3 := Lib.hid hmap0
  clear hbel0 hown0 hmap0 hown hb0
  go_wp2_with fail
  clear hmm
  generalize w2.alloc (.map #[] 0) = w4 at *
  generalize w2.heap.size = gm at *
  go_loopw [15] (fun vi wr => ∃ (k cnt : Nat) (zs : List Int) (D : DataW Unit), k ≤ n ∧ vi = .int .i64 k ∧ wr.ownsRow g 3 1 (.slice (some ⟨g, 0, Option.none⟩) n n) n (zs.map (Value.int .i64)) ∧ Hid (zs.length = n ∧ ∀ j, j < n → zs.getD j 0 = if j < k then aheadV xs j else 0) ∧
      wr.ownsMap Try.prog 3 (plainElem (H := Unit) Try.prog 3) gm cnt D ∧ cnt ≤ k ∧ Hid (Near xs D k) ∧ Below g w wr) (fun vi _ => n - (intOf vi).toNat)
  case atStart =>
    refine ⟨0, 0, os, _, Nat.zero_le _, rfl, A2.out, ?_, A3.out, Nat.le_refl _, Lib.hid (near_zero xs), A1.out⟩
    rw [← Hxs.out]
    exact ⟨by simp, fun j hj => by simp [List.getD, hj]⟩
  case round =>
    obtain ⟨k, cnt, zs, D, hk, rfl, ho, Hz, hm, hcnt, HN, hbel⟩ := hrel
    clear A1 A2 A3 Hxs
    by_cases hlt : k < n
    · have hc := owns_cell ho k hlt
      have hfz := ho.frozenAt k
      have O1 := Lib.hid (owns_set ho k (-1))
      have M1 := Lib.hid (hm.setCell (a := ⟨g, k, Option.none⟩) (by show gm ≠ g; omega) (.int .i64 (-1)))
      have B1 := Lib.hid (hbel.setCell (p := ⟨g, k, Option.none⟩) (Nat.le_refl _) (.int .i64 (-1)))
      generalize zs.getD k 0 = z at *
      clear ho hm hbel
      by_cases h3 : k + 3 ≤ n
      · have h3' : decide ((n : Int) < (k : Int) + 3) = false := by simp; omega
        obtain ⟨b0, off, rfl, hb0, hcs⟩ := HR.out.cells (by omega)
        have hb0' : b0 < g := by rw [← HG.out]; exact hb0
        have K0 : ∀ q, ((wr.setCell ⟨g, k, Option.none⟩ (.int .i64 (-1))).drewN q).cell? ⟨b0, off + k, Option.none⟩ = some (.int .u8 (xs.getD k 0)) := fun q => (B1.out.cell (p := ⟨b0, off + k, Option.none⟩) hb0').trans (hcs k hlt)
        have K1 : ∀ q, ((wr.setCell ⟨g, k, Option.none⟩ (.int .i64 (-1))).drewN q).cell? ⟨b0, off + (k + 1), Option.none⟩ = some (.int .u8 (xs.getD (k + 1) 0)) := fun q => (B1.out.cell (p := ⟨b0, off + (k + 1), Option.none⟩) hb0').trans (hcs (k + 1) (by omega))
        have K2 : ∀ q, ((wr.setCell ⟨g, k, Option.none⟩ (.int .i64 (-1))).drewN q).cell? ⟨b0, off + (k + 2), Option.none⟩ = some (.int .u8 (xs.getD (k + 2) 0)) := fun q => (B1.out.cell (p := ⟨b0, off + (k + 2), Option.none⟩) hb0').trans (hcs (k + 2) (by omega))
        have x0 := HX.out.get k (by rw [HL.out]; omega)
        have x1 := HX.out.get (k + 1) (by rw [HL.out]; omega)
        have x2 := HX.out.get (k + 2) (by rw [HL.out]; omega)
        have HC := Lib.hid (show code xs k = xs.getD k 0 * 65536 + xs.getD (k + 1) 0 * 256 + xs.getD (k + 2) 0 from rfl)
        have hcv := codeV _ _ _ x0 x1 x2
        generalize xs.getD k 0 = y0 at *
        generalize xs.getD (k + 1) 0 = y1 at *
        generalize xs.getD (k + 2) 0 = y2 at *
        have i0' : (k : Int) < n := by omega
        have i1' : (k : Int) + 1 < n := by omega
        have i2' : (k : Int) + 2 < n := by omega
        have i3' : (0 : Int) ≤ k := by omega
        clear hb0 hcs
        go_wp2_with fail
        generalize wr.setCell ⟨g, k, Option.none⟩ (.int .i64 (-1)) = W1 at *
        go_quiet (fail)
        clear K0 K1 K2
        replace O1 : Hid ((W1.drewN nq).ownsRow g 3 1 (.slice (some ⟨g, 0, Option.none⟩) n n) n ((zs.set k (-1)).map (Value.int .i64))) := O1
        replace M1 : Hid ((W1.drewN nq).ownsMap Try.prog 3 (plainElem (H := Unit) Try.prog 3) gm cnt D) := M1
        replace B1 := Lib.hid (below_drewN B1.out nq)
        generalize W1.drewN nq = W2 at *
        rw [← HC.out]
        have hcb : 0 ≤ code xs k ∧ code xs k < 16777216 := by rw [HC.out]; omega
        have hav : aheadV xs k = lastOf xs k (code xs k) := by rw [aheadV, if_pos (by rw [HL.out]; exact h3)]
        have HAV := Lib.hid hav
        have hnp := near_put HN.out (by rw [HL.out]; exact h3)
        have HNP := Lib.hid hnp
        have hlb := lastOf_bd xs k (code xs k)
        obtain ⟨n1, n2⟩ := HN.out.2 (code xs k)
        clear hav hnp i1' i2' x0 x1 x2
        generalize code xs k = cc at *
        have hwf : (Lit.int .i64 cc).wf = true := WalkArith.wf_i64 (by omega)
        generalize lastOf xs k cc = pl at *
        by_cases hp : pl = -1
        · have hh := n1 hp
          clear n1 n2
          have MM := M1
          go_wp2_with (first
            | (at_lookup; refine wpList_lookup_own_ok_int _ rfl _ _ 55 rfl 3 3 .i64 keyed Try.underlying55 Try.underlying3 (zeroI _) gm cnt D rfl M1.out _ _ rfl (keyOf_int_mk Try.underlying3 hwf) ?_; intro c hat hwc)
            | (at_mapUpdate; refine wpList_mapUpdate_own _ rfl _ _ _ 55 rfl 3 3 keyed Try.underlying55 _ gm cnt D rfl MM.out (by unfold maxLen; omega) _ _ _ rfl rfl (keyOf_int_mk Try.underlying3 hwf) _ [] (plainElem_int Try.underlying3 (WalkArith.wf_i64 (by omega))) ?_; intro w5 hown5 hgrow5))
          have HB5 := Lib.hid (B1.out.grown hgrow5 (Nat.le_trans (Nat.le_of_eq HG.out.symm) B1.out.size) (fun q hq => by cases hq; omega))
          have HO5 := Lib.hid (O1.out.kept hgrow5 (.inr (by simp [Value.ownBlock]; omega)))
          have HM5 := Lib.hid hown5
          clear hgrow5 hown5 hat
          go_wp2_with fail
          go_roundw
          case rel =>
            obtain ⟨zl, zv⟩ := Hz.out
            refine ⟨k + 1, cnt + 1, zs.set k (-1), _, by omega, by go_num, HO5.out, Lib.hid ⟨by simpa using zl, fun j hj => ?_⟩, HM5.out, by omega, HNP, HB5.out⟩
            rw [getD_set, zv j hj]
            by_cases e : k = j
            · rw [if_pos ⟨e, by omega⟩, if_pos (by omega), ← e, HAV.out, hp]
            · rw [if_neg (fun h => e h.1)]
              split <;> split <;> first | rfl | omega
          case measure => simp [intOf]; omega
        · obtain ⟨hh, ha⟩ := n2 hp
          have ha' := ha (.lit (.int .i64 0))
          clear n1 n2 ha
          have hc2 := owns_cell O1.out k hlt
          have hfz2 := O1.out.frozenAt k
          generalize (zs.set k (-1)).getD k 0 = z2 at *
          have O2 := Lib.hid (owns_set O1.out k pl)
          have MM := Lib.hid (M1.out.setCell (a := ⟨g, k, Option.none⟩) (by show gm ≠ g; omega) (.int .i64 pl))
          have B2 := Lib.hid (B1.out.setCell (p := ⟨g, k, Option.none⟩) (Nat.le_refl _) (.int .i64 pl))
          go_wp2_with (first
            | (at_lookup; refine wpList_lookup_own_ok_int _ rfl _ _ 55 rfl 3 3 .i64 keyed Try.underlying55 Try.underlying3 (zeroI _) gm cnt D rfl M1.out _ _ rfl (keyOf_int_mk Try.underlying3 hwf) ?_; intro c hat hwc; obtain rfl : c = pl := (by rw [ha'] at hat; injection hat with hat; injection hat with _ hat; exact hat.symm))
            | (at_mapUpdate; refine wpList_mapUpdate_own _ rfl _ _ _ 55 rfl 3 3 keyed Try.underlying55 _ gm cnt D rfl MM.out (by unfold maxLen; omega) _ _ _ rfl rfl (keyOf_int_mk Try.underlying3 hwf) _ [] (plainElem_int Try.underlying3 (WalkArith.wf_i64 (by omega))) ?_; intro w5 hown5 hgrow5))
          have HB5 := Lib.hid (B2.out.grown hgrow5 (Nat.le_trans (Nat.le_of_eq HG.out.symm) B2.out.size) (fun q hq => by cases hq; omega))
          have HO5 := Lib.hid (O2.out.kept hgrow5 (.inr (by simp [Value.ownBlock]; omega)))
          have HM5 := Lib.hid hown5
          clear hgrow5 hown5
          go_wp2_with fail
          go_roundw
          case rel =>
            obtain ⟨zl, zv⟩ := Hz.out
            refine ⟨k + 1, cnt + 1, _, _, by omega, by go_num, HO5.out, Lib.hid ⟨by simpa using zl, fun j hj => ?_⟩, HM5.out, by omega, HNP, HB5.out⟩
            rw [getD_set, getD_set, zv j hj]
            by_cases e : k = j
            · rw [if_pos ⟨e, by simp; omega⟩, if_pos (by omega), ← e, HAV.out]
            · rw [if_neg (fun h => e h.1), if_neg (fun h => e h.1)]
              split <;> split <;> first | rfl | omega
          case measure => simp [intOf]; omega
      · have h3' : decide ((n : Int) < (k : Int) + 3) = true := by simp; omega
        go_wp2_with fail
        go_roundw
        case rel =>
          obtain ⟨zl, zv⟩ := Hz.out
          refine ⟨k + 1, cnt, zs.set k (-1), D, by omega, by go_num, O1.out, Lib.hid ⟨by simpa using zl, fun j hj => ?_⟩, M1.out, by omega, Lib.hid (near_skip HN.out (by rw [HL.out]; exact h3)), B1.out⟩
          rw [getD_set, zv j hj]
          by_cases e : k = j
          · rw [if_pos ⟨e, by omega⟩, if_pos (by omega), ← e, aheadV, if_neg (by rw [HL.out]; exact h3)]
          · rw [if_neg (fun h => e h.1)]
            split <;> split <;> first | rfl | omega
        case measure => simp [intOf]; omega
    · obtain rfl : k = n := by omega
      have hzs : zs = aheadL xs := by
        obtain ⟨zl, zv⟩ := Hz.out
        refine ext_getD (by rw [zl]; simp [aheadL, HL.out]) fun j hj => ?_
        rw [zv j (by omega), if_pos (by omega), aheadL, getD_map_range, if_pos (by rw [HL.out]; omega)]
      subst hzs
      have hll : (aheadL xs).length = k := Hz.out.1
      have HO := Lib.hid ho; have HBE := Lib.hid hbel
      clear ho hm hbel
      go_wp2
      go_ret
      rw [← hll]
      exact ⟨g, (aheadL xs).length, rfl, by rw [HG.out, hll]; exact HO.out, by rw [HG.out]; exact HBE.out⟩
end Go.Proofs.Ytfolhckhedinhaa
