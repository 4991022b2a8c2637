/-
  tile.Cut: the tiles of a picture.
-/
import Derived.Test.YtdmaoaclhaofbaaTiles
import Derived.Deep.RegionHeld3
namespace Go.Proofs.Ytdmaoaclhaofbaa
open Go.RowKit

def tils (W H C D : Int) (xs : List Int) (k : Nat) : List Til := (List.range k).map fun (i : Nat) => ((tileW W i, tileH W H i, C, D), tilP W H C D xs i)
theorem tils_len (W H C D : Int) (xs : List Int) (k : Nat) : (tils W H C D xs k).length = k := by simp [tils]
theorem tils_succ (W H C D : Int) (xs : List Int) (k : Nat) : tils W H C D xs (k + 1) = tils W H C D xs k ++ [((tileW W k, tileH W H k, C, D), tilP W H C D xs k)] := by simp [tils, List.range_succ]
/-- New pictures and an error's number. -/
def RetTs (w : World) (n : Nat) (ts : List Til) (E : Int) (e : Ending) (w' : World) : Prop :=
  ∃ g cap vs, e = .returned (.tuple #[.slice (some ⟨g, 0, Option.none⟩) n cap, .int .i64 E]) ∧ w'.ownsRow w.heap.size 26 5 (.slice (some ⟨g, 0, Option.none⟩) n cap) n vs ∧ HasT w' w.heap.size g vs ts ∧ Below w.heap.size w w'

theorem reads_seg {w : World} {b off n cap : Nat} {xs : List Int} (h : Reads .u8 w (some ⟨b, off, Option.none⟩) n cap xs) (P B0 Rt : Nat) (hf : P + B0 + Rt ≤ n) (h1 : 1 ≤ Rt) : Reads .u8 w (some ⟨b, off + P + B0, Option.none⟩) Rt (cap - P - B0) ((xs.drop (P + B0)).take Rt) := by
  have hle := h.le
  have := h.cut (P + B0) (P + B0 + Rt) (by omega) hf
  unfold cutA at this
  rw [if_neg (by omega)] at this
  simp only [Option.map_some, Addr.add_lit, Nat.add_sub_cancel_left] at this
  rw [Nat.add_assoc, Nat.sub_sub]
  exact this

theorem box_block {w w' : World} {g : Nat} {W H C D : Int} (h : Box w g W H C D) (hs : w.heap.size ≤ w'.heap.size) (e : w'.heap[g]? = w.heap[g]?) : Box w' g W H C D :=
  ⟨Nat.lt_of_lt_of_le h.lt hs, (World.cell?_of_block (a := ⟨g, 0, Option.none⟩) e).trans h.c0, (World.cell?_of_block (a := ⟨g, 1, Option.none⟩) e).trans h.c1, (World.cell?_of_block (a := ⟨g, 2, Option.none⟩) e).trans h.c2, (World.cell?_of_block (a := ⟨g, 3, Option.none⟩) e).trans h.c3,
    (World.frozen?_of_block (a := ⟨g, 0, Option.none⟩) e).trans h.f0, (World.frozen?_of_block (a := ⟨g, 1, Option.none⟩) e).trans h.f1, (World.frozen?_of_block (a := ⟨g, 2, Option.none⟩) e).trans h.f2, (World.frozen?_of_block (a := ⟨g, 3, Option.none⟩) e).trans h.f3⟩
theorem rbox_block {w w' : World} {g : Nat} {W H C D : Int} {a : Option Addr} {n cap : Nat} (h : RBox w g W H C D a n cap) (hs : w.heap.size ≤ w'.heap.size) (e : w'.heap[g]? = w.heap[g]?) : RBox w' g W H C D a n cap :=
  ⟨box_block h.box hs e, (World.cell?_of_block (a := ⟨g, 4, Option.none⟩) e).trans h.c4, (World.frozen?_of_block (a := ⟨g, 4, Option.none⟩) e).trans h.f4⟩
theorem rows_step (L seg : List Int) (k Rt M : Nat) (hL : L.length = k) : ((L ++ List.replicate (M - k) (0 : Int)).take k ++ (seg ++ (L ++ List.replicate (M - k) (0 : Int)).drop (k + Rt))) = (L ++ seg) ++ List.replicate (M - (k + Rt)) (0 : Int) := by
  subst hL
  rw [List.take_left', List.drop_append, List.drop_of_length_le (by omega), List.drop_replicate, List.append_assoc]
  · simp
    omega
  · rfl
/-- A picture laid into a list of pictures. -/
def lay5 (vs : List Value) (k : Nat) (u0 u1 u2 u3 u4 : Value) : List Value := ((((vs.set k u0).set (k + 1) u1).set (k + 2) u2).set (k + 3) u3).set (k + 4) u4
theorem lay5_old (vs : List Value) (k : Nat) (u0 u1 u2 u3 u4 : Value) (j : Nat) (h : j < k) : (lay5 vs k u0 u1 u2 u3 u4)[j]? = vs[j]? := by
  unfold lay5
  simp only [List.getElem?_set]
  rw [if_neg (by omega), if_neg (by omega), if_neg (by omega), if_neg (by omega), if_neg (by omega)]
theorem lay5_new (vs : List Value) (k : Nat) (u0 u1 u2 u3 u4 : Value) (h : k + 5 ≤ vs.length) : (lay5 vs k u0 u1 u2 u3 u4)[k]? = some u0 ∧ (lay5 vs k u0 u1 u2 u3 u4)[k + 1]? = some u1 ∧ (lay5 vs k u0 u1 u2 u3 u4)[k + 2]? = some u2 ∧ (lay5 vs k u0 u1 u2 u3 u4)[k + 3]? = some u3 ∧ (lay5 vs k u0 u1 u2 u3 u4)[k + 4]? = some u4 := by
  unfold lay5
  refine ⟨?_, ?_, ?_, ?_, ?_⟩ <;> simp [List.getElem?_set] <;> omega

set_option maxRecDepth 100000 in
set_option maxHeartbeats 2000000 in
theorem cut_yes (W H C D : Int) (b off n cap : Nat) (xs : List Int) (w : World) (hm : mayR W H C D n = true) (hr : Reads .u8 w (some ⟨b, off, Option.none⟩) n cap xs) :
    Calls Try.prog 13 #[ras W H C D (some ⟨b, off, Option.none⟩) n cap] w (RetTs w (tN W H) (tils W H C D xs (tN W H)) 0) := by
  obtain ⟨i0, hi, hz0, hz1, hz2⟩ := info_parts infoR
  have Hi := Lib.hid hi; have Hz0 := Lib.hid hz0; have Hz1 := Lib.hid hz1; have Hz2 := Lib.hid hz2
  clear hi hz0 hz1 hz2
  obtain ⟨i1, hi, hz0, hz1, hz2⟩ := info_parts infoC
  have Ji := Lib.hid hi; have Jz0 := Lib.hid hz0; have Jz1 := Lib.hid hz1; have Jz2 := Lib.hid hz2
  clear hi hz0 hz1 hz2
  obtain ⟨hbn, hs, hn⟩ := mayR_spec hm
  obtain ⟨a1, a2, a3, a4, a5⟩ := tN_bd hbn
  have hH : -9223372036854775808 ≤ H ∧ H ≤ 9223372036854775807 := by have := hbn.2.2.1; have := hbn.2.2.2.1; omega
  have cmay := fun w' => may_any W H C D (some ⟨b, off, Option.none⟩) n cap w' hH
  rw [hm] at cmay
  have cgr := fun w' => grid_may W H C D w' (mayR_iff' hm)
  rw [← a1, ← a2] at cgr
  have HMAY := Lib.hid cmay; have HGR := Lib.hid cgr; have HM := Lib.hid hm; have HR := Lib.hid hr
  have q1 : IntKind.i64.wrap ((tA W : Int) * (tA H : Int)) = (tN W H : Nat) := by rw [← Int.natCast_mul]; exact Go.IntWalk.i64_in _ (by have : tA W * tA H = tN W H := rfl; rw [this]; omega)
  have HTF := Lib.hid (tf_of hm)
  have HA1 := Lib.hid a1; have HA3 := Lib.hid a3
  have n63 := hr.n63
  have hle := hr.le
  clear cmay cgr hm hr hs hn a1 a2 a3
  have hb0 := rbox_alloc w W H C D (some ⟨b, off, Option.none⟩) n cap 26
  have hbl : Below w.heap.size w (w.alloc (.cells #[.int .i64 W, .int .i64 H, .int .i64 C, .int .i64 D, .slice (some ⟨b, off, Option.none⟩) n cap] 26)) := (Below.refl _ _).alloc (Nat.le_refl _) _
  have HB := Lib.hid hb0; have HL := Lib.hid hbl
  have hg0 : w.heap.size < (w.alloc (.cells #[.int .i64 W, .int .i64 H, .int .i64 C, .int .i64 D, .slice (some ⟨b, off, Option.none⟩) n cap] 26)).heap.size := by simp
  have c0 := hb0.box.c0; have c1 := hb0.box.c1; have c2 := hb0.box.c2; have c3 := hb0.box.c3; have c4 := hb0.c4
  clear hb0 hbl
  go_enter Try.func13, Try.ntmps13
  go_wp2_with fail
  refine (HMAY.out _).mono ?_; rintro e w1 ⟨rfl, bb⟩
  replace HB := Lib.hid (HB.out.below bb)
  replace HL := Lib.hid (below_size HL.out bb)
  have hg1 : w.heap.size < w1.heap.size := Nat.lt_of_lt_of_le hg0 bb.size
  clear c0 c1 c2 c3 c4 bb hg0
  have c0 := HB.out.box.c0; have c1 := HB.out.box.c1; have c2 := HB.out.box.c2; have c3 := HB.out.box.c3; have c4 := HB.out.c4
  go_wp2_with fail
  refine (HGR.out _).mono ?_; rintro e w2 ⟨rfl, bb⟩
  replace HB := Lib.hid (HB.out.below bb)
  replace HL := Lib.hid (below_size HL.out bb)
  have hg2 : w.heap.size < w2.heap.size := Nat.lt_of_lt_of_le hg1 bb.size
  clear c0 c1 c2 c3 c4 bb hg1
  obtain ⟨N, hN⟩ : ∃ N, tN W H = N := ⟨_, rfl⟩
  rw [hN] at q1 a4 a5 HA3 HTF ⊢
  have HN := Lib.hid hN
  clear hN
  go_wp2_with (at_make; refine wpList_make_full _ rfl _ _ 32 rfl w.heap.size 26 i0 _ 5 Try.underlying32 Hi.out Hz0.out Hz1.out _ _ _ _ N rfl rfl (by first | rfl | omega) (by first | rfl | omega) (by rw [Hz2.out]; omega) (by unfold maxLen; omega) (Nat.le_of_lt hg2) ?_)
  intro w3 hown hgrow
  have hb3 : Below w.heap.size w w3 := HL.out.grown hgrow (Nat.le_of_lt hg2) (fun k h => nomatch h)
  have hbx3 : RBox w3 w.heap.size W H C D (some ⟨b, off, Option.none⟩) n cap := HB.out.below ((Below.refl _ _).grown hgrow (Nat.le_refl _) (fun k h => nomatch h) : Below w2.heap.size w2 w3)
  have hg3 : w2.heap.size < w3.heap.size := (hown.lt _ rfl).2
  have HO := Lib.hid hown; have HL3 := Lib.hid hb3; have HB3 := Lib.hid hbx3
  clear hgrow hown hb3 hbx3 HB HL
  generalize w2.heap.size = g at *
  obtain ⟨vs0, HO⟩ : ∃ vs, Hid (w3.ownsRow w.heap.size 26 5 (.slice (some ⟨g, 0, Option.none⟩) N N) N vs) := ⟨_, HO⟩
  go_wp2_with fail
  go_loopw [26] (fun vi wr => ∃ (i : Nat) (vs : List Value), i ≤ N ∧ vi = .int .i64 i ∧ wr.ownsRow w.heap.size 26 5 (.slice (some ⟨g, 0, Option.none⟩) N N) N vs ∧ HasT wr w.heap.size g vs (tils W H C D xs i) ∧ Below w.heap.size w wr ∧ RBox wr w.heap.size W H C D (some ⟨b, off, Option.none⟩) n cap) (fun vi _ => N - (intOf vi).toNat)
  case atStart => exact ⟨0, vs0, Nat.zero_le _, rfl, HO.out, HasT.nil _ _ _ _, HL3.out, HB3.out⟩
  case round =>
    obtain ⟨i, vs, hi, rfl, ho, ht, hl, hb⟩ := hrel
    clear HO HL3 HB3
    have HO := Lib.hid ho; have HT := Lib.hid ht; have HL := Lib.hid hl; have HB := Lib.hid hb
    have hg0 := hb.lt
    have hgr := (ho.lt g rfl).2
    clear ho ht hl hb
    by_cases hlt : i < N
    · have T := Lib.hid (HTF.out i hlt)
      have csh := fun w' => shape_ok W H C D i w' (mayR_iff' HM.out) ⟨by omega, T.out.hi⟩
      have csz := fun w' => size_any (tileW W i) (tileH W H i) C D w' (by have := T.out.hH; have := T.out.h8; omega)
      have hsz : sizeN (tileW W i) (tileH W H i) C D = ((tH W H i * tRt W H C D i : Nat) : Int) := by have := (mayR_spec T.out.may).2.2; omega
      rw [hsz] at csz
      have CSH := Lib.hid csh; have CSZ := Lib.hid csz
      have hth := T.out.hH
      have h8 := T.out.h8; have h1 := T.out.h1
      clear csh csz hsz
      obtain ⟨M, hM⟩ : ∃ M, tH W H i * tRt W H C D i = M := ⟨_, rfl⟩
      have hMle := T.out.le
      rw [hM] at CSZ hMle
      have HMM := Lib.hid hM
      obtain ⟨h, hh⟩ : ∃ h, tH W H i = h := ⟨_, rfl⟩
      have HHH := Lib.hid hh
      rw [hh] at hth h8 h1
      obtain ⟨tw, htw⟩ : ∃ tw, tileW W i = tw := ⟨_, rfl⟩
      have HTW := Lib.hid htw
      rw [← hth, htw] at CSH CSZ
      have HTH := Lib.hid hth
      clear hM hh hth htw
      have c0 := HB.out.box.c0; have c1 := HB.out.box.c1; have c2 := HB.out.box.c2; have c3 := HB.out.box.c3; have c4 := HB.out.c4
      go_wp2_with fail
      refine (CSH.out _).mono ?_; rintro e w4 ⟨rfl, bb⟩
      replace HB := Lib.hid (HB.out.below bb)
      replace HL := Lib.hid (below_size HL.out bb)
      have ho4 := owns_keep HO.out (fun r hr => bb.block r (HO.out.lt r hr).2)
      have ht4 := HT.out.keep (fun r hr _ => bb.block r hr) (fun k _ => rfl)
      have hs4 := bb.size
      replace HO := Lib.hid ho4; replace HT := Lib.hid ht4
      clear c0 c1 c2 c3 c4 bb ho4 ht4
      go_wp2_with fail
      have hs5 := box_alloc w4 tw h C D 23
      have hb5 := HB.out.below ((Below.refl _ _).alloc (Nat.le_refl _) (.cells #[.int .i64 tw, .int .i64 h, .int .i64 C, .int .i64 D] 23))
      have hl5 := HL.out.alloc (by omega) (.cells #[.int .i64 tw, .int .i64 h, .int .i64 C, .int .i64 D] 23)
      have ho5 := World.ownsRow.alloc HO.out (.cells #[.int .i64 tw, .int .i64 h, .int .i64 C, .int .i64 D] 23)
      have ht5 := HT.out.keep (w' := w4.alloc (.cells #[.int .i64 tw, .int .i64 h, .int .i64 C, .int .i64 D] 23)) (fun r hr _ => Below.heap_alloc _ _ _ hr) (fun k _ => rfl)
      have hg8 : w4.heap.size < (w4.alloc (.cells #[.int .i64 tw, .int .i64 h, .int .i64 C, .int .i64 D] 23)).heap.size := by simp
      have hgg8 : g < w4.heap.size := by omega
      replace HB := Lib.hid hb5; replace HL := Lib.hid hl5; replace HO := Lib.hid ho5; replace HT := Lib.hid ht5
      have HS := Lib.hid hs5
      clear hs5 hb5 hl5 ho5 ht5
      generalize hw5 : w4.alloc (.cells #[.int .i64 tw, .int .i64 h, .int .i64 C, .int .i64 D] 23) = w5 at *
      generalize hgs : w4.heap.size = gs at *
      clear hw5 hgs
      have Keep : Hid (∀ w' : World, w'.heap[gs]? = w5.heap[gs]? → w'.cell? ⟨gs, 0, Option.none⟩ = some (.int .i64 tw) ∧ w'.cell? ⟨gs, 1, Option.none⟩ = some (.int .i64 h) ∧ w'.cell? ⟨gs, 2, Option.none⟩ = some (.int .i64 C) ∧ w'.cell? ⟨gs, 3, Option.none⟩ = some (.int .i64 D)) := Lib.hid fun w' e => ⟨(World.cell?_of_block (a := ⟨gs, 0, Option.none⟩) e).trans HS.out.c0, (World.cell?_of_block (a := ⟨gs, 1, Option.none⟩) e).trans HS.out.c1, (World.cell?_of_block (a := ⟨gs, 2, Option.none⟩) e).trans HS.out.c2, (World.cell?_of_block (a := ⟨gs, 3, Option.none⟩) e).trans HS.out.c3⟩
      have hvl : vs.length = N * 5 := HO.out.1
      have HSV := Lib.hid (fun (x : World) (ho : x.ownsRow w.heap.size 26 5 (.slice (some ⟨g, 0, Option.none⟩) N N) N vs) (t : Nat) (ht : t < 5) => (ho.cellAt (i * 5 + t) (by omega)).trans (List.getElem?_eq_getElem (by rw [hvl]; omega)))
      have e0 : w5.drew.heap[gs]? = w5.heap[gs]? := rfl
      have hgsg : gs ≠ g := by omega
      go_region_held3 (fun w' => w'.cell? ⟨gs, 0, Option.none⟩ = some (.int .i64 tw) ∧ w'.cell? ⟨gs, 1, Option.none⟩ = some (.int .i64 h) ∧ w'.cell? ⟨gs, 2, Option.none⟩ = some (.int .i64 C) ∧ w'.cell? ⟨gs, 3, Option.none⟩ = some (.int .i64 D))
        (first | (refine Keep.out _ ?_; first | with_reducible exact e0 | with_reducible exact e1 | with_reducible exact e2 | (rw [Below.heap_setCell _ _ _ gs hgsg, Below.heap_setCell _ _ _ gs hgsg, Below.heap_setCell _ _ _ gs hgsg, Below.heap_setCell _ _ _ gs hgsg, Below.heap_setCell _ _ _ gs hgsg]; with_reducible exact e2)))
        (first
        | (go_at_call 27; refine (CSZ.out _).mono ?_; rintro e x1 ⟨rfl, bb1⟩; have e1 : x1.heap[gs]? = w5.heap[gs]? := bb1.block gs hg8; obtain ⟨x2, hrun, rx, gx⟩ := run_make_full (P := Try.prog) x1 x1.heap.size 24 5 i1 (.int .u8 0) 1 Try.underlying24 Ji.out Jz0.out Jz1.out .i64 .i64 M (by rw [Jz2.out]; omega) (by unfold maxLen; omega) (Nat.le_refl _); have bb2 := below_size bb1 ((Below.refl _ _).grown gx (Nat.le_refl _) (fun k hk => nomatch hk) : Below x1.heap.size x1 x2); have e2 : x2.heap[gs]? = w5.heap[gs]? := bb2.block gs hg8; have O2 := owns_keep HO.out (fun r hr => bb2.block r (HO.out.lt r hr).2); have k0 : x2.cell? ⟨g, i * 5, Option.none⟩ = some _ := HSV.out x2 O2 0 (by decide); have k1 := HSV.out x2 O2 1 (by decide); have k2 := HSV.out x2 O2 2 (by decide); have k3 := HSV.out x2 O2 3 (by decide); have k4 := HSV.out x2 O2 4 (by decide); have f0 := O2.frozenAt (i * 5); have f1 := O2.frozenAt (i * 5 + 1); have f2 := O2.frozenAt (i * 5 + 2); have f3 := O2.frozenAt (i * 5 + 3); have f4 := O2.frozenAt (i * 5 + 4)))
      have hx1 : w5.heap.size ≤ x1.heap.size := bb1.size
      have hgp2 : x1.heap.size < x2.heap.size := (rx.lt _ rfl).2
      rw [Nat.mul_one, show (Value.int .u8 0).cells = #[.int .u8 0] from rfl, toList_made M .u8] at rx
      have o3 := ((((((O2.stored (i * 5) (.int .i64 tw)).1.stored (i * 5 + 1) (.int .i64 h)).1.stored (i * 5 + 2) (.int .i64 C)).1.stored (i * 5 + 3) (.int .i64 D)).1.stored (i * 5 + 4) (.slice (some ⟨x1.heap.size, 0, Option.none⟩) M M)).1)
      have hblk : ∀ r, r ≠ g → (((((x2.setCell ⟨g, i * 5, Option.none⟩ (.int .i64 tw)).setCell ⟨g, i * 5 + 1, Option.none⟩ (.int .i64 h)).setCell ⟨g, i * 5 + 2, Option.none⟩ (.int .i64 C)).setCell ⟨g, i * 5 + 3, Option.none⟩ (.int .i64 D)).setCell ⟨g, i * 5 + 4, Option.none⟩ (.slice (some ⟨x1.heap.size, 0, Option.none⟩) M M)).heap[r]? = x2.heap[r]? := fun r hr => by
        rw [Below.heap_setCell _ _ _ r hr, Below.heap_setCell _ _ _ r hr, Below.heap_setCell _ _ _ r hr, Below.heap_setCell _ _ _ r hr, Below.heap_setCell _ _ _ r hr]
      have hsz3 : (((((x2.setCell ⟨g, i * 5, Option.none⟩ (.int .i64 tw)).setCell ⟨g, i * 5 + 1, Option.none⟩ (.int .i64 h)).setCell ⟨g, i * 5 + 2, Option.none⟩ (.int .i64 C)).setCell ⟨g, i * 5 + 3, Option.none⟩ (.int .i64 D)).setCell ⟨g, i * 5 + 4, Option.none⟩ (.slice (some ⟨x1.heap.size, 0, Option.none⟩) M M)).heap.size = x2.heap.size := by simp
      have hl3 := (((((below_size HL.out.drew bb2).setCell (p := ⟨g, i * 5, Option.none⟩) (Nat.le_of_lt hg2) (.int .i64 tw)).setCell (p := ⟨g, i * 5 + 1, Option.none⟩) (Nat.le_of_lt hg2) (.int .i64 h)).setCell (p := ⟨g, i * 5 + 2, Option.none⟩) (Nat.le_of_lt hg2) (.int .i64 C)).setCell (p := ⟨g, i * 5 + 3, Option.none⟩) (Nat.le_of_lt hg2) (.int .i64 D)).setCell (p := ⟨g, i * 5 + 4, Option.none⟩) (Nat.le_of_lt hg2) (.slice (some ⟨x1.heap.size, 0, Option.none⟩) M M)
      generalize hx3 : (((((x2.setCell ⟨g, i * 5, Option.none⟩ (.int .i64 tw)).setCell ⟨g, i * 5 + 1, Option.none⟩ (.int .i64 h)).setCell ⟨g, i * 5 + 2, Option.none⟩ (.int .i64 C)).setCell ⟨g, i * 5 + 3, Option.none⟩ (.int .i64 D)).setCell ⟨g, i * 5 + 4, Option.none⟩ (.slice (some ⟨x1.heap.size, 0, Option.none⟩) M M)) = x3 at *
      clear hx3
      have p3 := owns_keep rx (w' := x3) (fun r hr => hblk r (by simp [Value.ownBlock] at hr; omega))
      have hold : ∀ r, r < w5.heap.size → r ≠ g → x3.heap[r]? = w5.heap[r]? := fun r hr hne => (hblk r hne).trans (bb2.block r hr)
      have hs3 : w5.heap.size ≤ x3.heap.size := by omega
      generalize hgpE : x1.heap.size = gp at *
      have hgp3 : gp < x3.heap.size := by omega
      have Hold := Lib.hid (fun (wz : World) (hz : Below gp x3 wz) (r : Nat) (hr : r < w5.heap.size) (hne : r ≠ g) => (hz.block r (by omega)).trans (hold r hr hne))
      have HBz := Lib.hid (fun (wz : World) (hz : Below gp x3 wz) => rbox_block HB.out (Nat.le_trans hs3 hz.size) (Hold.out wz hz w.heap.size (by omega) (by omega)))
      have HSz := Lib.hid (fun (wz : World) (hz : Below gp x3 wz) => box_block HS.out (Nat.le_trans hs3 hz.size) (Hold.out wz hz gs (by omega) (by omega)))
      have hlay : ((((vs.set (i * 5) (.int .i64 tw)).set (i * 5 + 1) (.int .i64 h)).set (i * 5 + 2) (.int .i64 C)).set (i * 5 + 3) (.int .i64 D)).set (i * 5 + 4) (.slice (some ⟨gp, 0, Option.none⟩) M M) = lay5 vs (i * 5) (.int .i64 tw) (.int .i64 h) (.int .i64 C) (.int .i64 D) (.slice (some ⟨gp, 0, Option.none⟩) M M) := rfl
      rw [hlay] at o3
      obtain ⟨n0, n1, n2, n3, n4⟩ := lay5_new vs (i * 5) (.int .i64 tw) (.int .i64 h) (.int .i64 C) (.int .i64 D) (.slice (some ⟨gp, 0, Option.none⟩) M M) (by omega)
      have HLO := Lib.hid (lay5_old vs (i * 5) (.int .i64 tw) (.int .i64 h) (.int .i64 C) (.int .i64 D) (.slice (some ⟨gp, 0, Option.none⟩) M M))
      generalize lay5 vs (i * 5) (.int .i64 tw) (.int .i64 h) (.int .i64 C) (.int .i64 D) (.slice (some ⟨gp, 0, Option.none⟩) M M) = vs' at *
      have O3 := Lib.hid o3; have P3 := Lib.hid p3; have HL3 := Lib.hid hl3
      have HN0 := Lib.hid n0; have HN1 := Lib.hid n1; have HN2 := Lib.hid n2; have HN3 := Lib.hid n3; have HN4 := Lib.hid n4
      have HOz := Lib.hid (fun (wz : World) (hz : Below gp x3 wz) => owns_keep O3.out (fun r hr => hz.block r (by simp [Value.ownBlock] at hr; omega)))
      have hsh := HSz.out x3 (Below.refl _ _)
      have d1 := hsh.c1
      clear hsh hlay o3 p3 hl3 n0 n1 n2 n3 n4 k0 k1 k2 k3 k4 f0 f1 f2 f3 f4 e0 e1 e2 bb1 bb2 rx gx hrun O2 HSV Keep hold hblk hsz3 HB HL HO HS
      go_wp2_with fail
      clear d1
      go_loopw [49] (fun vy wz => ∃ (y : Nat), y ≤ h ∧ vy = .int .i64 y ∧ wz.ownsRow gp 5 1 (.slice (some ⟨gp, 0, Option.none⟩) M M) M ((rowsB xs (tR W H C D) (tB0 W C D i) (tRt W H C D i) (i / tA W) y ++ List.replicate (M - y * tRt W H C D i) (0 : Int)).map (Value.int .u8)) ∧ Below gp x3 wz) (fun vy _ => h - (intOf vy).toNat)
      case atStart => exact ⟨0, Nat.zero_le _, rfl, by simpa [rowsB] using P3.out, Below.refl _ _⟩
      case round =>
        obtain ⟨y, hy, rfl, hp, hz⟩ := hrel
        have HP := Lib.hid hp; have HZ := Lib.hid hz
        have hgz := (hp.lt gp rfl).2
        clear hp hz P3
        by_cases hlt2 : y < h
        · have hle2 : y * tRt W H C D i + tRt W H C D i ≤ M := by
            have : (y + 1) * tRt W H C D i ≤ h * tRt W H C D i := Nat.mul_le_mul_right _ hlt2
            rw [Nat.add_mul, Nat.one_mul] at this
            have e := HMM.out
            rw [HHH.out] at e
            omega
          have hyh : (y : Int) < tileH W H i := by rw [← HTH.out]; omega
          have crow := fun w' => tileRow_any tw h C D gp 0 M M y (tRt W H C D i) (y * tRt W H C D i) w' (by have := T.out.may; rw [HTW.out, ← HTH.out, HMM.out] at this; exact this) (by omega) (Nat.le_refl _) (by have := T.out.hRt; rw [HTW.out, ← HTH.out] at this; exact this) rfl
          obtain ⟨P, hP⟩ : ∃ P, (i / tA W * 8 + y) * tR W H C D = P := ⟨_, rfl⟩
          have cpart := fun w' => part_any W H C D b off n cap i y (tR W H C D) P (tA W) (tB0 W C D i) (tRt W H C D i) w' HM.out T.out.hA T.out.hi hyh hle T.out.hR hP.symm T.out.hB T.out.hRt
          rw [HTW.out, ← HTH.out] at cpart
          have hfit := T.out.fit y (by rw [HHH.out]; exact hlt2)
          rw [hP] at hfit
          have hrl := rowsB_len (xs := xs) (R := tR W H C D) (B0 := tB0 W C D i) (Rt := tRt W H C D i) (qy := i / tA W) y (fun z hz => by rw [HR.out.len]; exact T.out.fit z (by rw [HHH.out]; omega))
          have hseg : segB xs (tR W H C D) (tB0 W C D i) (tRt W H C D i) (i / tA W) y = (xs.drop (P + tB0 W C D i)).take (tRt W H C D i) := by unfold segB; rw [hP]
          have hr1 := T.out.r1
          have HNXT := Lib.hid (show rowsB xs (tR W H C D) (tB0 W C D i) (tRt W H C D i) (i / tA W) (y + 1) = rowsB xs (tR W H C D) (tB0 W C D i) (tRt W H C D i) (i / tA W) y ++ segB xs (tR W H C D) (tB0 W C D i) (tRt W H C D i) (i / tA W) y from rfl)
          have HMUL := Lib.hid (show (y + 1) * tRt W H C D i = y * tRt W H C D i + tRt W H C D i by rw [Nat.add_mul, Nat.one_mul])
          generalize rowsB xs (tR W H C D) (tB0 W C D i) (tRt W H C D i) (i / tA W) y = L at *
          generalize tRt W H C D i = Rt at *
          generalize tB0 W C D i = B0 at *
          have HSTEP := Lib.hid (rows_step L (segB xs (tR W H C D) B0 Rt (i / tA W) y) (y * Rt) Rt M hrl)
          have CROW := Lib.hid crow; have CPART := Lib.hid cpart; have HSEG := Lib.hid hseg
          have HRD := Lib.hid (fun (wz : World) (hz : Below gp x3 wz) => reads_seg (HR.out.below (HL3.out.trans (hz.mono (by omega)))) P B0 Rt hfit hr1)
          rw [← hseg] at HRD
          clear crow cpart hseg hP hrl hyh
          generalize segB xs (tR W H C D) B0 Rt (i / tA W) y = seg at *
          generalize y * Rt = K at *
          have KeepS : Hid (∀ w' : World, Below gp x3 w' → (w'.cell? ⟨g, i * 5, Option.none⟩ = some (.int .i64 tw) ∧ w'.cell? ⟨g, i * 5 + 1, Option.none⟩ = some (.int .i64 h) ∧ w'.cell? ⟨g, i * 5 + 2, Option.none⟩ = some (.int .i64 C) ∧ w'.cell? ⟨g, i * 5 + 3, Option.none⟩ = some (.int .i64 D) ∧ w'.cell? ⟨g, i * 5 + 4, Option.none⟩ = some (.slice (some ⟨gp, 0, Option.none⟩) M M)) ∧
              (w'.cell? ⟨w.heap.size, 0, Option.none⟩ = some (.int .i64 W) ∧ w'.cell? ⟨w.heap.size, 1, Option.none⟩ = some (.int .i64 H) ∧ w'.cell? ⟨w.heap.size, 2, Option.none⟩ = some (.int .i64 C) ∧ w'.cell? ⟨w.heap.size, 3, Option.none⟩ = some (.int .i64 D) ∧ w'.cell? ⟨w.heap.size, 4, Option.none⟩ = some (.slice (some ⟨b, off, Option.none⟩) n cap)) ∧
              (w'.cell? ⟨gs, 0, Option.none⟩ = some (.int .i64 tw) ∧ w'.cell? ⟨gs, 1, Option.none⟩ = some (.int .i64 h) ∧ w'.cell? ⟨gs, 2, Option.none⟩ = some (.int .i64 C) ∧ w'.cell? ⟨gs, 3, Option.none⟩ = some (.int .i64 D))) := Lib.hid fun w' hz => by
            have r1 := HBz.out w' hz
            have r2 := HSz.out w' hz
            have r3 := HOz.out w' hz
            refine ⟨⟨?_, ?_, ?_, ?_, ?_⟩, ⟨r1.box.c0, r1.box.c1, r1.box.c2, r1.box.c3, r1.c4⟩, r2.c0, r2.c1, r2.c2, r2.c3⟩
            · rw [r3.cellAt _ (by omega)]; exact HN0.out
            · rw [r3.cellAt _ (by omega)]; exact HN1.out
            · rw [r3.cellAt _ (by omega)]; exact HN2.out
            · rw [r3.cellAt _ (by omega)]; exact HN3.out
            · rw [r3.cellAt _ (by omega)]; exact HN4.out
          have kp0 := HZ.out.drew
          have hB : gp ≤ wr.drew.heap.size := Nat.le_of_lt hgz
          go_wp2_with fail
          go_region_held3 (fun w' => (w'.cell? ⟨g, i * 5, Option.none⟩ = some (.int .i64 tw) ∧ w'.cell? ⟨g, i * 5 + 1, Option.none⟩ = some (.int .i64 h) ∧ w'.cell? ⟨g, i * 5 + 2, Option.none⟩ = some (.int .i64 C) ∧ w'.cell? ⟨g, i * 5 + 3, Option.none⟩ = some (.int .i64 D) ∧ w'.cell? ⟨g, i * 5 + 4, Option.none⟩ = some (.slice (some ⟨gp, 0, Option.none⟩) M M)) ∧
              (w'.cell? ⟨w.heap.size, 0, Option.none⟩ = some (.int .i64 W) ∧ w'.cell? ⟨w.heap.size, 1, Option.none⟩ = some (.int .i64 H) ∧ w'.cell? ⟨w.heap.size, 2, Option.none⟩ = some (.int .i64 C) ∧ w'.cell? ⟨w.heap.size, 3, Option.none⟩ = some (.int .i64 D) ∧ w'.cell? ⟨w.heap.size, 4, Option.none⟩ = some (.slice (some ⟨b, off, Option.none⟩) n cap)) ∧
              (w'.cell? ⟨gs, 0, Option.none⟩ = some (.int .i64 tw) ∧ w'.cell? ⟨gs, 1, Option.none⟩ = some (.int .i64 h) ∧ w'.cell? ⟨gs, 2, Option.none⟩ = some (.int .i64 C) ∧ w'.cell? ⟨gs, 3, Option.none⟩ = some (.int .i64 D)))
            (first | (refine KeepS.out _ ?_; first | with_reducible exact kp0 | with_reducible exact kp1 | with_reducible exact kp2 | with_reducible exact kp3))
            (first
            | (go_at_call 28; refine (CROW.out _).mono ?_; rintro e y1 ⟨rfl, bb1⟩; have kp1 : Below gp x3 y1 := kp0.trans (bb1.mono hB))
            | (go_at_call 29; refine (CPART.out _).mono ?_; rintro e y2 ⟨rfl, bb2⟩; have kp2 : Below gp x3 y2 := kp1.trans (bb2.mono (Nat.le_trans hB bb1.size)))
            | (refine step_copy_reads rfl _ _ 24 rfl gp 5 Try.underlying24 (by rw [Ji.out]; simp [Jz1.out]) .u8 gp K M M Rt (M - K) (L ++ List.replicate (M - K) (0 : Int)) (owns_keep HP.out (fun r hr => (bb2.block r (by have := (HP.out.lt r hr).2; have := bb1.size; simp at this; omega)).trans (bb1.block r (HP.out.lt r hr).2))) rfl _ Rt _ seg rfl (HRD.out y2 kp2) (Nat.le_refl _) (by omega) gp x3 kp2 (Nat.le_refl _) ?_; intro y3 r3 kp3))
          have HP3 := Lib.hid (show y3.ownsRow gp 5 1 (.slice (some ⟨gp, 0, Option.none⟩) M M) M (((L ++ seg) ++ List.replicate (M - (K + Rt)) (0 : Int)).map (Value.int .u8)) by rw [← HSTEP.out]; exact r3)
          have HZ3 := Lib.hid kp3
          clear r3 kp3 kp2 kp1 kp0 bb1 bb2 KeepS
          go_wp2_with fail
          go_roundw
          case rel => exact ⟨y + 1, by omega, by go_num, by rw [HNXT.out, HMUL.out]; exact HP3.out, HZ3.out⟩
          case measure => simp [intOf]; omega
        · obtain rfl : y = h := by omega
          have hMe : y * tRt W H C D i = M := by have := HMM.out; rw [HHH.out] at this; exact this
          have hpp := HP.out
          rw [hMe, Nat.sub_self, List.replicate_zero, List.append_nil] at hpp
          have htil : tilP W H C D xs i = rowsB xs (tR W H C D) (tB0 W C D i) (tRt W H C D i) (i / tA W) y := by unfold tilP; rw [HHH.out]
          rw [← htil] at hpp
          have hlenP : (tilP W H C D xs i).length = M := by have := hpp.1; simpa using this
          have hobase : wr.ownsRow w.heap.size 5 1 (.slice (some ⟨gp, 0, Option.none⟩) M M) M ((tilP W H C D xs i).map (Value.int .u8)) := owns_base hpp (by omega)
          have hT1 := HT.out.keep (w' := wr) (vs' := vs') (fun r hr hne => Hold.out wr HZ.out r hr hne) (fun k hk => HLO.out k (by rw [tils_len] at hk; exact hk))
          have hT2 := hT1.push ((tileW W i, tileH W H i, C, D), tilP W H C D xs i) gp M (by rw [tils_len, HTW.out]; exact HN0.out) (by rw [tils_len, ← HTH.out]; exact HN1.out) (by rw [tils_len]; exact HN2.out) (by rw [tils_len]; exact HN3.out) (by rw [tils_len, hlenP]; exact HN4.out) (by omega) (by rw [hlenP]; exact hobase)
          rw [← tils_succ] at hT2
          have HT2 := Lib.hid hT2
          have HO2 := Lib.hid (HOz.out wr HZ.out)
          have HL2 := Lib.hid (HL3.out.trans (HZ.out.mono (by omega)))
          have HB2 := Lib.hid (HBz.out wr HZ.out)
          clear hT1 hT2 hobase hpp hlenP htil
          go_wp2_with fail
          go_roundw
          case rel => exact ⟨i + 1, vs', by omega, by go_num, HO2.out, HT2.out, HL2.out, HB2.out⟩
          case measure => simp [intOf]; omega
    · obtain rfl : i = N := by omega
      go_wp2_with fail
      go_ret2
      rw [HN.out]
      exact ⟨g, i, vs, rfl, HO.out, HT.out, HL.out⟩
end Go.Proofs.Ytdmaoaclhaofbaa
