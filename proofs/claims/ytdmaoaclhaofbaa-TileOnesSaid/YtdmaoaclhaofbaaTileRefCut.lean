/-
  aquref9.Cut: the tiles of a picture, by definition.
-/
import Derived.Test.YtdmaoaclhaofbaaTileCut
import Derived.Test.YtdmaoaclhaofbaaTileRefOk
import Derived.Test.YtdmaoaclhaofbaaGrowTail
namespace Go.Proofs.Ytdmaoaclhaofbaa
open Go.RowKit

theorem RBox.setPix {w : World} {g : Nat} {W H C D : Int} {a : Option Addr} {n cap : Nat} (h : RBox w g W H C D a n cap) (b : Option Addr) (m k : Nat) : RBox (w.setCell ⟨g, 4, Option.none⟩ (.slice b m k)) g W H C D b m k := by
  refine ⟨⟨by simpa using h.lt, ?_, ?_, ?_, ?_, ?_, ?_, ?_, ?_⟩, World.cell?_setCell_same _ _ _ h.c4, by simpa [World.frozen?_setCell] using h.f4⟩
  · rw [World.cell?_setCell_other _ _ _ _ (by simp)]; exact h.box.c0
  · rw [World.cell?_setCell_other _ _ _ _ (by simp)]; exact h.box.c1
  · rw [World.cell?_setCell_other _ _ _ _ (by simp)]; exact h.box.c2
  · rw [World.cell?_setCell_other _ _ _ _ (by simp)]; exact h.box.c3
  · rw [World.frozen?_setCell]; exact h.box.f0
  · rw [World.frozen?_setCell]; exact h.box.f1
  · rw [World.frozen?_setCell]; exact h.box.f2
  · rw [World.frozen?_setCell]; exact h.box.f3
theorem cells_alloc5 (w : World) (x y z u v : Value) (T : TypeId) (f : Nat × Nat) : ∀ j t, [x, y, z, u, v][j]? = some t → (w.alloc (.cells #[x, y, z, u, v] T f)).cell? ((⟨w.heap.size, 0, Option.none⟩ : Addr).add j) = some t := by
  intro j t hj
  have hh : (w.alloc (.cells #[x, y, z, u, v] T f)).heap[w.heap.size]? = some (.cells #[x, y, z, u, v] T f) := by
    show (w.heap.push _)[w.heap.size]? = _
    simp
  rw [Addr.add_lit]
  unfold World.cell?
  simp only [Nat.zero_add]
  rw [hh]
  simpa using hj
theorem HasT.keep2 {w w' : World} {base g g' : Nat} {vs vs' : List Value} {ts : List Til} (h : HasT w base g vs ts) (hb : ∀ r, r < w.heap.size → r ≠ g → w'.heap[r]? = w.heap[r]?) (hv : ∀ k, k < ts.length * 5 → vs'[k]? = vs[k]?) (hg : g' = g ∨ w.heap.size ≤ g') : HasT w' base g' vs' ts := by
  intro j hj
  obtain ⟨q, c, v0, v1, v2, v3, v4, hq, ho⟩ := h j hj
  refine ⟨q, c, ?_, ?_, ?_, ?_, ?_, by have := (ho.lt q rfl).2; omega, owns_keep ho (fun r hr => hb r (ho.lt r hr).2 (by simp [Value.ownBlock] at hr; omega))⟩
  · rw [hv _ (by omega)]; exact v0
  · rw [hv _ (by omega)]; exact v1
  · rw [hv _ (by omega)]; exact v2
  · rw [hv _ (by omega)]; exact v3
  · rw [hv _ (by omega)]; exact v4
theorem HasT.rebase {w : World} {base g g' : Nat} {vs : List Value} {ts : List Til} (h : HasT w base g vs ts) (hg : g' = g ∨ w.heap.size ≤ g') : HasT w base g' vs ts := by
  intro j hj
  obtain ⟨q, c, v0, v1, v2, v3, v4, hq, ho⟩ := h j hj
  exact ⟨q, c, v0, v1, v2, v3, v4, by have := (ho.lt q rfl).2; omega, ho⟩

set_option maxRecDepth 100000 in
set_option maxHeartbeats 2000000 in
theorem rcut_yes (W H C D : Int) (b off n cap : Nat) (xs : List Int) (w : World) (hm : mayR W H C D n = true) (hr : Reads .u8 w (some ⟨b, off, Option.none⟩) n cap xs) :
    Calls Try.prog 14 #[ras W H C D (some ⟨b, off, Option.none⟩) n cap] w (RetTs w (tN W H) (tils W H C D xs (tN W H)) 0) := by
  obtain ⟨i0, hi, hz0, hz1, hz2⟩ := info_parts infoR
  have Hi := Lib.hid hi; have Hz0 := Lib.hid hz0; have Hz1 := Lib.hid hz1; have Hz2 := Lib.hid hz2
  clear hi hz0 hz1 hz2
  obtain ⟨i1, hi, hz0, hz1, hz2⟩ := info_parts infoC
  have Ji := Lib.hid hi; have Jz0 := Lib.hid hz0; have Jz1 := Lib.hid hz1; have Jz2 := Lib.hid hz2
  clear hi hz0 hz1 hz2
  obtain ⟨hbn, hs, hn⟩ := mayR_spec hm
  obtain ⟨a1, a2, a3, a4, a5⟩ := tN_bd hbn
  have hH : -9223372036854775808 ≤ H ∧ H ≤ 9223372036854775807 := by have := hbn.2.2.1; have := hbn.2.2.2.1; omega
  have cmay := fun w' => rmay_any W H C D (some ⟨b, off, Option.none⟩) n cap w' hH
  rw [hm] at cmay
  have cgr := fun w' => rgrid_may W H C D w' (mayR_iff' hm)
  rw [← a1, ← a2] at cgr
  have HMAY := Lib.hid cmay; have HGR := Lib.hid cgr; have HM := Lib.hid hm; have HR := Lib.hid hr
  have q1 : IntKind.i64.wrap ((tA W : Int) * (tA H : Int)) = (tN W H : Nat) := by rw [← Int.natCast_mul]; exact Go.IntWalk.i64_in _ (by have : tA W * tA H = tN W H := rfl; rw [this]; omega)
  have HTF := Lib.hid (tf_of hm)
  have HA1 := Lib.hid a1; have HA3 := Lib.hid a3
  have n63 := hr.n63
  have hle := hr.le
  clear cmay cgr hm hr hs hn a1 a2 a3
  have hb0 := rbox_alloc w W H C D (some ⟨b, off, Option.none⟩) n cap 26
  have hbl : Below w.heap.size w (w.alloc (.cells #[.int .i64 W, .int .i64 H, .int .i64 C, .int .i64 D, .slice (some ⟨b, off, Option.none⟩) n cap] 26)) := (Below.refl _ _).alloc (Nat.le_refl _) _
  have HB := Lib.hid hb0; have HL := Lib.hid hbl
  have hg0 : w.heap.size < (w.alloc (.cells #[.int .i64 W, .int .i64 H, .int .i64 C, .int .i64 D, .slice (some ⟨b, off, Option.none⟩) n cap] 26)).heap.size := by simp
  have c0 := hb0.box.c0; have c1 := hb0.box.c1; have c2 := hb0.box.c2; have c3 := hb0.box.c3; have c4 := hb0.c4
  clear hb0 hbl
  go_enter Try.func14, Try.ntmps14
  go_wp2_with fail
  refine (HMAY.out _).mono ?_; rintro e w1 ⟨rfl, bb⟩
  replace HB := Lib.hid (HB.out.below bb)
  replace HL := Lib.hid (below_size HL.out bb)
  have hg1 : w.heap.size < w1.heap.size := Nat.lt_of_lt_of_le hg0 bb.size
  clear c0 c1 c2 c3 c4 bb hg0
  have c0 := HB.out.box.c0; have c1 := HB.out.box.c1; have c2 := HB.out.box.c2; have c3 := HB.out.box.c3; have c4 := HB.out.c4
  go_wp2_with fail
  refine (HGR.out _).mono ?_; rintro e w2 ⟨rfl, bb⟩
  replace HB := Lib.hid (HB.out.below bb)
  replace HL := Lib.hid (below_size HL.out bb)
  have hg2 : w.heap.size < w2.heap.size := Nat.lt_of_lt_of_le hg1 bb.size
  clear c0 c1 c2 c3 c4 bb hg1
  obtain ⟨N, hN⟩ : ∃ N, tN W H = N := ⟨_, rfl⟩
  rw [hN] at q1 a4 a5 HA3 HTF ⊢
  have HN := Lib.hid hN
  clear hN
  go_wp2_with fail
  go_loopw [6, 7] (fun vo vi wr => ∃ (i : Nat) (a : Option Addr) (ca g : Nat) (vs : List Value), i ≤ N ∧ vo = .slice a i ca ∧ vi = .int .i64 i ∧ wr.ownsRow w.heap.size 26 5 (.slice a i ca) i vs ∧ (∀ r, (Value.slice a i ca).ownBlock = some r → r = g ∧ w.heap.size < r) ∧ HasT wr w.heap.size g vs (tils W H C D xs i) ∧ Below w.heap.size w wr ∧ RBox wr w.heap.size W H C D (some ⟨b, off, Option.none⟩) n cap) (fun _ vi _ => N - (intOf vi).toNat)
  case atStart => exact ⟨0, Option.none, 0, 0, [], Nat.zero_le _, rfl, rfl, World.ownsRow_nil _ _ _ _, (fun r e => nomatch e), HasT.nil _ _ _ _, HL.out, HB.out⟩
  case round =>
    obtain ⟨i, a, ca, g, vs, hi, rfl, rfl, ho, hag0, ht, hl, hb⟩ := hrel
    have hag : ∀ r, (Value.slice a i ca).ownBlock = some r → r = g := fun r e => (hag0 r e).1
    have hg0own : ∀ r, (Value.slice a i ca).ownBlock = some r → r = w.heap.size → False := fun r e e2 => by have := (hag0 r e).2; omega
    clear HB HL
    have HO := Lib.hid ho; have HT := Lib.hid ht; have HL := Lib.hid hl; have HB := Lib.hid hb; have HAG := Lib.hid hag
    have hg0 := hb.lt
    clear ho ht hl hb hag
    by_cases hlt : i < N
    · have T := Lib.hid (HTF.out i hlt)
      have CSH0 := Lib.hid (fun w' => rshape_ok W H C D i w' (mayR_iff' HM.out) (by rw [HN.out]; exact hlt))
      have hth := T.out.hH
      have h8 := T.out.h8; have h1 := T.out.h1
      obtain ⟨h, hh⟩ : ∃ h, tH W H i = h := ⟨_, rfl⟩
      have HHH := Lib.hid hh
      rw [hh] at hth h8 h1
      obtain ⟨tw, htw⟩ : ∃ tw, tileW W i = tw := ⟨_, rfl⟩
      have HTW := Lib.hid htw
      have csh := CSH0.out
      rw [← hth, htw] at csh
      have CSH := Lib.hid csh
      have HTH := Lib.hid hth
      clear hh hth htw csh CSH0
      have c0 := HB.out.box.c0; have c1 := HB.out.box.c1; have c2 := HB.out.box.c2; have c3 := HB.out.box.c3; have c4 := HB.out.c4
      go_wp2_with fail
      refine (CSH.out _).mono ?_; rintro e w4 ⟨rfl, bb⟩
      replace HB := Lib.hid (HB.out.below bb)
      replace HL := Lib.hid (below_size HL.out bb)
      have ho4 := owns_keep HO.out (fun r hr => bb.block r (HO.out.lt r hr).2)
      have ht4 := HT.out.keep (fun r hr _ => bb.block r hr) (fun k _ => rfl)
      have hs4 := bb.size
      replace HO := Lib.hid ho4; replace HT := Lib.hid ht4
      clear c0 c1 c2 c3 c4 bb ho4 ht4
      have hs5 := box_alloc w4 tw h C D 23
      have d0 := hs5.c0; have d1 := hs5.c1; have d2 := hs5.c2; have d3 := hs5.c3
      go_wp2_with fail
      have hbs := hs5.below ((Below.refl _ _).alloc (Nat.le_refl _) (.cells #[.int .i64 tw, .int .i64 h, .int .i64 C, .int .i64 D, .slice Option.none 0 0] 26))
      have hbt := rbox_alloc (w4.alloc (.cells #[.int .i64 tw, .int .i64 h, .int .i64 C, .int .i64 D] 23)) tw h C D Option.none 0 0 26
      rw [World.size_alloc] at hbt
      have hw45 : Below w4.heap.size w4 ((w4.alloc (.cells #[.int .i64 tw, .int .i64 h, .int .i64 C, .int .i64 D] 23)).alloc (.cells #[.int .i64 tw, .int .i64 h, .int .i64 C, .int .i64 D, .slice Option.none 0 0] 26)) := ((Below.refl _ _).alloc (Nat.le_refl _) _).alloc (by simp) _
      have hgb := HB.out.lt
      have hb5 := HB.out.below hw45
      have hl5 := below_size HL.out hw45
      have ho5 := owns_keep HO.out (fun r hr => hw45.block r (HO.out.lt r hr).2)
      have ht5 := HT.out.keep (fun r hr _ => hw45.block r hr) (fun k _ => rfl)
      have hgt5 : w4.heap.size + 1 < ((w4.alloc (.cells #[.int .i64 tw, .int .i64 h, .int .i64 C, .int .i64 D] 23)).alloc (.cells #[.int .i64 tw, .int .i64 h, .int .i64 C, .int .i64 D, .slice Option.none 0 0] 26)).heap.size := by simp
      have hog : ∀ r, (Value.slice a i ca).ownBlock = some r → r < w4.heap.size := fun r hr => (HO.out.lt r hr).2
      have HTlt := Lib.hid (fun (wz : World) (hz : ∀ r, r < w4.heap.size → wz.heap[r]? = w4.heap[r]?) => HT.out.keep (w' := wz) (fun r hr _ => hz r hr) (fun k _ => rfl))
      have HOlt := Lib.hid (fun (wz : World) (hz : ∀ r, r < w4.heap.size → wz.heap[r]? = w4.heap[r]?) => owns_keep HO.out (w' := wz) (fun r hr => hz r (HO.out.lt r hr).2))
      have hblk45 : ∀ r, r < w4.heap.size → ((w4.alloc (.cells #[.int .i64 tw, .int .i64 h, .int .i64 C, .int .i64 D] 23)).alloc (.cells #[.int .i64 tw, .int .i64 h, .int .i64 C, .int .i64 D, .slice Option.none 0 0] 26)).heap[r]? = w4.heap[r]? := fun r hr => hw45.block r hr
      have HB5 := Lib.hid hb5; have HL5 := Lib.hid hl5; have HS5 := Lib.hid hbs; have HT5 := Lib.hid hbt; have HK := Lib.hid hblk45
      clear d0 d1 d2 d3 hs5 hbs hbt hw45 hb5 hl5 ho5 ht5 HB HL HO HT hblk45
      generalize (w4.alloc (.cells #[.int .i64 tw, .int .i64 h, .int .i64 C, .int .i64 D] 23)).alloc (.cells #[.int .i64 tw, .int .i64 h, .int .i64 C, .int .i64 D, .slice Option.none 0 0] 26) = w5 at *
      generalize w4.heap.size = gs at *
      go_loopw [11] (fun vy wz => ∃ (y : Nat) (p : Option Addr) (k : Nat), y ≤ h ∧ vy = .int .i64 y ∧ RBox wz (gs + 1) tw h C D p (y * tRt W H C D i) k ∧ wz.ownsRow (gs + 2) 5 1 (.slice p (y * tRt W H C D i) k) (y * tRt W H C D i) ((rowsB xs (tR W H C D) (tB0 W C D i) (tRt W H C D i) (i / tA W) y).map (Value.int .u8)) ∧ Below (gs + 1) w5 wz) (fun vy _ => h - (intOf vy).toNat)
      case atStart => exact ⟨0, Option.none, 0, Nat.zero_le _, rfl, by rw [Nat.zero_mul]; exact HT5.out, by rw [Nat.zero_mul]; exact World.ownsRow_nil _ _ _ _, Below.refl _ _⟩
      case round =>
        obtain ⟨y, p, k, hy, rfl, hbt, hp, hz⟩ := hrel
        have HP := Lib.hid hp; have HZ := Lib.hid hz; have HBT := Lib.hid hbt
        have hgz := hbt.lt
        clear hp hbt HT5
        have HBz := Lib.hid (rbox_block HB5.out hz.size (hz.block w.heap.size (by omega)))
        have HSz := Lib.hid (box_block HS5.out hz.size (hz.block gs (by omega)))
        by_cases hlt2 : y < h
        · have hfit := T.out.fit y (by rw [HHH.out]; exact hlt2)
          have hrl := rowsB_len (xs := xs) (R := tR W H C D) (B0 := tB0 W C D i) (Rt := tRt W H C D i) (qy := i / tA W) y (fun z hz => by rw [HR.out.len]; exact T.out.fit z (by rw [HHH.out]; omega))
          have hr1 := T.out.r1
          have hmle := T.out.le
          have crow := fun w' => rrow_any W H C D w'
          rw [← T.out.hR] at crow
          have crt := fun w' => rrow_any tw h C D w'
          have hRt2 : rowN tw h C D = ((tRt W H C D i : Nat) : Int) := by rw [T.out.hRt, HTW.out, HTH.out]
          rw [hRt2] at crt
          have CROW := Lib.hid crow; have CRT := Lib.hid crt
          have hB := T.out.hB
          have hC := hbn.2.2.2.2.1; have hC4 := hbn.2.2.2.2.2.1; have hD := hbn.2.2.2.2.2.2
          have hA1 : 1 ≤ tA W ∧ tA W ≤ 32 := by have := HA1.out; have := hbn.1; have := hbn.2.1; omega
          have m1 : i % tA W < tA W := Nat.mod_lt _ hA1.1
          have d1 : i / tA W ≤ i := Nat.div_le_self _ _
          have HNXT := Lib.hid (show rowsB xs (tR W H C D) (tB0 W C D i) (tRt W H C D i) (i / tA W) (y + 1) = rowsB xs (tR W H C D) (tB0 W C D i) (tRt W H C D i) (i / tA W) y ++ segB xs (tR W H C D) (tB0 W C D i) (tRt W H C D i) (i / tA W) y from rfl)
          have HMUL := Lib.hid (show (y + 1) * tRt W H C D i = y * tRt W H C D i + tRt W H C D i by rw [Nat.add_mul, Nat.one_mul])
          obtain ⟨P, hP⟩ : ∃ P, (i / tA W * 8 + y) * tR W H C D = P := ⟨_, rfl⟩
          have hseg : segB xs (tR W H C D) (tB0 W C D i) (tRt W H C D i) (i / tA W) y = (xs.drop (P + tB0 W C D i)).take (tRt W H C D i) := by unfold segB; rw [hP]
          have hPz : (((i / tA W : Nat) : Int) * 8 + y) * ((tR W H C D : Nat) : Int) = P := by rw [← hP]; simp
          have hkle : y * tRt W H C D i ≤ 16384 := Nat.le_trans (Nat.mul_le_mul_right _ (show y ≤ tH W H i by rw [HHH.out]; omega)) hmle
          rw [hP] at hfit
          have HRD := Lib.hid (fun (wz : World) (hz : Below w.heap.size w wz) => reads_seg (HR.out.below hz) P (tB0 W C D i) (tRt W H C D i) hfit hr1)
          rw [← hseg] at HRD
          have hn16 : n ≤ 16384 := by have := (mayR_spec HM.out).2; omega
          have tm : Int.tmod (i : Int) (tA W : Int) = ((i % tA W : Nat) : Int) := by rw [Int.tmod_eq_emod_of_nonneg (by omega)]; simp
          have td : Int.tdiv (i : Int) (tA W : Int) = ((i / tA W : Nat) : Int) := by rw [Int.tdiv_eq_ediv_of_nonneg (by omega)]; simp
          have em : (i : Int) % (tA W : Int) = ((i % tA W : Nat) : Int) := by simp
          have ed : (i : Int) / (tA W : Int) = ((i / tA W : Nat) : Int) := by simp
          have hA0 : ¬ (tA W : Int) = 0 := by omega
          have hA9 : ¬ tA W = 0 := by omega
          generalize tRt W H C D i = Rt at *
          generalize tB0 W C D i = B0 at *
          generalize rowsB xs (tR W H C D) B0 Rt (i / tA W) y = L at *
          generalize segB xs (tR W H C D) B0 Rt (i / tA W) y = seg at *
          obtain ⟨X2, hX2⟩ : ∃ X2 : Int, ((i % tA W : Nat) : Int) * 8 * C = X2 := ⟨_, rfl⟩
          obtain ⟨X3, hX3⟩ : ∃ X3 : Int, X2 * D = X3 := ⟨_, rfl⟩
          have x2 : 0 ≤ X2 ∧ X2 ≤ 1024 := by rcases (by omega : C = 1 ∨ C = 2 ∨ C = 3 ∨ C = 4) with rfl | rfl | rfl | rfl <;> omega
          have x3 : 0 ≤ X3 ∧ X3 ≤ 16384 := by rcases hD with rfl | rfl <;> omega
          have k1 : IntKind.i64.wrap (((i % tA W : Nat) : Int) * 8 * C) = X2 := by rw [hX2, Go.IntWalk.i64_in _ (by omega)]
          have k2 : IntKind.i64.wrap (X2 * D) = X3 := by rw [hX3, Go.IntWalk.i64_in _ (by omega)]
          have k3 : X3 / 8 = B0 := by rw [hB, ← hX3, ← hX2]
          have k4 : Int.tdiv X3 8 = B0 := by rw [Int.tdiv_eq_ediv_of_nonneg x3.1]; exact k3
          generalize i % tA W = qx at *
          generalize i / tA W = qy at *
          generalize tR W H C D = R at *
          generalize tA W = A at *
          have p1 : IntKind.i64.wrap (qy : Int) = qy := Go.IntWalk.i64_in _ (by omega)
          have p2 : IntKind.i64.wrap ((qy : Int) * 8) = (qy : Int) * 8 := Go.IntWalk.i64_in _ (by omega)
          have p3 : IntKind.i64.wrap ((qy : Int) * 8 + y) = (qy : Int) * 8 + y := Go.IntWalk.i64_in _ (by omega)
          have p4 : IntKind.i64.wrap (((qy : Int) * 8 + y) * (R : Int)) = P := by rw [hPz, Go.IntWalk.i64_in _ (by omega)]
          have p5 : IntKind.i64.wrap ((qx : Int) * 8) = (qx : Int) * 8 := Go.IntWalk.i64_in _ (by omega)
          have p6 : IntKind.i64.wrap (B0 : Int) = B0 := Go.IntWalk.i64_in _ (by omega)
          have p7 : IntKind.i64.wrap ((P : Int) + B0) = ((P + B0 : Nat) : Int) := by rw [Go.IntWalk.i64_in _ (by omega)]; omega
          have d0 := HSz.out.c0; have d1 := HSz.out.c1; have d2 := HSz.out.c2; have d3 := HSz.out.c3
          have c0 := fun x : GrownW wr => x.cell HBz.out.lt HBz.out.box.c0
          have c1 := fun x : GrownW wr => x.cell HBz.out.lt HBz.out.box.c1
          have c2 := fun x : GrownW wr => x.cell HBz.out.lt HBz.out.box.c2
          have c3 := fun x : GrownW wr => x.cell HBz.out.lt HBz.out.box.c3
          have c4 := fun x : GrownW wr => x.cell HBz.out.lt HBz.out.c4
          clear hX2 hX3 hB hPz hseg hP
          go_wp2_with fail
          clear d0 d1 d2 d3
          refine wp_region_grow_lit (by kernel_rfl) (by kernel_rfl) ?_
          repeat (go_big_quiet_step (first
            | (go_at_call 31; exact grow_call (CROW.out _))))
          refine wpQuiet_nil ?_
          intro wg hw'
          obtain ⟨⟨wz, hbg⟩, hw''⟩ := hw'
          subst hw''
          clear c0 c1 c2 c3 c4
          go_wp2_with fail
          have HBg := Lib.hid (HBz.out.below hbg)
          have HSg := Lib.hid (HSz.out.below hbg)
          have HTg := Lib.hid (HBT.out.below hbg)
          have hpg := owns_keep HP.out (fun r hr => hbg.block r (HP.out.lt r hr).2)
          have hzg : Below (gs + 1) w5 wg := HZ.out.trans (hbg.mono (by omega))
          have hsg := hbg.size
          have HPg := Lib.hid hpg; have HZg := Lib.hid hzg
          have HRD2 := Lib.hid (fun (wz : World) (hz : Below w.heap.size w wz) => by have := HRD.out wz hz; rw [Nat.add_assoc, Nat.sub_sub] at this; exact this)
          have HLg := Lib.hid (show ∀ wz, Below (gs + 1) w5 wz → Below w.heap.size w wz from fun wz hz => HL5.out.trans (hz.mono (by omega)))
          clear hpg hzg tm td em ed p1 p2 p3 p4 p5 p6 p7 k1 k2 k3 k4 HRD HBz HSz
          have e4 : wg.drew.cell? ⟨gs + 1, 4, Option.none⟩ = some (.slice p (y * Rt) k) := HTg.out.c4
          have j1 : (0 : Int) ≤ (P : Int) + B0 := by omega
          have j2 : (P : Int) + B0 ≤ (P : Int) + B0 + Rt := by omega
          have j3 : (P : Int) + B0 + Rt ≤ cap := by omega
          have j4 : ((P : Int) + B0).toNat = P + B0 := by omega
          have j5 : ((P : Int) + B0 + Rt).toNat = P + B0 + Rt := by omega
          have j6 : ¬ cap = P + B0 := by omega
          have j7 : IntKind.i64.wrap ((P : Int) + B0 + Rt) = (P : Int) + B0 + Rt := Go.IntWalk.i64_in _ (by omega)
          have j8 : P + B0 + Rt - (P + B0) = Rt := by omega
          have l0 := HBg.out.lt; have l1 := HSg.out.lt; have l2 := HTg.out.lt
          obtain ⟨wh, rfl⟩ : ∃ wh : World, wh = wg := ⟨_, rfl⟩
          have c4 := fun x : GrownW wh => x.cell HBg.out.lt HBg.out.c4
          have u4 := fun x : GrownW wh => x.cell HTg.out.lt HTg.out.c4
          have d0 := fun x : GrownW wh => x.cell HSg.out.lt HSg.out.c0; have d1 := fun x : GrownW wh => x.cell HSg.out.lt HSg.out.c1; have d2 := fun x : GrownW wh => x.cell HSg.out.lt HSg.out.c2; have d3 := fun x : GrownW wh => x.cell HSg.out.lt HSg.out.c3
          clear e4
          refine wp_region_any (by kernel_rfl) ?_
          change wpAny _ _ _ _ _ _ _ (World.drew _)
          refine wpAny_grow_tail [0, 1, 2, 3, 4, 5, 6, 7, 8, 9] [10, 11, 12] (by kernel_rfl) ?_
          simp only [pickOps, List.getElem?_toArray, List.getElem?_cons_zero, List.getElem?_cons_succ, Option.toList_some, List.cons_append, List.nil_append]
          repeat (go_big_quiet_step (first
            | (go_at_call 31; exact grow_call (CRT.out _))))
          refine wpQuiet_nil ?_
          intro wg hw'
          obtain ⟨⟨wz, hbg⟩, hw''⟩ := hw'
          subst hw''
          clear c4 u4 d0 d1 d2 d3
          have bb1 := hbg
          have hz1 : Below (gs + 1) w5 wg := HZg.out.trans (bb1.mono (Nat.le_of_lt l2))
          refine wpList_append_reads _ rfl _ _ 24 rfl (gs + 2) 5 i1 (.int .u8 0) 1 Try.underlying24 Ji.out Jz0.out Jz1.out Jz2.out rfl .u8 p (y * Rt) k L rfl (owns_keep HPg.out (fun r hr => bb1.block r (HPg.out.lt r hr).2)) _ Rt _ seg rfl (HRD2.out wg (HLg.out wg hz1)) (by unfold maxLen; omega) (by omega) (Nat.le_trans l2 bb1.size) ?_
          intro p2 k2 x2 r2 g2 _
          have ht2 := rbox_block HTg.out (Nat.le_trans bb1.size g2.size) ((g2.block (gs + 1) (Nat.lt_of_lt_of_le l2 bb1.size) (fun e => by have := (HPg.out.lt _ e.symm).1; omega)).trans (bb1.block _ l2))
          have hz2 : Below (gs + 1) w5 x2 := hz1.grown g2 (Nat.le_trans (Nat.le_of_lt l2) bb1.size) (fun r hr => by have := (HPg.out.lt _ hr).1; omega)
          have ht3 := ht2.setPix p2 (y * Rt + Rt) k2
          have hp3 : (x2.setCell ⟨gs + 1, 4, Option.none⟩ (.slice p2 (y * Rt + Rt) k2)).ownsRow (gs + 2) 5 1 (.slice p2 (y * Rt + Rt) k2) (y * Rt + Rt) ((L ++ seg).map (Value.int .u8)) := owns_keep r2 (fun r hr => Below.heap_setCell _ _ _ r (by have := (r2.lt r hr).1; show r ≠ gs + 1; omega))
          have hz3 := hz2.setCell (p := ⟨gs + 1, 4, Option.none⟩) (Nat.le_refl _) (.slice p2 (y * Rt + Rt) k2)
          have HT3 := Lib.hid ht3; have HP3 := Lib.hid hp3; have HZ3 := Lib.hid hz3
          have s4 := ht2.c4; have t4 := ht2.f4
          clear ht3 hp3 hz3 r2 g2 bb1 hbg hz1 hz2 ht2
          go_wp2_with fail
          clear s4 t4
          go_roundw
          case rel => exact ⟨y + 1, p2, k2, by omega, by go_num, by rw [HMUL.out]; exact HT3.out, by rw [HMUL.out, HNXT.out]; exact HP3.out, HZ3.out⟩
          case measure => simp [intOf]; omega
        · obtain rfl : y = h := by omega
          have htil : tilP W H C D xs i = rowsB xs (tR W H C D) (tB0 W C D i) (tRt W H C D i) (i / tA W) y := by unfold tilP; rw [HHH.out]
          have hpp := HP.out
          rw [← htil] at hpp
          have hlenP : (tilP W H C D xs i).length = y * tRt W H C D i := by have := hpp.1; simpa using this
          have hrp : 1 ≤ y * tRt W H C D i := Nat.mul_pos h1 T.out.r1
          obtain ⟨q, rfl, hqg⟩ := owns_addr hpp hrp
          obtain ⟨M, hM⟩ : ∃ M, y * tRt W H C D i = M := ⟨_, rfl⟩
          rw [hM] at hpp hlenP HBT hrp
          have hMl := T.out.le
          rw [HHH.out, hM] at hMl
          have hold : ∀ r, r < gs → wr.heap[r]? = w4.heap[r]? := fun r hr => (HZ.out.block r (by omega)).trans (HK.out r hr)
          have hO := HOlt.out wr hold
          have hT := HTlt.out wr hold
          have hLw : Below w.heap.size w wr := HL5.out.trans (HZ.out.mono (by omega))
          have hBw := HBz.out
          have hqlt := (hpp.lt q rfl).2
          have HO := Lib.hid hO; have HT := Lib.hid hT; have HLW := Lib.hid hLw; have HBW := Lib.hid hBw; have HPP := Lib.hid hpp
          have d1 := HSz.out.c1
          have z0 := HBT.out.box.c0; have z1 := HBT.out.box.c1; have z2 := HBT.out.box.c2; have z3 := HBT.out.box.c3; have z4 := HBT.out.c4
          have hsz := hLw.size
          clear hpp hO hT hLw hBw HP HZ HB5 HL5 hold HTlt HOlt
          go_wp2_with (at_builtin; refine wpList_append_any _ rfl _ _ 32 rfl w.heap.size 26 i0 _ 5 56 Try.underlying32 Hi.out Hz0.out Hz1.out Hz2.out rfl (by decide) a i ca vs rfl (World.ownsRow.alloc HO.out _) _ 1 1 _ rfl rfl (cells_alloc5 _ _ _ _ _ _ _ _) (by simp [Value.oneCell']) (by decide) (by unfold maxLen; omega) (by omega) (by simp; omega) ?_; intro a2 c2 w6 r6 g6 f6)
          have hvl : vs.length = i * 5 := HO.out.1
          have hal : (wr.alloc (.cells #[.int .i64 tw, .int .i64 y, .int .i64 C, .int .i64 D, .slice (some ⟨q, 0, Option.none⟩) M k] 26)).heap.size = wr.heap.size + 1 := by simp
          have hblk : ∀ r, r < wr.heap.size → (Value.slice a i ca).ownBlock ≠ some r → w6.heap[r]? = wr.heap[r]? := fun r hr hne => (g6.block r (by rw [hal]; omega) (fun e => hne e.symm)).trans (Below.heap_alloc _ _ _ hr)
          have ha2 : ∃ g', a2 = some ⟨g', 0, Option.none⟩ := by
            rcases r6.2 with ⟨e, _⟩ | ⟨q', c', cur, e, _⟩
            · simp at e
            · simp at e; exact ⟨q', e.1⟩
          obtain ⟨g', rfl⟩ := ha2
          have hgg : (Value.slice a i ca).ownBlock = some g' ∨ wr.heap.size ≤ g' := by
            rcases f6 g' rfl with e | e
            · exact .inl e
            · exact .inr (by rw [hal] at e; omega)
          have hgg2 : g' = g ∨ wr.heap.size ≤ g' := hgg.imp (fun e => HAG.out g' e) id
          have hqg' : q ≠ g' := by
            rcases hgg with e | e
            · have := hog g' e; omega
            · omega
          have hT1 := HT.out.keep2 (w' := w6) (g' := g') (vs' := vs ++ [.int .i64 tw, .int .i64 y, .int .i64 C, .int .i64 D, .slice (some ⟨q, 0, Option.none⟩) M k]) (fun r hr hne => hblk r hr (fun e => hne (HAG.out r e))) (fun j hj => List.getElem?_append_left (by rw [tils_len] at hj; omega)) hgg2
          have ho6 : w6.ownsRow w.heap.size 5 1 (.slice (some ⟨q, 0, Option.none⟩) M k) M ((tilP W H C D xs i).map (Value.int .u8)) := owns_keep (owns_base HPP.out (by omega)) (fun r hr => hblk r (HPP.out.lt r hr).2 (fun e => by have := hog r e; have := (HPP.out.lt r hr).1; omega))
          have hT2 := hT1.push ((tileW W i, tileH W H i, C, D), tilP W H C D xs i) q k (by rw [tils_len, HTW.out, List.getElem?_append_right (by omega)]; simp [hvl]) (by rw [tils_len, ← HTH.out, List.getElem?_append_right (by omega)]; simp [hvl]) (by rw [tils_len, List.getElem?_append_right (by omega)]; simp [hvl]) (by rw [tils_len, List.getElem?_append_right (by omega)]; simp [hvl]) (by rw [tils_len, hlenP, List.getElem?_append_right (by omega)]; simp [hvl]) hqg' (by rw [hlenP]; exact ho6)
          rw [← tils_succ] at hT2
          have B6 : Below w.heap.size w w6 := (HLW.out.alloc hsz (.cells #[.int .i64 tw, .int .i64 y, .int .i64 C, .int .i64 D, .slice (some ⟨q, 0, Option.none⟩) M k] 26)).grown g6 (by rw [hal]; omega) (fun r hr => (HO.out.lt r hr).1)
          have hbx6 := rbox_block HBW.out (by have := g6.size; rw [hal] at this; omega : wr.heap.size ≤ w6.heap.size) (hblk w.heap.size HBW.out.lt (fun e => hg0own _ e rfl))
          have hown : ∀ (K : Nat) (r : Nat), (Value.slice (some ⟨g', 0, Option.none⟩) K c2).ownBlock = some r → r = g' ∧ w.heap.size < r := by
            intro K r e
            have e' : g' = r := by simpa [Value.ownBlock] using e
            refine ⟨e'.symm, ?_⟩
            rcases hgg with e3 | e3
            · have := (hag0 g' e3).2; omega
            · have := HBW.out.lt; omega
          have HOWN := Lib.hid (hown (i + 1))
          clear hown
          have HT2 := Lib.hid hT2; have HB6 := Lib.hid B6; have HR6 := Lib.hid r6; have HX6 := Lib.hid hbx6
          clear hT1 hT2 B6 r6 g6 f6 hbx6 ho6 hblk z0 z1 z2 z3 z4 d1
          go_wp2_with fail
          go_roundw
          case rel => exact ⟨i + 1, some ⟨g', 0, Option.none⟩, c2, g', _, by omega, rfl, by go_num, HR6.out, HOWN.out, HT2.out, HB6.out, HX6.out⟩
          case measure => simp [intOf]; omega
    · obtain rfl : i = N := by omega
      have haN : ∃ q, a = some ⟨q, 0, Option.none⟩ := by
        rcases HO.out.2 with ⟨e, _⟩ | ⟨q, c, cur, e, _⟩
        · simp at e; omega
        · simp at e; exact ⟨q, e.1⟩
      obtain ⟨q, rfl⟩ := haN
      have hqg : q = g := HAG.out q rfl
      subst hqg
      go_wp2_with fail
      go_ret2
      rw [HN.out]
      exact ⟨q, ca, vs, rfl, HO.out, HT.out, HL.out⟩
end Go.Proofs.Ytdmaoaclhaofbaa
