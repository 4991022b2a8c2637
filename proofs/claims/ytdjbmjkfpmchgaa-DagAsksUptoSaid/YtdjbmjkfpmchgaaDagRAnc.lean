/-
  The reference's Ancestors.
-/
import Derived.Test.YtdjbmjkfpmchgaaDagRAncP
import Derived.Deep.CutRange
import Derived.Deep.RegionHeld3
namespace Go.Proofs.Ytdjbmjkfpmchgaa
open Go.RowKit Go.Maps

set_option maxRecDepth 100000 in
set_option maxHeartbeats 4000000 in
theorem ranc_any (h n cap : Nat) (a : Option Addr) (ns : List Nd) (k : ByteArray) (w : World) (hg : RG w h a n cap ns) (G : Good ns) (hP : ∀ x, (psOf ns x).length ≤ 1048576) :
    Calls Try.prog 18 #[gp h, .string k] w fun e w' => ∃ l, IsAnc ns k l ∧ RetT w l e w' := by
  obtain ⟨i0, hi, hz0, hz1, hz2⟩ := info_parts infoStr
  have Hi := Lib.hid hi; have Hz0 := Lib.hid hz0; have Hz1 := Lib.hid hz1; have Hz2 := Lib.hid hz2
  have GR := Lib.hid hg; have GD := Lib.hid G; have HP := Lib.hid hP
  clear hi hz0 hz1 hz2 hg G hP
  go_enter Try.func18, Try.ntmps18
  go_wp2_with fail
  refine (ghas_any h n cap a ns k _ GR.out).mono ?_; rintro e w1 ⟨rfl, rfl⟩
  by_cases hin : k ∈ keysOf ns
  · rw [decide_eq_true hin]
    have HIN := Lib.hid hin
    clear hin
    go_wp2_with fail
    obtain ⟨g0, ht0, e0⟩ := own_tail (a := some ⟨w1.heap.size, 0, Option.none⟩) (ts := [k]) (by simp) (own_one w1 w1.heap.size (Nat.le_refl _) k)
    have M1 : Hid (MT w1 (w1.alloc (.cells #[.string k] 9)) (.slice Option.none 0 0) (.slice (some ⟨w1.heap.size, 0, Option.none⟩) 1 1) [] [k] (some g0)) := Lib.hid ⟨(Below.refl w1.heap.size w1).alloc (Nat.le_refl _) _, World.ownsRow_nil _ _ _ _, ht0, fun g _ h => nomatch h⟩
    clear ht0 e0
    generalize w1.alloc (.cells #[.string k] 9) = w2 at *
    generalize w1.heap.size = g1 at *
    go_loopw [5, 6] (fun vt vm wr => ∃ (met todo : List ByteArray) (am at_ : Option Addr) (cm ct : Nat) (q : Option Nat), vt = .slice at_ todo.length ct ∧ vm = .slice am met.length cm ∧ Hid (MT w1 wr vm vt met todo q) ∧ Hid (RInv ns k met todo 1048576)) (fun vt vm _ => (501 - lenV vm) * 1048578 + lenV vt)
    case atStart => exact ⟨[], [k], Option.none, some ⟨g1, 0, Option.none⟩, 0, 1, some g0, rfl, rfl, M1, Lib.hid RInv.first⟩
    case round =>
      obtain ⟨met, todo, am, at_, cm, ct, q, rfl, rfl, MM, II⟩ := hrel
      clear M1
      generalize wr = w3 at *
      have hle := II.out.le GD.out HIN.out
      have hln := II.out.len
      cases todo with
      | nil =>
        have RM := Lib.hid (readsA_of_owns (f := Value.string) ByteArray.empty MM.out.own)
        go_wp2_with fail
        refine (unique_any _ _ _ met _ RM.out (by omega)).mono ?_; rintro e w4 ⟨u, hu, hum, a4, c4, rfl, o4, b4⟩
        have IA := Lib.hid (II.out.anc HIN.out hu hum)
        have BW := Lib.hid (below_size MM.out.below b4)
        have O4 := Lib.hid (owns_base o4 MM.out.below.size)
        clear hu hum o4 b4
        go_wp2_with fail
        go_ret
        exact ⟨u, IA.out, a4, c4, rfl, O4.out, BW.out⟩
      | cons x rest =>
        rw [List.length_cons] at hln
        have i1 : (0 : Int) < (x :: rest).length := by simp
        obtain ⟨b, o, c', hv⟩ := MM.out.tail.val
        rcases hv with ⟨e, hs⟩ | ⟨e, _⟩
        · injection e with e1 e2 e3
          subst e1; subst e3
          obtain ⟨b', o', e', hb', hc0⟩ := hs.cellAt 0 (by simp)
          injection e' with e'; injection e' with e4 e5 _
          subst e4; subst e5
          have hx0 : (x :: rest).getD 0 ByteArray.empty = x := rfl
          rw [hx0, Nat.add_zero] at hc0
          obtain ⟨hq0, q', ht', hq'⟩ := MM.out.tail.rest
          have M2 : Hid (MT w1 w3 (.slice am met.length cm) (.slice (cutA (some ⟨b, o, Option.none⟩) 1 ct) rest.length (ct - 1)) met rest q') := Lib.hid ⟨MM.out.below, MM.out.own, ht', fun g hg => MM.out.apart g (hq' g hg)⟩
          have RM := Lib.hid (readsA_of_owns (f := Value.string) ByteArray.empty MM.out.own)
          have hn63 := hs.n63
          have hlx : (x :: rest).length = rest.length + 1 := by simp
          have hcu : cutA (some (⟨b, o, Option.none⟩ : Addr)) 1 ct = if ct = 1 then some ⟨b, o, Option.none⟩ else some ⟨b, o + 1, Option.none⟩ := by
            unfold cutA; by_cases h : ct = 1
            · rw [if_pos h, if_pos h]
            · rw [if_neg h, if_neg h]; simp [Addr.add]
          have HLX := Lib.hid hlx; have HCU := Lib.hid hcu
          clear hs hb' ht' hq' hx0 hlx hcu hq0
          generalize hL : (x :: rest).length = L at *
          have HL := Lib.hid hL
          have i1n : 0 < L := by omega
          clear hL
          go_upto_region 7 with (fail)
          go_cut [5] from 20 to 21 (fun v wx => v = .slice (cutA (some (⟨b, o, Option.none⟩ : Addr)) 1 ct) rest.length (ct - 1) ∧ wx = w3)
          case first =>
            by_cases hc1 : ct = 1
            · subst hc1
              go_wp2_with fail
              go_meet
              case rel => exact ⟨by rw [HCU.out]; simp [HLX.out], rfl⟩
            · go_wp2_with fail
              go_meet
              case rel => exact ⟨by rw [HCU.out, if_neg hc1]; simp [HLX.out], rfl⟩
          case rest =>
          obtain ⟨rfl, rfl⟩ := hcut
          generalize cutA (some (⟨b, o, Option.none⟩ : Addr)) 1 ct = ar at *
          generalize ct - 1 = cr at *
          generalize wc = w3 at *
          go_wp2_with fail
          refine (rhas_any _ _ _ met x _ RM.out).mono ?_; rintro e w4 ⟨rfl, rfl⟩
          by_cases hxm : x ∈ met
          · rw [decide_eq_true hxm]
            have I2 := Lib.hid (II.out.skip hxm)
            clear hxm
            go_wp2_with fail
            go_roundw
            case rel => exact ⟨met, rest, am, ar, cm, cr, q', rfl, rfl, M2, I2⟩
            case measure => (simp [lenV, HLX.out] <;> omega)
          · rw [decide_eq_false hxm]
            have HX := Lib.hid hxm
            clear hxm
            have hxr := II.out.t x (by simp)
            have hxk := hxr.there GD.out HIN.out
            obtain ⟨z, hz, hze, hcall⟩ := at_in2 h n cap a ns x hxk
            have I2 := Lib.hid (II.out.more HX.out (HP.out x))
            clear hxr
            have G4 := Lib.hid (GR.out.below M2.out.below)
            obtain ⟨b0, off, rfl, hb0, hcs⟩ := GR.out.nd.cells (by have := GR.out.nd.len; omega)
            obtain ⟨pa, pc, _, z1, _, zs⟩ := hcs z (by have := GR.out.nd.len; omega)
            rw [hze] at z1 zs
            have hps : (ndOf ns x).ps = psOf ns x := rfl
            rw [hps] at z1 zs
            have hpl := HP.out x
            generalize psOf ns x = ps at *
            have gc := GR.out.cell
            have hgl := GR.out.lt
            have Keep : Hid (∀ v : World, Below w1.heap.size w1 v → v.cell? ⟨h, 0, Option.none⟩ = some (.slice (some ⟨b0, off, Option.none⟩) n cap) ∧ v.cell? ⟨b0, off + z * 3 + 1, Option.none⟩ = some (.slice pa ps.length pc)) := Lib.hid (fun v hv => ⟨(hv.cell (p := ⟨h, 0, Option.none⟩) hgl).trans gc, (hv.cell (p := ⟨b0, _, Option.none⟩) hb0).trans z1⟩)
            have ZS := Lib.hid zs; have HC := Lib.hid hcall
            have z63 : (z : Int) < n := by have := GR.out.nd.len; omega
            have z0 : (0 : Int) ≤ z := by omega
            have MT0 : MT w1 w4.drew (.slice am met.length cm) (.slice ar rest.length cr) met rest q' := M2.out.drew
            have hal := ((Below.refl w4.heap.size w4).alloc (Nat.le_refl _) (.cells #[.string x] 9)).drew
            have MT1 : MT w1 (w4.alloc (.cells #[.string x] 9)).drew (.slice am met.length cm) (.slice ar rest.length cr) met rest q' := M2.out.go hal
            have hX1 : ∀ j u, [Value.string x][j]? = some u → (w4.alloc (.cells #[.string x] 9)).drew.cell? ((⟨w4.heap.size, 0, Option.none⟩ : Addr).add j) = some u := fun j u hu => by
              rw [Addr.add_lit, Nat.zero_add]; exact cell_alloc w4 #[.string x] 9 (0, 0) j u (by simpa using hu)
            have hX2 : ∀ u ∈ [Value.string x], u.oneCell' = true := fun u hu => by
              rw [List.mem_singleton] at hu; subst hu; exact str_one x
            have kp0 := Keep.out _ MT0.below
            have kp1 := Keep.out _ MT1.below
            clear hcs z1 zs hps hcall hze hz hxk gc G4
            go_wp2_with fail
            go_region_held3 (fun v => v.cell? ⟨h, 0, Option.none⟩ = some (.slice (some ⟨b0, off, Option.none⟩) n cap) ∧ v.cell? ⟨b0, off + z * 3 + 1, Option.none⟩ = some (.slice pa ps.length pc))
                (first | with_reducible exact kp0 | with_reducible exact kp1 | with_reducible exact kp6 | with_reducible exact kp7)
                (first
                | (go_at_call 29; refine (HC.out _ (GR.out.below (by first | with_reducible exact MT0.below | with_reducible exact MT1.below | with_reducible exact MT6.below | with_reducible exact MT7.below))).mono ?_; rintro e v1 ⟨rfl, rfl⟩)
                | (refine step_append_any rfl _ _ 35 rfl w1.heap.size 9 i0 (.string ByteArray.empty) 1 16 Try.underlying35 Hi.out Hz0.out Hz1.out Hz2.out rfl (by decide) am met.length cm (met.map Value.string) rfl MT1.own ⟨w4.heap.size, 0, Option.none⟩ 1 1 [.string x] rfl rfl hX1 hX2 (by decide) (by unfold maxLen; omega) (by omega) MT1.below.size ?_; intro a6 c6 w6 ho6 hg6 hn6; have MT6 := MT1.appM (x := x) (by rw [List.map_append]; exact ho6) rfl hg6 hn6; have kp6 := Keep.out _ MT6.below)
                | (refine step_append_tail rfl _ _ rfl w1.heap.size rest ar rest.length cr q' rfl MT6.tail pa ps.length pc ps rfl (ZS.out.below MT6.below) (by omega) MT6.below.size ?_; intro a7 c7 q7 w7 ot7 hg7 hq7; have MT7 := MT6.appT ot7 hg7 hq7; have kp7 := Keep.out _ MT7.below))
            have M7 := Lib.hid MT7
            clear MT0 MT1 MT6 MT7 kp0 kp1 kp6 kp7 hX1 hX2 hal ho6 hg6 hn6 ot7 hg7 hq7
            go_wp2_with fail
            go_roundw
            case rel => exact ⟨met ++ [x], rest ++ ps, a6, a7, c6, c7, q7, by rw [List.length_append], by rw [List.length_append]; rfl, M7, I2⟩
            case measure => (simp only [lenV, HLX.out] <;> omega)
        · cases e
  · rw [decide_eq_false hin]
    have HIN := Lib.hid hin
    clear hin
    go_wp2_with fail
    go_ret
    exact ⟨[], IsAnc.nil HIN.out, Option.none, 0, rfl, ⟨rfl, .inl ⟨rfl, rfl⟩⟩, Below.refl _ _⟩
end Go.Proofs.Ytdjbmjkfpmchgaa
