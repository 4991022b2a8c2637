/-
  The statements' own first function of chapter 23.
-/
import Derived.Test.YtbmbelnjgnahhaaJoinFirstJ
import Derived.Deep.RegionHeld3
namespace Go.Proofs.Ytbmbelnjgnahhaa
open Go.RowKit

theorem validB_of {k : ByteArray} (h : hexOk k ∧ k.size / 2 = 32) : validB k = true := by unfold validB; simp [h.1, h.2]
theorem i64_1 : i64In 1 := by unfold i64In; decide
theorem i64_8 : i64In 8 := by unfold i64In; decide
def kF : ByteArray := (⟨#[98, 97, 55, 56, 49, 54, 98, 102, 56, 102, 48, 49, 99, 102, 101, 97, 52, 49, 52, 49, 52, 48, 100, 101, 53, 100, 97, 101, 50, 50, 50, 51, 98, 48, 48, 51, 54, 49, 97, 51, 57, 54, 49, 55, 55, 97, 57, 99, 98, 52, 49, 48, 102, 102, 54, 49, 102, 50, 48, 48, 49, 53, 97, 100]⟩ : ByteArray)
def k1F : ByteArray := (⟨#[49]⟩ : ByteArray) ++ kF.extract 1 64
def k2F : ByteArray := (⟨#[50]⟩ : ByteArray) ++ kF.extract 1 64
instance (s : ByteArray) : Decidable (hexOk s) := by unfold hexOk okAt; infer_instance
theorem kF_ok : hexOk kF ∧ kF.size / 2 = 32 := by decide +kernel
theorem k1F_ok : hexOk k1F ∧ k1F.size / 2 = 32 := by decide +kernel
theorem k2F_ok : hexOk k2F ∧ k2F.size / 2 = 32 := by decide +kernel
theorem may_one {k : ByteArray} (h : hexOk k ∧ k.size / 2 = 32) (p : Nat) : TV.may ⟨1, 1, 1, 8, some ⟨p, 0, Option.none⟩, 1, 1, [k]⟩ = true := by
  have hn : mayN 1 1 1 8 = true := by decide
  simp [TV.may, mayT, hn, keysB, validB_of h]
theorem strs_of_heap {w : World} {g : Nat} {k : ByteArray} {T : TypeId} (h : w.heap[g]? = some (.cells #[.string k] T)) : Strs w (some ⟨g, 0, Option.none⟩) 1 1 [k] := by
  refine ⟨rfl, Nat.le_refl _, by decide, (fun h => nomatch h), fun _ => ⟨g, 0, rfl, (Array.getElem?_eq_some_iff.1 h).1, fun i hi => ?_⟩⟩
  obtain rfl : i = 0 := by omega
  unfold World.cell?
  simp only
  rw [h]
  rfl
theorem tok_one {w : World} {g : Nat} {k : ByteArray} (h : Strs w (some ⟨g, 0, Option.none⟩) 1 1 [k]) (hk : k.size ≤ 100) : TOk w ⟨1, 1, 1, 8, some ⟨g, 0, Option.none⟩, 1, 1, [k]⟩ :=
  ⟨i64_1, i64_1, i64_1, i64_8, h, ⟨by show 1 ≤ 300; decide, fun x hx => by
    obtain rfl : x = k := by simpa using hx
    exact hk⟩⟩
theorem first_ks : mergeKs [kF] [k1F] [k2F] 1 = [k1F] := by decide +kernel
theorem first_ms : mergeMs [kF] [k1F] [k2F] 1 = [true] := by decide +kernel
theorem first_merge (po pa pb : Nat) (w : World) (ho : Strs w (some ⟨po, 0, Option.none⟩) 1 1 [kF]) (ha : Strs w (some ⟨pa, 0, Option.none⟩) 1 1 [k1F]) (hb : Strs w (some ⟨pb, 0, Option.none⟩) 1 1 [k2F]) :
    Calls Try.prog 11 #[ras 1 1 1 8 (some ⟨po, 0, Option.none⟩) 1 1, ras 1 1 1 8 (some ⟨pa, 0, Option.none⟩) 1 1, ras 1 1 1 8 (some ⟨pb, 0, Option.none⟩) 1 1] w fun e w' => ∃ ga ka gm km, e = .returned (.tuple #[ras 1 1 1 8 (some ⟨ga, 0, Option.none⟩) 1 ka, .slice (some ⟨gm, 0, Option.none⟩) 1 km, .int .i64 0]) ∧ Strs w' (some ⟨ga, 0, Option.none⟩) 1 ka [k1F] ∧ Bls w' (some ⟨gm, 0, Option.none⟩) 1 km [true] ∧ Below w.heap.size w w' := by
  have := merge_ok 1 1 1 8 po 0 1 pa 0 1 pb 0 1 1 [kF] [k1F] [k2F] w (tok_one ho (by decide +kernel)) (tok_one ha (by decide +kernel)) (tok_one hb (by decide +kernel)) (by simp [may_one kF_ok, may_one k1F_ok, may_one k2F_ok]) (by decide)
  rw [first_ks, first_ms] at this
  refine this.mono ?_
  rintro e w' ⟨a, k, m, k2, rfl, o1, o2, b⟩
  obtain ⟨ga, rfl, _⟩ := owns_addr o1 (by decide)
  obtain ⟨gm, rfl, _⟩ := owns_addr o2 (by decide)
  exact ⟨ga, k, gm, k2, rfl, readsA_of_owns ByteArray.empty o1, readsA_of_owns false o2, b⟩

set_option maxRecDepth 100000 in
set_option maxHeartbeats 4000000 in
theorem first_any (w : World) :
    Calls Try.prog 7 #[] w fun e w' => e = .returned (.bool true) ∧ Below w.heap.size w w' := by
  go_enter Try.func7, Try.ntmps7
  go_wp2_with fail
  have b1 : Below w.heap.size w (w.alloc (.cells #[.int .i64 1, .int .i64 1, .int .i64 1, .int .i64 8] 23)) := (Below.refl _ _).alloc (Nat.le_refl _) _
  have hb := box_alloc w 1 1 1 8 23
  have B1 := Lib.hid b1; have HB := Lib.hid hb
  clear b1 hb
  generalize w.alloc (.cells #[.int .i64 1, .int .i64 1, .int .i64 1, .int .i64 8] 23) = w1 at *
  obtain ⟨k, hk⟩ : ∃ k : ByteArray, k = (⟨#[98, 97, 55, 56, 49, 54, 98, 102, 56, 102, 48, 49, 99, 102, 101, 97, 52, 49, 52, 49, 52, 48, 100, 101, 53, 100, 97, 101, 50, 50, 50, 51, 98, 48, 48, 51, 54, 49, 97, 51, 57, 54, 49, 55, 55, 97, 57, 99, 98, 52, 49, 48, 102, 102, 54, 49, 102, 50, 48, 48, 49, 53, 97, 100]⟩ : ByteArray) := ⟨_, rfl⟩
  have hks : k.size = 64 := by rw [hk]; rfl
  rw [← hk]
  have HK0 := Lib.hid hk
  clear hk
  obtain ⟨kc, hkc⟩ : ∃ x : ByteArray, k.extract 1 64 = x := ⟨_, rfl⟩
  have hkl : kc.size ≤ 64 := by rw [← hkc, ByteArray.size_extract]; omega
  have hkl2 : ¬ 9223372036854775807 < 1 + kc.size := by omega
  obtain ⟨k1, hk1⟩ : ∃ x : ByteArray, (⟨#[49]⟩ : ByteArray) ++ kc = x := ⟨_, rfl⟩
  obtain ⟨k2, hk2⟩ : ∃ x : ByteArray, (⟨#[50]⟩ : ByteArray) ++ kc = x := ⟨_, rfl⟩
  refine wp_region_inv_at [10, 11, 12, 13, 14, 15, 16, 17, 18, 19, 20, 21, 22, 23, 24, 25, 3, 4, 5] (fun l vs wx => ∃ (v0 v1 v2 v3 v4 v5 v6 v7 v8 v9 v10 v11 v12 v13 v14 v15 v16 v17 v18 : Value) (r : Nat → Nat), vs = [v0, v1, v2, v3, v4, v5, v6, v7, v8, v9, v10, v11, v12, v13, v14, v15, v16, v17, v18] ∧ l.size = 22 ∧ jfJ k kc k1 k2 w1.heap.size w1 l v0 v1 v2 v3 v4 v5 v6 v7 v8 v9 v10 v11 v12 v13 v14 v15 v16 v17 v18 r wx) [undef, undef, undef, undef, undef, undef, undef, undef, undef, undef, undef, undef, undef, undef, undef, undef, undef, undef, undef] (by kernel_rfl) (by kernel_rfl) ?_ ?_ ?_
  · exact ⟨_, _, _, _, _, _, _, _, _, _, _, _, _, _, _, _, _, _, _, fun _ => 0, rfl, by simp, jfJ.start k kc k1 k2 _ _ _ _ _ _ _ _ _ _ _ _ _ _ _ _ _ _ _ _ _⟩
  · refine ⟨?_, ?_, ?_, ?_, ?_, ?_, ?_, ?_, ?_, ?_, ?_, ?_, ?_, ?_, ?_, ?_, ?_, ?_, ?_, ?_, ?_, ?_, trivial⟩
    all_goals
      rintro l _ wx h0 hd ⟨v0, v1, v2, v3, v4, v5, v6, v7, v8, v9, v10, v11, v12, v13, v14, v15, v16, v17, v18, r, rfl, hsz, J⟩ K hK
      have hK' := fun u0 u1 u2 u3 u4 u5 u6 u7 u8 u9 u10 u11 u12 u13 u14 u15 u16 u17 u18 w => hK [u0, u1, u2, u3, u4, u5, u6, u7, u8, u9, u10, u11, u12, u13, u14, u15, u16, u17, u18] w
      clear hK
      simp only [layAt, Act.put, List.setIfInBounds_toArray, List.set_cons_zero, List.set_cons_succ] at hK' ⊢
      have HK := Lib.hid hK'; clear hK'
    · have HJ := Lib.hid J
      have bx := HB.out.below HJ.out.bk.bel
      have c0 := bx.c0; have c1 := bx.c1; have c2 := bx.c2; have c3 := bx.c3
      clear bx
      clear J hd h0
      go_simp
      exact HK.out _ _ _ _ _ _ _ _ _ _ _ _ _ _ _ _ _ _ _ _ ⟨_, _, _, _, _, _, _, _, _, _, _, _, _, _, _, _, _, _, _, r, rfl, by simp [hsz], HJ.out.op0⟩
    · have HJ := Lib.hid J
      clear J hd h0
      go_simp
      exact HK.out _ _ _ _ _ _ _ _ _ _ _ _ _ _ _ _ _ _ _ _ ⟨_, _, _, _, _, _, _, _, _, _, _, _, _, _, _, _, _, _, _, r, rfl, by simp [hsz], HJ.out.op1⟩
    · have d1 := hd ⟨1, .data⟩ (by simp) (by rfl)
      have hz : l.getD 2 false = false := by rw [both (by omega) false true]; exact h0
      obtain rfl := J.f1 d1
      have HJ := Lib.hid J
      clear J hd h0
      go_simp
      exact HK.out _ _ _ _ _ _ _ _ _ _ _ _ _ _ _ _ _ _ _ _ ⟨_, _, _, _, _, _, _, _, _, _, _, _, _, _, _, _, _, _, _, _, rfl, by simp [hsz], HJ.out.op2 hz d1⟩
    · have d0 := hd ⟨0, .data⟩ (by simp) (by rfl)
      have d2 := hd ⟨2, .data⟩ (by simp) (by rfl)
      obtain rfl := J.f0 d0
      obtain rfl := J.f2 d2
      have HJ := Lib.hid J
      clear J hd h0
      go_simp
      exact HK.out _ _ _ _ _ _ _ _ _ _ _ _ _ _ _ _ _ _ _ _ ⟨_, _, _, _, _, _, _, _, _, _, _, _, _, _, _, _, _, _, _, r, rfl, by simp [hsz], HJ.out.op3 d0 d2⟩
    · have HJ := Lib.hid J
      have bx := HB.out.below HJ.out.bk.bel
      have c0 := bx.c0; have c1 := bx.c1; have c2 := bx.c2; have c3 := bx.c3
      clear bx
      clear J hd h0
      go_simp
      exact HK.out _ _ _ _ _ _ _ _ _ _ _ _ _ _ _ _ _ _ _ _ ⟨_, _, _, _, _, _, _, _, _, _, _, _, _, _, _, _, _, _, _, r, rfl, by simp [hsz], HJ.out.op4⟩
    · have HJ := Lib.hid J
      clear J hd h0
      go_simp
      exact HK.out _ _ _ _ _ _ _ _ _ _ _ _ _ _ _ _ _ _ _ _ ⟨_, _, _, _, _, _, _, _, _, _, _, _, _, _, _, _, _, _, _, r, rfl, by simp [hsz], HJ.out.op5⟩
    · have d5 := hd ⟨5, .data⟩ (by simp) (by rfl)
      obtain rfl := J.f5 d5
      have HJ := Lib.hid J
      clear J hd h0
      go_simp
      exact HK.out _ _ _ _ _ _ _ _ _ _ _ _ _ _ _ _ _ _ _ _ ⟨_, _, _, _, _, _, _, _, _, _, _, _, _, _, _, _, _, _, _, r, rfl, by simp [hsz], HJ.out.op6 d5⟩
    · have d6 := hd ⟨6, .data⟩ (by simp) (by rfl)
      obtain rfl := J.f6 d6
      have HJ := Lib.hid J
      clear J hd h0
      go_simp
      exact HK.out _ _ _ _ _ _ _ _ _ _ _ _ _ _ _ _ _ _ _ _ ⟨_, _, _, _, _, _, _, _, _, _, _, _, _, _, _, _, _, _, _, r, rfl, by simp [hsz], HJ.out.op7 d6⟩
    · have d7 := hd ⟨7, .data⟩ (by simp) (by rfl)
      have hz : l.getD 8 false = false := by rw [both (by omega) false true]; exact h0
      obtain rfl := J.f7 d7
      have HJ := Lib.hid J
      clear J hd h0
      go_simp
      exact HK.out _ _ _ _ _ _ _ _ _ _ _ _ _ _ _ _ _ _ _ _ ⟨_, _, _, _, _, _, _, _, _, _, _, _, _, _, _, _, _, _, _, _, rfl, by simp [hsz], HJ.out.op8 hz d7⟩
    · have d4 := hd ⟨4, .data⟩ (by simp) (by rfl)
      have d8 := hd ⟨8, .data⟩ (by simp) (by rfl)
      obtain rfl := J.f4 d4
      obtain rfl := J.f8 d8
      have HJ := Lib.hid J
      clear J hd h0
      go_simp
      exact HK.out _ _ _ _ _ _ _ _ _ _ _ _ _ _ _ _ _ _ _ _ ⟨_, _, _, _, _, _, _, _, _, _, _, _, _, _, _, _, _, _, _, r, rfl, by simp [hsz], HJ.out.op9 d4 d8⟩
    · have HJ := Lib.hid J
      have bx := HB.out.below HJ.out.bk.bel
      have c0 := bx.c0; have c1 := bx.c1; have c2 := bx.c2; have c3 := bx.c3
      clear bx
      clear J hd h0
      go_simp
      exact HK.out _ _ _ _ _ _ _ _ _ _ _ _ _ _ _ _ _ _ _ _ ⟨_, _, _, _, _, _, _, _, _, _, _, _, _, _, _, _, _, _, _, r, rfl, by simp [hsz], HJ.out.op10⟩
    · have HJ := Lib.hid J
      clear J hd h0
      go_simp
      exact HK.out _ _ _ _ _ _ _ _ _ _ _ _ _ _ _ _ _ _ _ _ ⟨_, _, _, _, _, _, _, _, _, _, _, _, _, _, _, _, _, _, _, r, rfl, by simp [hsz], HJ.out.op11⟩
    · have d11 := hd ⟨11, .data⟩ (by simp) (by rfl)
      obtain rfl := J.f11 d11
      have HJ := Lib.hid J
      clear J hd h0
      go_simp
      exact HK.out _ _ _ _ _ _ _ _ _ _ _ _ _ _ _ _ _ _ _ _ ⟨_, _, _, _, _, _, _, _, _, _, _, _, _, _, _, _, _, _, _, r, rfl, by simp [hsz], HJ.out.op12 d11⟩
    · have d12 := hd ⟨12, .data⟩ (by simp) (by rfl)
      obtain rfl := J.f12 d12
      have HJ := Lib.hid J
      clear J hd h0
      go_simp
      exact HK.out _ _ _ _ _ _ _ _ _ _ _ _ _ _ _ _ _ _ _ _ ⟨_, _, _, _, _, _, _, _, _, _, _, _, _, _, _, _, _, _, _, r, rfl, by simp [hsz], HJ.out.op13 d12⟩
    · have d13 := hd ⟨13, .data⟩ (by simp) (by rfl)
      have hz : l.getD 14 false = false := by rw [both (by omega) false true]; exact h0
      obtain rfl := J.f13 d13
      have HJ := Lib.hid J
      clear J hd h0
      go_simp
      exact HK.out _ _ _ _ _ _ _ _ _ _ _ _ _ _ _ _ _ _ _ _ ⟨_, _, _, _, _, _, _, _, _, _, _, _, _, _, _, _, _, _, _, _, rfl, by simp [hsz], HJ.out.op14 hz d13⟩
    · have d10 := hd ⟨10, .data⟩ (by simp) (by rfl)
      have d14 := hd ⟨14, .data⟩ (by simp) (by rfl)
      obtain rfl := J.f10 d10
      obtain rfl := J.f14 d14
      have HJ := Lib.hid J
      clear J hd h0
      go_simp
      exact HK.out _ _ _ _ _ _ _ _ _ _ _ _ _ _ _ _ _ _ _ _ ⟨_, _, _, _, _, _, _, _, _, _, _, _, _, _, _, _, _, _, _, r, rfl, by simp [hsz], HJ.out.op15 d10 d14⟩
    · have hz : l.getD 16 false = false := by rw [both (by omega) false true]; exact h0
      have HJ := Lib.hid J
      clear J hd h0
      go_simp
      exact HK.out _ _ _ _ _ _ _ _ _ _ _ _ _ _ _ _ _ _ _ _ ⟨_, _, _, _, _, _, _, _, _, _, _, _, _, _, _, _, _, _, _, _, rfl, by simp [hsz], HJ.out.op16 hz⟩
    · have hz : l.getD 17 false = false := by rw [both (by omega) false true]; exact h0
      have HJ := Lib.hid J
      clear J hd h0
      go_simp
      exact HK.out _ _ _ _ _ _ _ _ _ _ _ _ _ _ _ _ _ _ _ _ ⟨_, _, _, _, _, _, _, _, _, _, _, _, _, _, _, _, _, _, _, _, rfl, by simp [hsz], HJ.out.op17 hz⟩
    · have hz : l.getD 18 false = false := by rw [both (by omega) false true]; exact h0
      have HJ := Lib.hid J
      clear J hd h0
      go_simp
      exact HK.out _ _ _ _ _ _ _ _ _ _ _ _ _ _ _ _ _ _ _ _ ⟨_, _, _, _, _, _, _, _, _, _, _, _, _, _, _, _, _, _, _, _, rfl, by simp [hsz], HJ.out.op18 hz⟩
    · have d16 := hd ⟨16, .data⟩ (by simp) (by rfl)
      have d3 := hd ⟨3, .data⟩ (by simp) (by rfl)
      have d2 := J.u3 d3
      have hz : l.getD 19 false = false := by rw [both (by omega) false true]; exact h0
      obtain rfl := J.f16 d16
      obtain rfl := J.f3 d3
      have HJ := Lib.hid J
      have hm := HJ.out.m16 d16
      rw [hz] at hm
      simp only [Bool.false_eq_true, if_false] at hm
      have bx := rbox_of_heap hm
      have c0 := bx.box.c0; have c1 := bx.box.c1; have c2 := bx.box.c2; have c3 := bx.box.c3; have c4 := bx.c4; have f0 := bx.box.f0; have f1 := bx.box.f1; have f2 := bx.box.f2; have f3 := bx.box.f3; have f4 := bx.f4
      clear hm bx
      clear J hd h0
      go_simp
      exact HK.out _ _ _ _ _ _ _ _ _ _ _ _ _ _ _ _ _ _ _ _ ⟨_, _, _, _, _, _, _, _, _, _, _, _, _, _, _, _, _, _, _, r, rfl, by simp [hsz], HJ.out.op19 hsz hz d16 d3 d2⟩
    · have d17 := hd ⟨17, .data⟩ (by simp) (by rfl)
      have d9 := hd ⟨9, .data⟩ (by simp) (by rfl)
      have d8 := J.u9 d9
      have hz : l.getD 20 false = false := by rw [both (by omega) false true]; exact h0
      obtain rfl := J.f17 d17
      obtain rfl := J.f9 d9
      have HJ := Lib.hid J
      have hm := HJ.out.m17 d17
      rw [hz] at hm
      simp only [Bool.false_eq_true, if_false] at hm
      have bx := rbox_of_heap hm
      have c0 := bx.box.c0; have c1 := bx.box.c1; have c2 := bx.box.c2; have c3 := bx.box.c3; have c4 := bx.c4; have f0 := bx.box.f0; have f1 := bx.box.f1; have f2 := bx.box.f2; have f3 := bx.box.f3; have f4 := bx.f4
      clear hm bx
      clear J hd h0
      go_simp
      exact HK.out _ _ _ _ _ _ _ _ _ _ _ _ _ _ _ _ _ _ _ _ ⟨_, _, _, _, _, _, _, _, _, _, _, _, _, _, _, _, _, _, _, r, rfl, by simp [hsz], HJ.out.op20 hsz hz d17 d9 d8⟩
    · have d18 := hd ⟨18, .data⟩ (by simp) (by rfl)
      have d15 := hd ⟨15, .data⟩ (by simp) (by rfl)
      have d14 := J.u15 d15
      have hz : l.getD 21 false = false := by rw [both (by omega) false true]; exact h0
      obtain rfl := J.f18 d18
      obtain rfl := J.f15 d15
      have HJ := Lib.hid J
      have hm := HJ.out.m18 d18
      rw [hz] at hm
      simp only [Bool.false_eq_true, if_false] at hm
      have bx := rbox_of_heap hm
      have c0 := bx.box.c0; have c1 := bx.box.c1; have c2 := bx.box.c2; have c3 := bx.box.c3; have c4 := bx.c4; have f0 := bx.box.f0; have f1 := bx.box.f1; have f2 := bx.box.f2; have f3 := bx.box.f3; have f4 := bx.f4
      clear hm bx
      clear J hd h0
      go_simp
      exact HK.out _ _ _ _ _ _ _ _ _ _ _ _ _ _ _ _ _ _ _ _ ⟨_, _, _, _, _, _, _, _, _, _, _, _, _, _, _, _, _, _, _, r, rfl, by simp [hsz], HJ.out.op21 hsz hz d18 d15 d14⟩
  · rintro l _ wx hr ⟨v0, v1, v2, v3, v4, v5, v6, v7, v8, v9, v10, v11, v12, v13, v14, v15, v16, v17, v18, r, rfl, hsz, J⟩
    have hall := all_done (by rw [hsz]; rfl) (by kernel_rfl) hr
    have d0 := hall 0 (by decide)
    have d1 := hall 1 (by decide)
    have d2 := hall 2 (by decide)
    have d3 := hall 3 (by decide)
    have d4 := hall 4 (by decide)
    have d5 := hall 5 (by decide)
    have d6 := hall 6 (by decide)
    have d7 := hall 7 (by decide)
    have d8 := hall 8 (by decide)
    have d9 := hall 9 (by decide)
    have d10 := hall 10 (by decide)
    have d11 := hall 11 (by decide)
    have d12 := hall 12 (by decide)
    have d13 := hall 13 (by decide)
    have d14 := hall 14 (by decide)
    have d15 := hall 15 (by decide)
    have d16 := hall 16 (by decide)
    have d17 := hall 17 (by decide)
    have d18 := hall 18 (by decide)
    have d19 := hall 19 (by decide)
    have d20 := hall 20 (by decide)
    have d21 := hall 21 (by decide)
    obtain rfl := J.f0 d0
    obtain rfl := J.f1 d1
    obtain rfl := J.f2 d2
    obtain rfl := J.f3 d3
    obtain rfl := J.f4 d4
    obtain rfl := J.f5 d5
    obtain rfl := J.f6 d6
    obtain rfl := J.f7 d7
    obtain rfl := J.f8 d8
    obtain rfl := J.f9 d9
    obtain rfl := J.f10 d10
    obtain rfl := J.f11 d11
    obtain rfl := J.f12 d12
    obtain rfl := J.f13 d13
    obtain rfl := J.f14 d14
    obtain rfl := J.f15 d15
    obtain rfl := J.f16 d16
    obtain rfl := J.f17 d17
    obtain rfl := J.f18 d18
    simp only [layAt, Act.put, List.setIfInBounds_toArray, List.set_cons_zero, List.set_cons_succ]
    have HX1 := J.m16 d16; have HX2 := J.m17 d17; have HX3 := J.m18 d18
    rw [d19] at HX1; rw [d20] at HX2; rw [d21] at HX3
    simp only [if_true] at HX1 HX2 HX3
    have X1 := Lib.hid (rbox_of_heap HX1); have X2 := Lib.hid (rbox_of_heap HX2); have X3 := Lib.hid (rbox_of_heap HX3)
    have K1 := Lib.hid (strs_of_heap (J.m2 d2)); have K2 := Lib.hid (strs_of_heap (J.m8 d8)); have K3 := Lib.hid (strs_of_heap (J.m14 d14))
    have B2 := Lib.hid (B1.out.trans (J.bk.bel.mono B1.out.size))
    have E1 : Hid (k1 = k1F) := Lib.hid (by rw [← hk1, ← hkc, HK0.out]; rfl)
    have E2 : Hid (k2 = k2F) := Lib.hid (by rw [← hk2, ← hkc, HK0.out]; rfl)
    have E0 : Hid (k = kF) := Lib.hid HK0.out
    have HKC := Lib.hid hkc; have HK1 := Lib.hid hk1
    clear HX1 HX2 HX3 J hall hr d0 d1 d2 d3 d4 d5 d6 d7 d8 d9 d10 d11 d12 d13 d14 d15 d16 d17 d18 d19 d20 d21 hk2
    clear hkc hk1
    have c0 := X1.out.box.c0; have c1 := X1.out.box.c1; have c2 := X1.out.box.c2; have c3 := X1.out.box.c3; have c4 := X1.out.c4
    have d0 := X2.out.box.c0; have d1 := X2.out.box.c1; have d2 := X2.out.box.c2; have d3 := X2.out.box.c3; have d4 := X2.out.c4
    have e0 := X3.out.box.c0; have e1 := X3.out.box.c1; have e2 := X3.out.box.c2; have e3 := X3.out.box.c3; have e4 := X3.out.c4
    go_wp2_with fail
    have HM := first_merge (r 2) (r 8) (r 14) wx (by rw [← E0.out]; exact K1.out) (by rw [← E1.out]; exact K2.out) (by rw [← E2.out]; exact K3.out)
    refine HM.mono ?_; rintro e w3 ⟨ga, ka, gm, km, rfl, o2, o3, b3⟩
    have O2 := Lib.hid o2; have O3 := Lib.hid o3; have B3 := Lib.hid (below_size B2.out b3)
    clear o2 o3 b3 HM c0 c1 c2 c3 c4 d0 d1 d2 d3 d4 e0 e1 e2 e3 e4
    go_upto_region 5 with (fail)
    have b4 : Below w3.heap.size w3 (w3.alloc (.cells #[.int .i64 1, .int .i64 1, .int .i64 1, .int .i64 8, .slice (some ⟨ga, 0, Option.none⟩) 1 ka] 26)) := (Below.refl _ _).alloc (Nat.le_refl _) _
    have hx6 := rbox_alloc w3 1 1 1 8 (some ⟨ga, 0, Option.none⟩) 1 ka 26
    have X6 := Lib.hid hx6
    replace O2 := Lib.hid (O2.out.below b4); replace O3 := Lib.hid (O3.out.below b4); replace B3 := Lib.hid (below_size B3.out b4)
    clear b4 hx6 X1 X2 X3 K1 K2 K3 B1 HB B2
    generalize w3.alloc (.cells #[.int .i64 1, .int .i64 1, .int .i64 1, .int .i64 8, .slice (some ⟨ga, 0, Option.none⟩) 1 ka] 26) = w4 at *
    generalize w3.heap.size = g6 at *
    have c4 := X6.out.c4
    obtain ⟨q, oo, hq, hql, sa⟩ := O2.out.cellAt 0 (by decide)
    obtain ⟨rfl, rfl⟩ : ga = q ∧ 0 = oo := by simpa using hq
    replace sa : w4.cell? ⟨ga, 0, Option.none⟩ = some (.string k1) := by rw [E1.out]; exact sa
    have hkp := HK1.out; have hkc := HKC.out
    have r1 := str_eq k1
    clear hq
    have Keep : Hid (∀ w' : World, Below w4.heap.size w4 w' → w'.cell? ⟨g6, 4, Option.none⟩ = some (.slice (some ⟨ga, 0, Option.none⟩) 1 ka) ∧ w'.cell? ⟨ga, 0, Option.none⟩ = some (.string k1)) := Lib.hid fun w' e => ⟨(X6.out.below e).c4, (e.cell (p := ⟨ga, 0, Option.none⟩) hql).trans sa⟩
    have CB : Hid (∀ w' g, Below w4.heap.size w4 w' → Bls w' (some ⟨g, 0, Option.none⟩) 1 1 [true] → Calls Try.prog 18 #[.slice (some ⟨gm, 0, Option.none⟩) 1 km, .slice (some ⟨g, 0, Option.none⟩) 1 1] w' fun e w'' => e = .returned (.bool true) ∧ Below w'.heap.size w' w'') := Lib.hid fun w' g hb h => bools_any _ _ _ _ _ _ _ _ _ (O3.out.below hb) h
    have e0 : Below w4.heap.size w4 w4.drew := (Below.refl _ _).drew
    have hz3 : w4.heap.size ≤ w4.drew.heap.size := Nat.le_refl _
    go_region_held3 (fun w' => w'.cell? ⟨g6, 4, Option.none⟩ = some (.slice (some ⟨ga, 0, Option.none⟩) 1 ka) ∧ w'.cell? ⟨ga, 0, Option.none⟩ = some (.string k1))
      ((refine Keep.out _ ?_; repeat (first | with_reducible exact e0 | with_reducible exact e1 | with_reducible exact Below.refl _ _ | with_reducible refine Below.drew ?_ | (refine Below.alloc ?_ (by first | omega | (simp <;> omega)) _))))
      (first
      | (go_at_call 18; refine (CB.out _ _ (by repeat (first | with_reducible exact e0 | with_reducible exact Below.refl _ _ | with_reducible refine Below.drew ?_ | (refine Below.alloc ?_ (by first | omega | (simp <;> omega)) _))) (readsA_alloc false _ [true] _ _ _ rfl (by unfold maxLen; simp) _ rfl)).mono ?_; rintro e x1 ⟨rfl, bb1⟩; have e1 : Below w4.heap.size w4 x1 := Below.trans (by repeat (first | with_reducible exact e0 | with_reducible exact Below.refl _ _ | with_reducible refine Below.drew ?_ | (refine Below.alloc ?_ (by first | omega | (simp <;> omega)) _))) (bb1.mono (by first | omega | (simp <;> omega))); have hz4 : w4.heap.size ≤ x1.heap.size := e1.size))
    all_goals go_wp2_with fail
    all_goals go_ret
    all_goals exact ⟨rfl, B3.out.trans (e1.mono B3.out.size)⟩
end Go.Proofs.Ytbmbelnjgnahhaa
