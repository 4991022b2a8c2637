/-
  The reference's Expand.
-/
import Derived.Test.YtfolhckhedinhaaLzExpand
import Derived.Deep.DeepCutAuto
import Derived.Deep.CutRange
namespace Go.Proofs.Ytfolhckhedinhaa
open Go.RowKit

set_option maxRecDepth 100000 in
set_option maxHeartbeats 1000000 in
theorem rexpand_any (a : Option Addr) (n cap : Nat) (ts : List Tok) (w : World) (ht : Toks w a n cap ts) :
    Calls Try.prog 17 #[.slice a n cap] w (RetBy w (expT ts []).1 (expT ts []).2) := by
  obtain ⟨i0, hi, hz0, hz1, hz2⟩ := info_parts infoC
  have Hi := Lib.hid hi; have Hz0 := Lib.hid hz0; have Hz1 := Lib.hid hz1; have Hz2 := Lib.hid hz2
  have HT := Lib.hid ht; have HL := Lib.hid ht.len
  have n63 := ht.n63
  clear hi hz0 hz1 hz2 ht
  generalize hR : expT ts [] = R at *
  have HR0 := Lib.hid hR
  clear hR
  go_enter Try.func17, Try.ntmps17
  go_wp2_with fail
  go_loopw [4, 5] (fun vo vi wr => ∃ (i : Nat) (o : Option Addr) (ca : Nat) (out : List Int), i ≤ n ∧ vo = .slice o out.length ca ∧ vi = .int .i64 i ∧ wr.ownsRow w.heap.size 5 1 (.slice o out.length ca) out.length (out.map (Value.int .u8)) ∧ out.length ≤ 40000 ∧ Below w.heap.size w wr ∧ Hid (expT (ts.drop i) out = R)) (fun _ vi _ => n - (intOf vi).toNat)
  case atStart => exact ⟨0, _, _, [], Nat.zero_le _, rfl, rfl, World.ownsRow_nil _ _ _ _, Nat.zero_le _, Below.refl _ _, HR0⟩
  case round =>
    obtain ⟨i, o, ca, out, hi, rfl, rfl, ho, hol, hbel, HE⟩ := hrel
    have HO := Lib.hid ho; have HB := Lib.hid hbel
    clear ho hbel HR0
    by_cases hlt : i < n
    · obtain ⟨ga, off, t, rfl, hg, htt, k0, k1, k2⟩ := (HT.out.below HB.out).at i hlt
      have hdr : ts.drop i = t :: ts.drop (i + 1) := by
        have hi' : i < ts.length := by rw [HL.out]; exact hlt
        rw [List.drop_eq_getElem_cons hi']
        rw [List.getElem?_eq_getElem hi'] at htt
        cases htt
        rfl
      have HEX := Lib.hid (show (if errT out t ≠ 0 then ([], errT out t) else expT (ts.drop (i + 1)) (stepT out t)) = R by rw [← HE.out, hdr]; rfl)
      obtain ⟨t0, t1, t2⟩ := t
      dsimp only at k0 k1 k2
      clear htt hdr HE hg
      go_upto_region 6 with fail
      have hc3 := alloc3_cells wr (.int .i64 t0) (.int .i64 t1) (.int .i64 t2) 53
      have hbl : Below wr.heap.size wr (wr.alloc (.cells #[.int .i64 t0, .int .i64 t1, .int .i64 t2] 53)) := (Below.refl _ _).alloc (Nat.le_refl _) _
      have hgo : ∀ r, (Value.slice o out.length ca).ownBlock = some r → r ≠ wr.heap.size := fun r e => by have := (HO.out.lt r e).2; omega
      have hgw : w.heap.size ≤ wr.heap.size := HB.out.size
      have c0 := hc3.1
      have c1 := hc3.2.1
      have c2 := hc3.2.2
      have hgl : wr.heap.size < (wr.alloc (.cells #[.int .i64 t0, .int .i64 t1, .int .i64 t2] 53)).heap.size := by simp
      replace HO := Lib.hid (World.ownsRow.alloc HO.out (.cells #[.int .i64 t0, .int .i64 t1, .int .i64 t2] 53))
      replace HB := Lib.hid (below_size HB.out hbl)
      have HGO := Lib.hid hgo
      clear k0 k1 k2 hbl hc3 hgo
      generalize wr.alloc (.cells #[.int .i64 t0, .int .i64 t1, .int .i64 t2] 53) = w2 at *
      generalize wr.heap.size = gt at *
      go_cut [18] from 18 to 66 (fun s wx => s = .bool (!mayT (t0, t1, t2)) ∧ wx = w2)
      case first =>
        by_cases z0 : t0 = 0
        · subst z0
          by_cases y0 : t1 = 0
          · subst y0
            go_wp2_with fail
            all_goals
              go_meet
              refine ⟨?_, rfl⟩
              congr 1
              rw [Bool.eq_iff_iff]
              simp [mayT] <;> first | omega | (constructor <;> intro hh <;> omega)
          · have y1 : (t1 != 0) = true := by simp [y0]
            go_wp2_with fail
            all_goals
              go_meet
              refine ⟨?_, rfl⟩
              congr 1
              rw [Bool.eq_iff_iff]
              simp [mayT] <;> first | omega | (constructor <;> intro hh <;> omega)
        · have z1 : (t0 == 0) = false := by simp [z0]
          have z2 : (t0 != 0) = true := by simp [z0]
          by_cases y0 : t2 = 0
          · subst y0
            go_wp2_with fail
            all_goals
              go_meet
              refine ⟨?_, rfl⟩
              congr 1
              rw [Bool.eq_iff_iff]
              simp [mayT] <;> first | omega | (constructor <;> intro hh <;> omega)
          · have y1 : (t2 != 0) = true := by simp [y0]
            go_wp2_with fail
            all_goals
              go_meet
              refine ⟨?_, rfl⟩
              congr 1
              rw [Bool.eq_iff_iff]
              simp [mayT] <;> first | omega | (constructor <;> intro hh <;> omega)
      case rest =>
      obtain ⟨rfl, rfl⟩ := hcut
      by_cases hm : mayT (t0, t1, t2) = true
      · have hmm := hm
        rw [mayT, decide_eq_true_iff] at hmm
        dsimp only at hmm
        rcases hmm with ⟨rfl, rfl, h2a, h2b⟩ | ⟨hn0, h0a, h0b, h1a, h1b, rfl⟩
        · have hmx : max (1 : Int) 0 = 1 := rfl
          have hmx2 : max (0 : Int) 1 = 1 := rfl
          rw [hm]
          by_cases hbig : out.length = 40000
          · have g1 : (40000 : Int) < (out.length : Int) + 1 := by omega
            have hE : errT out (0, 0, t2) = 10 := by simp [errT, hm, hmx, hbig]
            have hR : R = ([], 10) := by rw [← HEX.out, hE]; rfl
            subst hR
            go_wp2_with fail
            go_ret2
            exact ⟨Option.none, 0, rfl, World.ownsRow_nil _ _ _ _, HB.out⟩
          · have g1 : decide ((40000 : Int) < (out.length : Int) + 1) = false := by simp; omega
            have hE : errT out (0, 0, t2) = 0 := by simp [errT, hm, hmx]; omega
            have hst : stepT out (0, 0, t2) = out ++ [t2] := by simp [stepT]
            have HNX := Lib.hid (show expT (ts.drop (i + 1)) (out ++ [t2]) = R by rw [← HEX.out, if_neg (by rw [hE]; decide), hst])
            have hb8 : t2 % 256 = t2 := by omega
            clear hE hst HEX
            go_wp2_with (at_builtin; refine wpList_append_any _ rfl _ _ 22 rfl w.heap.size 5 i0 (.int .u8 0) 1 1 Try.underlying22 Hi.out Hz0.out Hz1.out Hz2.out rfl (by decide) o out.length ca (out.map (Value.int .u8)) rfl (World.ownsRow.alloc HO.out _) _ 1 1 _ rfl rfl (cell_one_new _ _ _) (by simp [Value.oneCell']) (by decide) (by unfold maxLen; omega) (by omega) (by have := HB.out.size; simp; omega) ?_)
            intro a5 c5 w5 r5 g5 f5
            have HB5 := Lib.hid ((HB.out.alloc HB.out.size (.cells #[.int .u8 t2] 5)).grown g5 (by have := HB.out.size; simp; omega) (fun k hk => (HO.out.lt k hk).1))
            have HO5 := Lib.hid (show w5.ownsRow w.heap.size 5 1 (.slice a5 (out ++ [t2]).length c5) (out ++ [t2]).length ((out ++ [t2]).map (Value.int .u8)) by simpa using r5)
            have hb5 : w5.heap[gt]? = wc.heap[gt]? := (g5.block gt (by simp; omega) (fun e => HGO.out gt e.symm rfl)).trans (Below.heap_alloc _ _ _ hgl)
            have d0 := (World.cell?_of_block (a := ⟨gt, 0, Option.none⟩) hb5).trans c0
            have d1 := (World.cell?_of_block (a := ⟨gt, 1, Option.none⟩) hb5).trans c1
            clear r5 g5 f5 hb5 c0 c1 c2
            go_wp2_with fail
            go_loopw [4, 7] (fun vo vk wz => vo = .slice a5 (out.length + 1) c5 ∧ vk = .int .i64 0 ∧ wz = w5) (fun _ _ _ => 0)
            case atStart => exact ⟨rfl, rfl, rfl⟩
            case round =>
              obtain ⟨rfl, rfl, rfl⟩ := hrel
              go_wp2_with fail
              go_roundw
              case rel => exact ⟨i + 1, a5, c5, out ++ [t2], by omega, by simp, by go_num, HO5.out, by simp; omega, HB5.out, HNX⟩
              case measure => simp [intOf]; omega
        · obtain ⟨L, rfl⟩ := Int.eq_ofNat_of_zero_le (show 0 ≤ t0 by omega)
          obtain ⟨D, rfl⟩ := Int.eq_ofNat_of_zero_le (show 0 ≤ t1 by omega)
          rw [hm]
          by_cases hdd : out.length < D
          · have g0 : (out.length : Int) < D := by omega
            have hE : errT out ((L : Int), (D : Int), 0) = 1 := by simp [errT, hm, hdd]
            have hR : R = ([], 1) := by rw [← HEX.out, hE]; rfl
            subst hR
            go_wp2_with fail
            go_ret2
            exact ⟨Option.none, 0, rfl, World.ownsRow_nil _ _ _ _, HB.out⟩
          · have g0 : decide ((out.length : Int) < D) = false := by simp; omega
            have hmx : max (1 : Int) (L : Int) = L := by omega
            have hmx2 : max (L : Int) 1 = L := by omega
            by_cases hbig : 40000 < out.length + L
            · have g1 : (40000 : Int) < (out.length : Int) + L := by omega
              have hE : errT out ((L : Int), (D : Int), 0) = 10 := by simp [errT, hm, hdd, hmx, g1]
              have hR : R = ([], 10) := by rw [← HEX.out, hE]; rfl
              subst hR
              go_wp2_with fail
              go_ret2
              exact ⟨Option.none, 0, rfl, World.ownsRow_nil _ _ _ _, HB.out⟩
            · have g1 : decide ((40000 : Int) < (out.length : Int) + L) = false := by simp; omega
              have hE : errT out ((L : Int), (D : Int), 0) = 0 := by simp [errT, hm, hmx]; omega
              have hst : stepT out ((L : Int), (D : Int), 0) = copyN out D L := by simp [stepT]; omega
              have HNX := Lib.hid (show expT (ts.drop (i + 1)) (copyN out D L) = R by rw [← HEX.out, if_neg (by rw [hE]; decide), hst])
              have hl0 : ((L : Int) == 0) = false := by simp; omega
              have C0 := Lib.hid c0; have C1 := Lib.hid c1
              clear hE hst HEX hm c2
              go_wp2_with fail
              clear c0 c1
              go_loopw [4, 7] (fun vo vk wz => ∃ (k : Nat) (q : Option Addr) (cq : Nat), k ≤ L ∧ vo = .slice q (out.length + k) cq ∧ vk = .int .i64 k ∧ wz.ownsRow w.heap.size 5 1 (.slice q (out.length + k) cq) (out.length + k) ((copyN out D k).map (Value.int .u8)) ∧ Below w.heap.size w wz ∧ gt < wz.heap.size ∧ (∀ r, (Value.slice q (out.length + k) cq).ownBlock = some r → r ≠ gt) ∧ wz.cell? ⟨gt, 0, Option.none⟩ = some (.int .i64 L) ∧ wz.cell? ⟨gt, 1, Option.none⟩ = some (.int .i64 D)) (fun _ vk _ => L - (intOf vk).toNat)
              case atStart => exact ⟨0, o, ca, Nat.zero_le _, rfl, rfl, HO.out, HB.out, hgl, HGO.out, C0.out, C1.out⟩
              case round =>
                obtain ⟨k, q, cq, hkL, rfl, rfl, ho, hb, hgz, hgo, c0, c1⟩ := hrel
                clear HO HB HGO C0 C1 hgl
                have HO := Lib.hid ho; have HB := Lib.hid hb; have HGO := Lib.hid hgo
                have hcl := copyN_len out D k
                clear ho hb hgo
                by_cases hkl : k < L
                · have HCN := Lib.hid (show copyN out D (k + 1) = copyN out D k ++ [(copyN out D k).getD (out.length + k - D) 0] by rw [copyN, hcl])
                  obtain ⟨gq, rfl, _⟩ := owns_addr HO.out (by omega)
                  obtain ⟨P, hP⟩ : ∃ P : Nat, out.length + k - D = P := ⟨_, rfl⟩
                  have x0 := owns_cell HO.out P (by omega)
                  have hPi : (out.length : Int) + k - D = P := by omega
                  have hPl : (P : Int) < (out.length : Int) + k := by omega
                  rw [hP] at HCN
                  generalize (copyN out D k).getD P 0 = x at *
                  clear hP
                  go_wp2_with (at_builtin; refine wpList_append_any _ rfl _ _ 22 rfl w.heap.size 5 i0 (.int .u8 0) 1 1 Try.underlying22 Hi.out Hz0.out Hz1.out Hz2.out rfl (by decide) (some ⟨gq, 0, Option.none⟩) (out.length + k) cq ((copyN out D k).map (Value.int .u8)) rfl (World.ownsRow.alloc HO.out _) _ 1 1 _ rfl rfl (cell_one_new _ _ _) (by simp [Value.oneCell']) (by decide) (by unfold maxLen; omega) (by omega) (by have := HB.out.size; simp; omega) ?_)
                  intro a5 c5 w5 r5 g5 f5
                  have HB5 := Lib.hid ((HB.out.alloc HB.out.size (.cells #[.int .u8 x] 5)).grown g5 (by have := HB.out.size; simp; omega) (fun k hk => (HO.out.lt k hk).1))
                  have HO5 := Lib.hid (show w5.ownsRow w.heap.size 5 1 (.slice a5 (out.length + (k + 1)) c5) (out.length + (k + 1)) ((copyN out D (k + 1)).map (Value.int .u8)) by rw [HCN.out]; simpa [← Nat.add_assoc] using r5)
                  have hb5 : w5.heap[gt]? = wr.heap[gt]? := (g5.block gt (by simp; omega) (fun e => HGO.out gt e.symm rfl)).trans (Below.heap_alloc _ _ _ hgz)
                  have d0 := (World.cell?_of_block (a := ⟨gt, 0, Option.none⟩) hb5).trans c0
                  have d1 := (World.cell?_of_block (a := ⟨gt, 1, Option.none⟩) hb5).trans c1
                  have hgf : ∀ r, (Value.slice a5 (out.length + (k + 1)) c5).ownBlock = some r → r ≠ gt := fun r e => by
                    rcases f5 r (by rw [Nat.add_assoc]; exact e) with e1 | e1
                    · exact HGO.out r e1
                    · omega
                  have hgz5 : gt < w5.heap.size := by have := g5.size; simp at this; omega
                  have HGF := Lib.hid hgf
                  clear r5 g5 f5 hb5 c0 c1 hgf x0
                  go_wp2_with fail
                  go_roundw
                  case rel =>
                    refine ⟨_, _, _, _, _, _, _, _, _, _, _, _, _, _, _, _, _, _, _, ?_, rfl⟩
                    exact ⟨k + 1, a5, c5, by omega, by rw [Nat.add_assoc], by go_num, HO5.out, HB5.out, hgz5, HGF.out, d0, d1⟩
                  case measure => simp [intOf]; omega
                · obtain rfl : k = L := by omega
                  have g9 : decide ((k : Int) < k) = false := by simp
                  go_wp2_with fail
                  go_roundw
                  case rel => exact ⟨i + 1, q, cq, copyN out D k, by omega, by rw [hcl], by go_num, by rw [hcl]; exact HO.out, by omega, HB.out, HNX⟩
                  case measure => simp [intOf]; omega
      · have hm' : mayT (t0, t1, t2) = false := by simpa using hm
        rw [hm']
        have hE : errT out (t0, t1, t2) = 4 := by simp [errT, hm']
        have hR : R = ([], 4) := by rw [← HEX.out, hE]; rfl
        subst hR
        go_wp2_with fail
        go_ret2
        exact ⟨Option.none, 0, rfl, World.ownsRow_nil _ _ _ _, HB.out⟩
    · obtain rfl : i = n := by omega
      have e : ts.drop i = [] := List.drop_eq_nil_of_le (by have := HL.out; omega)
      have hR : R = (out, 0) := by rw [← HE.out, e]; rfl
      subst hR
      go_wp2
      go_ret2
      exact ⟨o, ca, rfl, HO.out, HB.out⟩
end Go.Proofs.Ytfolhckhedinhaa
