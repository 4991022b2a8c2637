/-
  aquref1.digit, aquref1.Unhex.
-/
import Derived.Test.YtbmbelnjgnahhaaNumUnhex
namespace Go.Proofs.Ytbmbelnjgnahhaa
open Go.RowKit

theorem rdigit_any (c : Int) (w : World) (h0 : 0 ≤ c) (h1 : c < 256) :
    Calls Try.prog 38 #[.int .u8 c] w fun e w' => e = .returned (.int .i64 (dig c)) ∧ w' = w := by
  unfold dig
  by_cases a1 : 48 ≤ c
  · by_cases a2 : c ≤ 57
    · rw [if_pos ⟨a1, a2⟩]
      go_enter Try.func38, Try.ntmps38
      go_wp2
      go_ret
      exact ⟨rfl, rfl⟩
    · rw [if_neg (by omega)]
      by_cases a3 : 97 ≤ c
      · by_cases a4 : c ≤ 102
        · rw [if_pos ⟨a3, a4⟩]
          go_enter Try.func38, Try.ntmps38
          go_wp2
          go_ret
          exact ⟨by simp; omega, rfl⟩
        · rw [if_neg (by omega)]
          go_enter Try.func38, Try.ntmps38
          go_wp2
          go_ret
          exact ⟨rfl, rfl⟩
      · rw [if_neg (by omega)]
        go_enter Try.func38, Try.ntmps38
        go_wp2
        go_ret
        exact ⟨rfl, rfl⟩
  · rw [if_neg (by omega), if_neg (by omega)]
    have a3 : ¬ 97 ≤ c := by omega
    go_enter Try.func38, Try.ntmps38
    go_wp2
    go_ret
    exact ⟨rfl, rfl⟩

set_option maxRecDepth 100000 in
set_option maxHeartbeats 1000000 in
theorem runhex_any (s : ByteArray) (w : World) (hs : s.size ≤ 1000000) :
    Calls Try.prog 36 #[.string s] w (UnhexPost w s) := by
  obtain ⟨i0, hi, hz0, hz1, hz2⟩ := info_parts infoB
  have Hi := Lib.hid hi; have Hz0 := Lib.hid hz0; have Hz1 := Lib.hid hz1; have Hz2 := Lib.hid hz2
  clear hi hz0 hz1 hz2
  by_cases hodd : s.size % 2 = 0
  · have Hodd := Lib.hid hodd
    have hne : ((s.size : Int) % 2 != 0) = false := by rw [bne_eq_false_iff_eq]; omega
    clear hodd
    go_enter Try.func36, Try.ntmps36
    have hown := World.ownsRow_nil w w.heap.size 5 1
    have hb0 := Below.refl w.heap.size w
    generalize hg : w.heap.size = g at hown hb0
    have HG := Lib.hid hg; clear hg
    go_wp2
    go_loopw [4, 5] (fun v i wr => ∃ (k : Nat) (a' : Option Addr) (c' : Nat), 2 * k ≤ s.size ∧ i = .int .i64 (2 * (k : Int)) ∧ v = .slice a' k c' ∧ wr.ownsRow g 5 1 (.slice a' k c') k ((pairs s k).map (Value.int .u8)) ∧ Below g w wr ∧ Hid (∀ j, j < k → okAt s j)) (fun _ i _ => s.size - (intOf i).toNat)
    case atStart => exact ⟨0, Option.none, 0, Nat.zero_le _, rfl, rfl, hown, hb0, fun j hj => by omega⟩
    case round =>
      obtain ⟨k, a', c', hk, rfl, rfl, ho, hbel, Hok⟩ := hrel
      clear hown hb0
      have hgs : g ≤ wr.heap.size := by have := hbel.size; have := HG.out; omega
      by_cases hlt : 2 * k < s.size
      · have hlt2 : 2 * k + 1 < s.size := by have := Hodd.out; omega
        have d1 := dig_bd (byteAt s (2 * k))
        have d2 := dig_bd (byteAt s (2 * k + 1))
        have b1 := byteAt_bd s (2 * k)
        have b2 := byteAt_bd s (2 * k + 1)
        have x1 := run_index_str (P := Try.prog) 9 Try.underlying9 s (2 * (k : Int)) (2 * k) (by omega) (by omega)
        have x2 := run_index_str (P := Try.prog) 9 Try.underlying9 s (2 * (k : Int) + 1) (2 * k + 1) (by omega) (by omega)
        have HP : Hid (pairAt s k = dig (byteAt s (2 * k)) * 16 + dig (byteAt s (2 * k + 1))) := rfl
        have HO : Hid (okAt s k ↔ 0 ≤ dig (byteAt s (2 * k)) ∧ 0 ≤ dig (byteAt s (2 * k + 1))) := Iff.rfl
        generalize byteAt s (2 * k) = p at *
        generalize byteAt s (2 * k + 1) = q at *
        by_cases hp : dig p < 0
        · go_wp2
          go_quiet ((go_at_call 38; exact Calls.quiet_of_same (rdigit_any _ _ (by omega) (by omega))))
          go_wp2
          go_ret2
          refine ⟨?_, .inr ⟨fun h => ?_, rfl⟩⟩
          · rw [HG.out]; exact ⟨hbel.os, hbel.tape, hbel.output, hbel.size, hbel.block⟩
          · have := (HO.out.1 (h.2 k (by omega))).1; omega
        · by_cases hq : dig q < 0
          · go_wp2
            go_quiet ((go_at_call 38; exact Calls.quiet_of_same (rdigit_any _ _ (by omega) (by omega))))
            go_wp2
            go_ret2
            refine ⟨?_, .inr ⟨fun h => ?_, rfl⟩⟩
            · rw [HG.out]; exact ⟨hbel.os, hbel.tape, hbel.output, hbel.size, hbel.block⟩
            · have := (HO.out.1 (h.2 k (by omega))).2; omega
          · have hor : bits BinOp.or IntKind.i64 (dig p * 16) (dig q) = dig p * 16 + dig q := or_join_i64 4 _ _ (by omega) (by omega) (by omega) (by omega) (by omega) (by omega)
            go_wp2
            go_quiet ((go_at_call 38; exact Calls.quiet_of_same (rdigit_any _ _ (by omega) (by omega))))
            have ho' : (wr.drewN nq).ownsRow g 5 1 (.slice a' k c') k ((pairs s k).map (Value.int .u8)) := ho
            have hbel' : Below g w (wr.drewN nq) := ⟨hbel.os, hbel.tape, hbel.output, hbel.size, hbel.block⟩
            have hgs' : g ≤ (wr.drewN nq).heap.size := hgs
            clear ho hbel hgs x1 x2
            generalize wr.drewN nq = wq at *
            go_wp2_with (at_builtin; refine wpList_append_reads _ rfl _ _ 61 rfl g 5 i0 (.int .u8 0) 1 Try.underlying61 Hi.out Hz0.out Hz1.out Hz2.out rfl .u8 a' k c' (pairs s k) rfl (World.ownsRow.alloc ho' _) _ 1 1 [dig p * 16 + dig q] rfl (by exact reads_alloc _ [dig p * 16 + dig q] _ _ _ rfl (by unfold maxLen; simp) _ rfl) (by unfold maxLen; omega) (by omega) (by simp; omega) ?_)
            intro a2 c2 w3 ho3 hg3 hn3
            have hb3 : Below g w w3 := below_grown (hbel'.alloc hgs' _) (World.ownsRow.alloc ho' _) hg3 (Nat.le_refl _) (by simp; omega)
            have ho4 : w3.ownsRow g 5 1 (.slice a2 (k + 1) c2) (k + 1) ((pairs s (k + 1)).map (Value.int .u8)) := by rw [pairs_succ, HP.out, List.map_append]; exact ho3
            clear ho3 hg3 hn3 ho' hbel' hor
            go_wp2
            go_roundw
            case rel => exact ⟨k + 1, a2, c2, by omega, by go_num, rfl, ho4, hb3, fun j hj => by
              by_cases e : j = k
              · rw [e]; exact HO.out.2 ⟨by omega, by omega⟩
              · exact Hok.out j (by omega)⟩
            case measure => simp [intOf]; omega
      · have hk2 : k = s.size / 2 := by omega
        go_wp2
        go_ret2
        refine ⟨by rw [HG.out]; exact hbel, .inl ⟨⟨Hodd.out, fun j hj => Hok.out j (by omega)⟩, a', c', by rw [← hk2]; rfl, by rw [HG.out, ← hk2]; exact ho⟩⟩
  · have hne : ((s.size : Int) % 2 != 0) = true := by rw [bne_iff_ne]; omega
    go_enter Try.func36, Try.ntmps36
    go_wp2
    go_ret2
    exact ⟨Below.refl _ _, .inr ⟨fun h => hodd h.1, rfl⟩⟩
end Go.Proofs.Ytbmbelnjgnahhaa
