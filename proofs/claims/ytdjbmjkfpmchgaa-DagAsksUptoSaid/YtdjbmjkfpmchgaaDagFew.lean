/-
  The statements' few, first; the reference's Has.
-/
import Derived.Test.YtdjbmjkfpmchgaaDagBaseW
import Derived.Test.YtdjbmjkfpmchgaaFast
namespace Go.Proofs.Ytdjbmjkfpmchgaa
open Go.RowKit Go.Maps

set_option maxHeartbeats 2000000 in
theorem rhas_any (a : Option Addr) (n cap : Nat) (l : List ByteArray) (x : ByteArray) (w : World) (hr : Strs w a n cap l) :
    Calls Try.prog 24 #[.slice a n cap, .string x] w fun e w' => e = .returned (.bool (decide (x ∈ l))) ∧ w' = w := by
  have HR := Lib.hid hr; have HL := Lib.hid hr.len
  have h63 := hr.n63.1
  clear hr
  go_enter Try.func24, Try.ntmps24
  go_wp2_with fail
  go_loop [5] (fun vi => ∃ i : Nat, i ≤ n ∧ vi = .int .i64 i ∧ Hid (∀ j, j < i → l.getD j ByteArray.empty ≠ x)) (fun vi => n - (intOf vi).toNat)
  case atStart => exact ⟨0, Nat.zero_le _, rfl, Lib.hid fun j h => absurd h (by omega)⟩
  case round =>
    obtain ⟨i, hi, rfl, HJ⟩ := hrel
    by_cases hlt : i < n
    · have i1 : (i : Int) < n := by omega
      have i2 : (0 : Int) ≤ i := by omega
      obtain ⟨b, off, rfl, hbl, hc⟩ := HR.out.cellAt i hlt
      obtain ⟨y, hy⟩ : ∃ y, y = l.getD i ByteArray.empty := ⟨_, rfl⟩
      rw [← hy] at hc
      have HY := Lib.hid hy
      clear hy
      by_cases hxy : y = x
      · subst hxy
        have hxx := str_eq y
        go_wp2_with fail
        go_ret
        exact ⟨by rw [decide_eq_true (by rw [HY.out]; exact getDS_mem (by rw [HL.out]; exact hlt))]; rfl, rfl⟩
      · have hxx := str_ne hxy
        have HN := Lib.hid hxy
        clear hxy
        go_wp2_with fail
        go_round
        case rel => exact ⟨i + 1, by omega, by go_num, Lib.hid fun j hj => by
          by_cases e : j = i
          · subst e; rw [← HY.out]; exact HN.out
          · exact HJ.out j (by omega)⟩
        case measure => simp [intOf]; omega
    · have i1 : ¬ (i : Int) < n := by omega
      go_wp2_with fail
      go_ret
      refine ⟨?_, rfl⟩
      rw [decide_eq_false (fun hm => ?_)]
      · rfl
      · obtain ⟨j, hj, e⟩ := mem_getDS hm
        exact HJ.out j (by have := HL.out; omega) e

/-- What few answers. -/
def FewIs (n : Nat) (e : Ending) : Prop := ∃ b : Bool, e = .returned (.bool b) ∧ (b = true → n ≤ 60)
set_option maxRecDepth 100000 in
set_option maxHeartbeats 4000000 in
theorem few_any (a : Option Addr) (n cap : Nat) (ns : List Nd) (w : World) (hr : NdL w a n cap ns) :
    Calls Try.prog 8 #[.slice a n cap] w fun e w' => FewIs n e ∧ ∃ q, w' = w.drewN q := by
  have HR := Lib.hid hr; have HL := Lib.hid hr.len
  have h63 := hr.n63
  clear hr
  go_enter Try.func8, Try.ntmps8
  go_wp2_with fail
  go_loopw [3, 4] (fun vs vi wr => ∃ (s : Int) (i : Nat) (q : Nat), vs = .int .i64 s ∧ vi = .int .i64 i ∧ i ≤ n ∧ i ≤ 60 ∧ 0 ≤ s ∧ s ≤ i * 1003000 ∧ wr = w.drewN q) (fun _ vi _ => 60 - (intOf vi).toNat)
  case atStart => exact ⟨0, 0, 0, rfl, rfl, Nat.zero_le _, Nat.zero_le _, Int.le_refl _, by omega, rfl⟩
  case round =>
    obtain ⟨s, i, q, rfl, rfl, hi, hi60, hs0, hs, rfl⟩ := hrel
    by_cases hlt : i < n
    · have i1 : (i : Int) < n := by omega
      have i2 : (0 : Int) ≤ i := by omega
      by_cases h60 : i < 60
      · have i3 : (i : Int) < 60 := by omega
        obtain ⟨b0, off, rfl, hb0, hcs⟩ := HR.out.cells (by omega)
        obtain ⟨pa, pc, c0, c1, c2, st⟩ := hcs i hlt
        obtain ⟨nd, hnd⟩ : ∃ nd, nd = ns.getD i default := ⟨_, rfl⟩
        rw [← hnd] at c0 c1 c2 st
        have ST := Lib.hid st
        have hm63 := st.n63
        clear hnd st hcs hb0 c2
        have c0' : ∀ p, (w.drewN p).cell? ⟨b0, off + i * 3, Option.none⟩ = some (.string nd.key) := fun p => c0
        have c1' : ∀ p, (w.drewN p).cell? ⟨b0, off + i * 3 + 1, Option.none⟩ = some (.slice pa nd.ps.length pc) := fun p => c1
        have C0 := Lib.hid c0'; have C1 := Lib.hid c1'
        clear c0 c1 c0' c1'
        generalize hm : nd.ps.length = m at *
        generalize nd.key = kk at *
        go_wp2_with fail
        have c0 : ∀ p, ((w.drewN q).drewN p).cell? ⟨b0, off + i * 3, Option.none⟩ = some (.string kk) := fun p => by rw [drewN_drewN]; exact C0.out _
        have c1 : ∀ p, ((w.drewN q).drewN p).cell? ⟨b0, off + i * 3 + 1, Option.none⟩ = some (.slice pa m pc) := fun p => by rw [drewN_drewN]; exact C1.out _
        obtain ⟨wq, hwq⟩ : ∃ x, x = w.drewN q := ⟨_, rfl⟩
        rw [← hwq] at c0 c1 ⊢
        have HW := Lib.hid hwq
        clear hwq
        go_quiet (fail)
        clear c0 c1
        rw [show wq.drewN nq = w.drewN (q + nq) by rw [HW.out, drewN_drewN]]
        have t0 : 0 ≤ s + min (m : Int) 1000 + min (kk.size : Int) 1000 := by omega
        have t1 : s + min (m : Int) 1000 + min (kk.size : Int) 1000 ≤ i * 1003000 + 2000 := by omega
        generalize s + min (m : Int) 1000 + min (kk.size : Int) 1000 = t at *
        clear HW
        generalize q + nq = q2 at *
        go_wp2_with fail
        go_loopw [3, 5] (fun vs vk wr => ∃ (t : Int) (k : Nat) (q : Nat), vs = .int .i64 t ∧ vk = .int .i64 k ∧ k ≤ m ∧ k ≤ 1000 ∧ 0 ≤ t ∧ t ≤ i * 1003000 + 2000 + k * 1000 ∧ wr = w.drewN q) (fun _ vk _ => 1000 - (intOf vk).toNat)
        case atStart => exact ⟨t, 0, q2, rfl, rfl, Nat.zero_le _, Nat.zero_le _, t0, by omega, rfl⟩
        case round =>
          obtain ⟨t, k, q3, rfl, rfl, hk, hk1, t0, t1, rfl⟩ := hrel
          have c1 := C1.out q3
          by_cases hlt2 : k < m
          · have k1 : (k : Int) < m := by omega
            have k2 : (0 : Int) ≤ k := by omega
            by_cases h10 : k < 1000
            · have k3 : (k : Int) < 1000 := by omega
              obtain ⟨b1, off1, rfl, hb1, d0⟩ := (ST.out.drewN q3).cellAt k hlt2
              generalize nd.ps.getD k ByteArray.empty = p at *
              clear hb1
              have tw : t + min (p.size : Int) 1000 ≤ 9223372036854775807 := by omega
              go_wp2_with fail
              go_roundw
              case rel => exact ⟨_, k + 1, q3, rfl, by go_num, by omega, by omega, by omega, by omega, rfl⟩
              case measure => simp [intOf]; omega
            · have k3 : ¬ (k : Int) < 1000 := by omega
              go_wp2_with fail
              go_roundw
              case rel => exact ⟨t, i + 1, q3, rfl, by go_num, by omega, by omega, by omega, by omega, rfl⟩
              case measure => simp [intOf]; omega
          · have k1 : ¬ (k : Int) < m := by omega
            go_wp2_with fail
            go_roundw
            case rel => exact ⟨t, i + 1, q3, rfl, by go_num, by omega, by omega, by omega, by omega, rfl⟩
            case measure => simp [intOf]; omega
      · have i3 : ¬ (i : Int) < 60 := by omega
        by_cases hle : n ≤ 60
        · have hle' : (n : Int) ≤ 60 := by omega
          go_wp2_with fail
          go_ret
          exact ⟨⟨_, rfl, fun _ => hle⟩, q, rfl⟩
        · have hle' : ¬ (n : Int) ≤ 60 := by omega
          go_wp2_with fail
          go_ret
          exact ⟨⟨false, rfl, fun h => nomatch h⟩, q, rfl⟩
    · have i1 : ¬ (i : Int) < n := by omega
      have hle' : (n : Int) ≤ 60 := by omega
      go_wp2_with fail
      go_ret
      exact ⟨⟨_, rfl, fun _ => by omega⟩, q, rfl⟩
end Go.Proofs.Ytdjbmjkfpmchgaa
