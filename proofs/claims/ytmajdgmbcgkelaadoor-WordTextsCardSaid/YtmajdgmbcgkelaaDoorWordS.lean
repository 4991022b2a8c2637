/-
  word.Words.
-/
import Derived.Test.YtmajdgmbcgkelaaDoorWordR
import Derived.Test.YtmajdgmbcgkelaaDoorReadsA
namespace Go.Proofs.YtmajdgmbcgkelaaDoor
open Go.RowKit
open Go.Lib (decodeL validD encodeRune decodeL_width)

/-- A list of bytes as a text. -/
def mkS (l : List UInt8) : ByteArray := ⟨l.toArray⟩

theorem wordsF_step (n : Nat) (acc : List (List UInt8)) (l : List UInt8) : wordsF (n + 1) acc l = if blanks l = [] then .ok acc
    else match plainL (blanks l) with
      | none => .bad (blanks l) 4
      | some _ => if acc.length = 50 then .bad (blanks l) 17 else match readL (blanks l) with
        | .ok w rest => wordsF n (acc ++ [w]) rest
        | .bad rest c => .bad rest c := rfl

/-- What Words hands back: a list that it owns, or nothing. -/
def ansWs (B : Nat) (N : Nat) (r : WsRes) (e : Ending) (w' : World) : Prop :=
  match r with
  | .ok ws => ∃ a cap, e = .returned (.tuple #[.slice a ws.length cap, .int .i64 0, .int .i64 0]) ∧ w'.ownsRow B 9 1 (.slice a ws.length cap) ws.length ((ws.map mkS).map Value.string)
  | .bad rest c => e = .returned (.tuple #[.slice none 0 0, .int .i64 ((N - rest.length : Nat) : Int), .int .i64 (c : Nat)])

theorem blanks_drop (s : ByteArray) (p : Nat) (hp : p < s.size) (h : (s.data.toList.drop p).headD 0 = 32) : blanks (s.data.toList.drop (p + 1)) = blanks (s.data.toList.drop p) := by
  have hl : p < s.data.toList.length := by rw [← Lib.size_eq]; exact hp
  rw [List.drop_eq_getElem_cons hl] at h ⊢
  simp only [List.headD_cons] at h
  rw [h, blanks_cons]
theorem blanks_stop (l : List UInt8) (hne : l ≠ []) (h : l.headD 0 ≠ 32) : blanks l = l := by
  cases l with
  | nil => exact absurd rfl hne
  | cons b t => exact blanks_head b t h

set_option maxRecDepth 100000 in
set_option maxHeartbeats 4000000 in
theorem words_any (s : ByteArray) (w : World) (hs : s.size ≤ 100000000) (hT : Tabs w) :
    Calls Tryd.prog 21 #[.string s] w fun e w' => ansWs w.heap.size s.size (wordsL s.data.toList) e w' ∧ Below w.heap.size w w' := by
  obtain ⟨i0, hi0, hz0, hz1, hz2⟩ : ∃ i, Tryd.prog.info? 9 = some i ∧ i.zero = some (.string ByteArray.empty) ∧ i.size = 1 ∧ i.bytes = 16 := ⟨_, rfl, by kernel_rfl, by kernel_rfl, by kernel_rfl⟩
  have Hi := Lib.hid hi0; have Hz0 := Lib.hid hz0; have Hz1 := Lib.hid hz1; have Hz2 := Lib.hid hz2
  clear hi0 hz0 hz1 hz2
  obtain ⟨U, hU⟩ : ∃ U, wordsL s.data.toList = U := ⟨_, rfl⟩
  rw [hU]
  have h0 : Hid (wordsF (s.size + 1) [] (s.data.toList.drop 0) = U) := Lib.hid (by rw [List.drop_zero, Lib.size_eq]; exact hU)
  have kI := Lib.hid (fun (j : Nat) (h : j < s.size) (w : World) => run_index_str (P := Tryd.prog) 9 Tryd.underlying9 s (j : Int) j rfl h w)
  have HS := Lib.hid hs
  have HT := Lib.hid hT
  clear hU hs hT
  go_enter Tryd.func21, Tryd.ntmps21
  go_wp2_with fail
  go_loopw [5, 6] (fun vw vp wr => ∃ (p f : Nat) (acc : List (List UInt8)) (a : Option Addr) (cap : Nat), vp = .int .i64 p ∧ vw = .slice a acc.length cap ∧ Hid (p ≤ s.size) ∧ Hid (wr.ownsRow w.heap.size 9 1 (.slice a acc.length cap) acc.length ((acc.map mkS).map Value.string)) ∧ Hid (Below w.heap.size w wr) ∧ Hid (wordsF f acc (s.data.toList.drop p) = U) ∧ Hid (s.size < p + f) ∧ Hid (acc.length ≤ p)) (fun _ vp _ => s.size - (intOf vp).toNat)
  case atStart => exact ⟨0, s.size + 1, [], none, 0, rfl, rfl, Lib.hid (Nat.zero_le _), Lib.hid (World.ownsRow_nil _ _ _ _), Lib.hid (Below.refl _ _), h0, Lib.hid (by omega), Lib.hid (by simp)⟩
  case round =>
    obtain ⟨p, f, acc, a, cap, rfl, rfl, HP, HO, HB, HU, HF, HA⟩ := hrel
    clear h0
    go_wp2_with fail
    go_loopw [6] (fun vp wi => ∃ q : Nat, vp = .int .i64 q ∧ wi = wr ∧ Hid (p ≤ q ∧ q ≤ s.size) ∧ Hid (blanks (s.data.toList.drop q) = blanks (s.data.toList.drop p))) (fun vp _ => s.size - (intOf vp).toNat)
    case atStart => exact ⟨p, rfl, rfl, Lib.hid ⟨Nat.le_refl _, HP.out⟩, Lib.hid rfl⟩
    case round =>
      obtain ⟨q, rfl, rfl, HQ, HBl⟩ := hrel
      by_cases hlt : q < s.size
      · have hb := head_byte s q hlt
        have ki := kI.out q hlt
        rw [hb] at ki
        have hne := drop_ne s q hlt
        obtain ⟨x, hx⟩ : ∃ x : Nat, ((s.data.toList.drop q).headD 0).toNat = x := ⟨_, rfl⟩
        rw [hx] at ki
        have h32 : ((s.data.toList.drop q).headD 0 = 32) = (x = 32) := by
          rw [← hx]; exact propext ⟨fun h => by rw [h]; rfl, fun h => UInt8.toNat_inj.1 (by rw [h]; rfl)⟩
        have hlt' : (q : Int) < (s.size : Int) := by omega
        by_cases hb32 : x = 32
        · subst hb32
          have e := blanks_drop s q hlt (by rw [h32])
          have HB2 := Lib.hid (e.trans HBl.out)
          have q1 := Lib.hid (show p ≤ q + 1 ∧ q + 1 ≤ s.size from ⟨by have := HQ.out.1; omega, hlt⟩)
          have q3 := Lib.hid (show s.size - (q + 1) < s.size - q by omega)
          have hpk : (q : Int) + 1 ≤ 9223372036854775807 := by have := HS.out; omega
          clear e h32 hx hb hne
          go_wp2
          go_roundw
          case rel => exact ⟨q + 1, by simp, trivial, q1, HB2⟩
          case measure =>
            have e1 : ((q : Int) + 1).toNat = q + 1 := by omega
            simp only [intOf, e1, Int.toNat_natCast]
            exact q3.out
        · -- a word begins
          have k32 : ((x : Int) == 32) = false := by simp; omega
          have hst := blanks_stop _ hne (by rw [ne_eq, h32]; exact hb32)
          have hqe : ¬ (q : Int) = (s.size : Int) := by omega
          obtain ⟨hq0, hqs⟩ := HQ.out
          have hfu := HF.out
          obtain ⟨m, rfl⟩ : ∃ m, f = m + 1 := ⟨f - 1, by omega⟩
          have hu := HU.out
          rw [wordsF_step, ← HBl.out, hst, if_neg hne] at hu
          have hlen := Lib.hid (show s.size - (s.data.toList.drop q).length = q by rw [List.length_drop, ← Lib.size_eq]; omega)
          have cP := plain_any s q hlt _ HS.out (HT.out.below HB.out)
          have cR := fun (w1 : World) (h : Tabs w1) => readWord_any s q hlt w1 HS.out h
          have hrest := Lib.hid (readL_rest _ hne (by rw [ne_eq, h32]; exact hb32))
          have HQ2 := Lib.hid (show p ≤ q ∧ q < s.size ∧ s.size < p + (m + 1) from ⟨hq0, hlt, hfu⟩)
          have HU2 := Lib.hid hu
          clear hu hfu hq0 hqs hst h32 hx hb hne hlt hb32
          go_wp2_with fail
          refine cP.mono ?_; rintro e w3 ⟨⟨hn, rfl⟩ | ⟨k, hk, hk1, hk2, rfl⟩, hb3⟩
          · have hB3 := below_size HB.out hb3
            have hu := HU2.out
            rw [hn] at hu
            have HU3 := Lib.hid hu
            clear hu hn cP hb3
            go_wp2
            go_returns
            exact ⟨by rw [← HU3.out]; simp only [ansWs, hlen.out]; rfl, hB3⟩
          · have HB3 := Lib.hid (below_size HB.out hb3)
            have HO3 := Lib.hid (owns_below HO.out hb3)
            have hu := HU2.out
            rw [hk] at hu
            simp only at hu
            clear hk cP hb3 hk1 hk2
            by_cases h50 : acc.length = 50
            · rw [if_pos h50] at hu
              have HU3 := Lib.hid hu
              have h50' : ((acc.length : Int) == 50) = true := by simp; omega
              have hB3 := HB3.out
              clear hu h50
              go_wp2
              go_returns
              exact ⟨by rw [← HU3.out]; simp only [ansWs, hlen.out]; rfl, hB3⟩
            · rw [if_neg h50] at hu
              have h50' : ((acc.length : Int) == 50) = false := by simp; omega
              have h51 : ¬ (acc.length : Int) = 50 := by omega
              have cR2 := cR w3 (HT.out.below HB3.out)
              obtain ⟨R, hR⟩ : ∃ R, readL (s.data.toList.drop q) = R := ⟨_, rfl⟩
              rw [hR] at hu cR2
              have hr2 := hrest.out
              rw [hR] at hr2
              clear hR hrest cR h50
              cases R with
              | bad rest c =>
                obtain ⟨hc, _⟩ := hr2.2 rest c rfl
                have kc : ((c : Int) != 0) = true := by simp; omega
                have kc2 : ¬ (c : Int) = 0 := by omega
                simp only at hu
                have HU3 := Lib.hid hu
                simp only [resW] at cR2
                clear hu hr2 hc
                go_wp2_with fail
                refine cR2.mono ?_; rintro e w4 ⟨rfl, hb4⟩
                have hB4 := below_size HB3.out hb4
                clear cR2 hb4
                go_wp2
                go_returns
                exact ⟨by rw [← HU3.out]; rfl, hB4⟩
              | ok w0 rest =>
                obtain ⟨j, hj1, hj2, hj3⟩ := hr2.1 w0 rest rfl
                simp only at hu
                have hln : (s.data.toList.drop q).length = s.size - q := by rw [List.length_drop, ← Lib.size_eq]
                rw [hln] at hj2
                have hrl : s.size - rest.length = q + j := by
                  rw [hj3, List.drop_drop, List.length_drop, ← Lib.size_eq]; have := HQ2.out; omega
                have hrd : rest = s.data.toList.drop (q + j) := by rw [hj3, List.drop_drop]
                rw [hrd] at hu
                have HU3 := Lib.hid hu
                simp only [resW, hrl] at cR2
                have q1 := Lib.hid (show q + j ≤ s.size by have := HQ2.out; omega)
                have q2 := Lib.hid (show s.size < q + j + m by have := HQ2.out; omega)
                have q3 := Lib.hid (show s.size - (q + j) < s.size - p by have := HQ2.out; omega)
                have q4 := Lib.hid (show (acc ++ [w0]).length ≤ q + j by have := HA.out; have := HQ2.out; simp only [List.length_append, List.length_cons, List.length_nil]; omega)
                have q5 := Lib.hid (show acc.length ≤ 100000000 by have := HA.out; have := HQ2.out; have := HS.out; omega)
                clear hu hr2 hrd hrl hln hj1 hj2 hj3
                generalize q + j = q' at *
                go_wp2_with fail
                refine cR2.mono ?_; rintro e w4 ⟨rfl, hb4⟩
                have HB4 := Lib.hid (below_size HB3.out hb4)
                have HO4 := Lib.hid (owns_below HO3.out hb4)
                have hBw := HB4.out.size
                clear cR2 hb4
                go_wp2_with (at_builtin; refine wpList_append_readsA (f := Value.string) (d := ByteArray.empty) _ str_one rfl _ _ 31 rfl w.heap.size 9 i0 (.string ByteArray.empty) 16 Tryd.underlying31 Hi.out Hz0.out Hz1.out Hz2.out rfl a acc.length cap (acc.map mkS) rfl (owns_below HO4.out ((Below.refl _ _).alloc (Nat.le_refl _) _)) (some ⟨w4.heap.size, 0, none⟩) 1 1 [mkS w0] rfl (readsA_alloc ByteArray.empty w4 [mkS w0] #[.string (mkS w0)] _ _ rfl (show 1 ≤ maxLen by decide) 1 rfl) (by have := q5.out; unfold maxLen; omega) (by have := q5.out; omega) (by simp; omega) ?_)
                intro a5 cap5 w5 ho5 hg5
                have HB5 := Lib.hid (below_grown (HB4.out.alloc hBw _) (owns_below HO4.out ((Below.refl _ _).alloc (Nat.le_refl _) _)) hg5 (Nat.le_refl _) (by simp; omega))
                have HO5 : Hid (w5.ownsRow w.heap.size 9 1 (.slice a5 (acc ++ [w0]).length cap5) (acc ++ [w0]).length (((acc ++ [w0]).map mkS).map Value.string)) := Lib.hid (by
                  simp only [List.length_append, List.length_cons, List.length_nil, List.map_append, List.map_cons, List.map_nil, List.map_map, Nat.zero_add] at ho5 ⊢
                  exact ho5)
                clear ho5 hg5
                go_wp2
                go_roundw
                case rel => exact ⟨q', m, acc ++ [w0], a5, cap5, rfl, by simp, q1, HO5, HB5, HU3, q2, q4⟩
                case measure =>
                  simp only [intOf, Int.toNat_natCast]
                  exact q3.out
      · have hlt' : ¬ (q : Int) < (s.size : Int) := by omega
        obtain ⟨hq0, hqs⟩ := HQ.out
        have hqe : (q : Int) = (s.size : Int) := by omega
        have hfu := HF.out
        obtain ⟨m, rfl⟩ : ∃ m, f = m + 1 := ⟨f - 1, by omega⟩
        have hu := HU.out
        rw [wordsF_step, ← HBl.out, drop_end s q hlt, if_pos (by rfl)] at hu
        have HU3 := Lib.hid hu
        have hB := HB.out
        have hO := Lib.hid HO.out
        clear hu hfu
        go_wp2
        go_returns
        exact ⟨by rw [← HU3.out]; exact ⟨a, cap, rfl, hO.out⟩, hB⟩
end Go.Proofs.YtmajdgmbcgkelaaDoor
