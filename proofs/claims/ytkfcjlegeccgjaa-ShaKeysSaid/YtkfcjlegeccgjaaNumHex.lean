/-
  Contracts of num.Hex, num.Unhex and of the statements' own aquref1.Hex, aquref1.Unhex.
-/
import Derived.Test.YtkfcjlegeccgjaaNumBase
import Derived.Deep.RegionLaw
import Derived.Deep.QuietTactic
import Derived.BigQuiet
namespace Go.Proofs.Ytkfcjlegeccgjaa
open Go.RowKit

/-- A digit's sign. -/
def hexD (n : Int) : Int := if n < 10 then 48 + n else 87 + n
def hexL (xs : List Int) : List Int := xs.flatMap fun x => [hexD (x / 16), hexD (x % 16)]
theorem hexL_snoc (xs : List Int) (x : Int) : hexL (xs ++ [x]) = hexL xs ++ [hexD (x / 16), hexD (x % 16)] := by simp [hexL]
theorem hexL_len (xs : List Int) : (hexL xs).length = 2 * xs.length := by
  induction xs with
  | nil => rfl
  | cons x xs ih => simp only [hexL, List.flatMap_cons, List.length_append, List.length_cons, List.length_nil] at ih ⊢; omega

theorem index_hex (i : Int) (h0 : 0 ≤ i) (h1 : i < 16) (w : World) :
    (Instr.index 9 (.string { data := #[48, 49, 50, 51, 52, 53, 54, 55, 56, 57, 97, 98, 99, 100, 101, 102] }) (.int .u8 i)).run Try.prog w = .ok (.int .u8 (hexD i)) w := by
  have : i = 0 ∨ i = 1 ∨ i = 2 ∨ i = 3 ∨ i = 4 ∨ i = 5 ∨ i = 6 ∨ i = 7 ∨ i = 8 ∨ i = 9 ∨ i = 10 ∨ i = 11 ∨ i = 12 ∨ i = 13 ∨ i = 14 ∨ i = 15 := by omega
  rcases this with h | h | h | h | h | h | h | h | h | h | h | h | h | h | h | h <;> (subst h; show _ = _; kernel_rfl)

set_option maxHeartbeats 400000 in
theorem hex_any (a : Option Addr) (n cap : Nat) (xs : List Int) (w : World) (hr : Reads .u8 w a n cap xs) (hb : isB xs) (hn : n ≤ 1000000) :
    Calls Try.prog 21 #[.slice a n cap] w fun e w' => e = .returned (.string (strOfNums (hexL xs))) ∧ Below w.heap.size w w' := by
  obtain ⟨i0, hi, hz0, hz1, hz2⟩ := info_parts infoB
  have Hi := Lib.hid hi; have Hz0 := Lib.hid hz0; have Hz1 := Lib.hid hz1; have Hz2 := Lib.hid hz2
  have Hl := Lib.hid hr.len
  clear hi hz0 hz1 hz2
  have hmk : ((2 : Int) * n) = ((2 * n : Nat) : Int) := by omega
  have Hmk := Lib.hid hmk; clear hmk
  go_enter Try.func21, Try.ntmps21
  go_wp2_with (at_make; refine wpList_make_own _ rfl _ _ 22 rfl w.heap.size 5 i0 (.int .u8 0) 1 Try.underlying22 Hi.out Hz0.out Hz1.out _ _ _ (2 * n) rfl rfl Hmk.out (by rw [Hz2.out]; omega) (by unfold maxLen; omega) (Nat.le_refl _) ?_)
  intro w2 hown hgrow
  have hb0 : Below w.heap.size w w2 := (Below.refl _ _).grown hgrow (Nat.le_refl _) (fun k h => nomatch h)
  clear hgrow
  generalize hg : w.heap.size = g at *
  have HG := Lib.hid hg; clear hg
  go_wp2
  go_loopw [3, 12] (fun v i wr => ∃ (k : Nat) (a' : Option Addr) (c' : Nat), k ≤ n ∧ i = .int .i64 k ∧ v = .slice a' (2 * k) c' ∧ wr.ownsRow g 5 1 (.slice a' (2 * k) c') (2 * k) ((hexL (xs.take k)).map (Value.int .u8)) ∧ Below g w wr) (fun _ i _ => n - (intOf i).toNat)
  case atStart => exact ⟨0, some ⟨g, 0, none⟩, 2 * n, Nat.zero_le _, rfl, rfl, hown, hb0⟩
  case round =>
    obtain ⟨k, a', c', hk, rfl, rfl, ho, hbel⟩ := hrel
    clear hown hb0
    by_cases hlt : k < n
    · have hgs : g ≤ wr.heap.size := by have := hbel.size; have := HG.out; omega
      have hr' : Reads .u8 wr a n cap xs := hr.below (by rw [HG.out]; exact hbel)
      obtain ⟨b, off, rfl, _, hc⟩ := hr'.cells (by omega)
      have hck := hc k hlt
      have hx := hb.get k (by rw [Hl.out]; exact hlt)
      have HS : Hid (hexL (xs.take (k + 1)) = hexL (xs.take k) ++ [hexD (xs.getD k 0 / 16), hexD (xs.getD k 0 % 16)]) := by rw [take_getD xs k (by rw [Hl.out]; exact hlt), hexL_snoc]; rfl
      clear hc hb
      generalize xs.getD k 0 = x at *
      have hx15 : bits BinOp.and IntKind.u8 x 15 = x % 16 := u8_and15 x hx.1 hx.2
      have i1 := index_hex (x / 16) (by omega) (by omega)
      have i2 := index_hex (x % 16) (by omega) (by omega)
      generalize hexD (x / 16) = h1 at *
      generalize hexD (x % 16) = h2 at *
      go_wp2
      go_region_law (refine step_append_reads _ rfl _ _ 22 rfl g 5 i0 (.int .u8 0) 1 Try.underlying22 Hi.out Hz0.out Hz1.out Hz2.out rfl .u8 a' (2 * k) c' (hexL (xs.take k)) rfl (World.ownsRow.drew (World.ownsRow.alloc ho _)) _ 2 2 [h1, h2] rfl (by exact Reads.drew (reads_alloc _ [h1, h2] _ _ _ rfl (by unfold maxLen; simp) _ rfl)) (by unfold maxLen; omega) (by omega) (by simp; omega) ?_; intro a2 c2 w3 ho3 hg3 hn3)
      all_goals
        have hb3 : Below g w w3 := below_grown ((hbel.alloc hgs _).drew) (World.ownsRow.drew (World.ownsRow.alloc ho _)) hg3 (Nat.le_refl _) (by simp; omega)
        rw [← HS.out] at ho3
        clear hg3 hn3 ho hbel i1 i2
        go_wp2
        go_roundw
        case rel => exact ⟨k + 1, a2, c2, by omega, by go_num, rfl, ho3, hb3⟩
        case measure => simp [intOf]; omega
    · obtain rfl : k = n := by omega
      rw [List.take_of_length_le (by rw [Hl.out]; exact Nat.le_refl _)] at ho
      have hs := run_bytes_string (reads_of_owns ho) 22 5 Try.underlying22 Try.underlying5 9 Try.underlying9
      go_wp2
      go_ret
      refine ⟨rfl, ?_⟩
      rw [HG.out]
      exact hbel

/-- What a digit stands for; -1: it is none. -/
def dig (c : Int) : Int := if 48 ≤ c ∧ c ≤ 57 then c - 48 else if 97 ≤ c ∧ c ≤ 102 then c - 87 else -1
theorem dig_bd (c : Int) : -1 ≤ dig c ∧ dig c < 16 := by unfold dig; split <;> (try split) <;> omega
theorem digit_any (c : Int) (w : World) (h0 : 0 ≤ c) (h1 : c < 256) :
    Calls Try.prog 24 #[.int .u8 c] w fun e w' => e = .returned (.int .i64 (dig c)) ∧ w' = w := by
  unfold dig
  by_cases a1 : 48 ≤ c
  · by_cases a2 : c ≤ 57
    · rw [if_pos ⟨a1, a2⟩]
      go_enter Try.func24, Try.ntmps24
      go_wp2
      go_ret
      exact ⟨rfl, rfl⟩
    · rw [if_neg (by omega)]
      by_cases a3 : 97 ≤ c
      · by_cases a4 : c ≤ 102
        · rw [if_pos ⟨a3, a4⟩]
          go_enter Try.func24, Try.ntmps24
          go_wp2
          go_ret
          exact ⟨by simp; omega, rfl⟩
        · rw [if_neg (by omega)]
          go_enter Try.func24, Try.ntmps24
          go_wp2
          go_ret
          exact ⟨rfl, rfl⟩
      · rw [if_neg (by omega)]
        go_enter Try.func24, Try.ntmps24
        go_wp2
        go_ret
        exact ⟨rfl, rfl⟩
  · rw [if_neg (by omega), if_neg (by omega)]
    have a3 : ¬ 97 ≤ c := by omega
    go_enter Try.func24, Try.ntmps24
    go_wp2
    go_ret
    exact ⟨rfl, rfl⟩

def pairAt (s : ByteArray) (j : Nat) : Int := dig (byteAt s (2 * j)) * 16 + dig (byteAt s (2 * j + 1))
def pairs (s : ByteArray) (k : Nat) : List Int := (List.range k).map (pairAt s)
theorem pairs_succ (s : ByteArray) (k : Nat) : pairs s (k + 1) = pairs s k ++ [pairAt s k] := by simp [pairs, List.range_succ]
theorem pairs_len (s : ByteArray) (k : Nat) : (pairs s k).length = k := by simp [pairs]
def okAt (s : ByteArray) (j : Nat) : Prop := 0 ≤ dig (byteAt s (2 * j)) ∧ 0 ≤ dig (byteAt s (2 * j + 1))
def hexOk (s : ByteArray) : Prop := s.size % 2 = 0 ∧ ∀ j, j < s.size / 2 → okAt s j
def UnhexPost (w : World) (s : ByteArray) (e : Ending) (w' : World) : Prop :=
  Below w.heap.size w w' ∧ ((hexOk s ∧ ∃ a cap, e = .returned (.tuple #[.slice a (s.size / 2) cap, .bool true]) ∧ w'.ownsRow w.heap.size 5 1 (.slice a (s.size / 2) cap) (s.size / 2) ((pairs s (s.size / 2)).map (Value.int .u8))) ∨
    (¬ hexOk s ∧ e = .returned (.tuple #[.slice Option.none 0 0, .bool false])))

set_option maxHeartbeats 1000000 in
theorem unhex_any (s : ByteArray) (w : World) (hs : s.size ≤ 1000000) :
    Calls Try.prog 14 #[.string s] w (UnhexPost w s) := by
  obtain ⟨i0, hi, hz0, hz1, hz2⟩ := info_parts infoB
  have Hi := Lib.hid hi; have Hz0 := Lib.hid hz0; have Hz1 := Lib.hid hz1; have Hz2 := Lib.hid hz2
  clear hi hz0 hz1 hz2
  by_cases hodd : s.size % 2 = 0
  · have Hodd := Lib.hid hodd
    have hne : ((s.size : Int) % 2 != 0) = false := by rw [bne_eq_false_iff_eq]; omega
    have Hmk : Hid (((s.size : Int) / 2) = ((s.size / 2 : Nat) : Int)) := by unfold Hid; omega
    clear hodd
    go_enter Try.func14, Try.ntmps14
    go_wp2_with (at_make; refine wpList_make_own _ rfl _ _ 22 rfl w.heap.size 5 i0 (.int .u8 0) 1 Try.underlying22 Hi.out Hz0.out Hz1.out _ _ _ (s.size / 2) rfl rfl Hmk.out (by rw [Hz2.out]; omega) (by unfold maxLen; omega) (Nat.le_refl _) ?_)
    intro w2 hown hgrow
    have hb0 : Below w.heap.size w w2 := (Below.refl _ _).grown hgrow (Nat.le_refl _) (fun k h => nomatch h)
    clear hgrow
    generalize hg : w.heap.size = g at *
    have HG := Lib.hid hg; clear hg
    go_wp2
    go_loopw [4, 5] (fun v i wr => ∃ (k : Nat) (a' : Option Addr) (c' : Nat), 2 * k ≤ s.size ∧ i = .int .i64 (2 * (k : Int)) ∧ v = .slice a' k c' ∧ wr.ownsRow g 5 1 (.slice a' k c') k ((pairs s k).map (Value.int .u8)) ∧ Below g w wr ∧ Hid (∀ j, j < k → okAt s j)) (fun _ i _ => s.size - (intOf i).toNat)
    case atStart => exact ⟨0, some ⟨g, 0, Option.none⟩, s.size / 2, Nat.zero_le _, rfl, rfl, hown, hb0, fun j hj => by omega⟩
    case round =>
      obtain ⟨k, a', c', hk, rfl, rfl, ho, hbel, Hok⟩ := hrel
      clear hown hb0
      have hgs : g ≤ wr.heap.size := by have := hbel.size; have := HG.out; omega
      by_cases hlt : 2 * k < s.size
      · have hlt2 : 2 * k + 1 < s.size := by have := Hodd.out; omega
        have d1 := dig_bd (byteAt s (2 * k))
        have d2 := dig_bd (byteAt s (2 * k + 1))
        have b1 := byteAt_bd s (2 * k)
        have b2 := byteAt_bd s (2 * k + 1)
        have x1 := run_index_str (P := Try.prog) 9 Try.underlying9 s (2 * (k : Int)) (2 * k) (by omega) (by omega)
        have x2 := run_index_str (P := Try.prog) 9 Try.underlying9 s (2 * (k : Int) + 1) (2 * k + 1) (by omega) (by omega)
        have HP : Hid (pairAt s k = dig (byteAt s (2 * k)) * 16 + dig (byteAt s (2 * k + 1))) := rfl
        have HO : Hid (okAt s k ↔ 0 ≤ dig (byteAt s (2 * k)) ∧ 0 ≤ dig (byteAt s (2 * k + 1))) := Iff.rfl
        generalize byteAt s (2 * k) = p at *
        generalize byteAt s (2 * k + 1) = q at *
        by_cases hp : dig p < 0
        · go_wp2
          go_quiet ((go_at_call 24; exact Calls.quiet_of_same (digit_any _ _ (by omega) (by omega))))
          go_wp2
          go_ret2
          refine ⟨?_, .inr ⟨fun h => ?_, rfl⟩⟩
          · rw [HG.out]; exact ⟨hbel.os, hbel.tape, hbel.output, hbel.size, hbel.block⟩
          · have := (HO.out.1 (h.2 k (by omega))).1; omega
        · by_cases hq : dig q < 0
          · go_wp2
            go_quiet ((go_at_call 24; exact Calls.quiet_of_same (digit_any _ _ (by omega) (by omega))))
            go_wp2
            go_ret2
            refine ⟨?_, .inr ⟨fun h => ?_, rfl⟩⟩
            · rw [HG.out]; exact ⟨hbel.os, hbel.tape, hbel.output, hbel.size, hbel.block⟩
            · have := (HO.out.1 (h.2 k (by omega))).2; omega
          · have hor : bits BinOp.or IntKind.i64 (dig p * 16) (dig q) = dig p * 16 + dig q := or_join_i64 4 _ _ (by omega) (by omega) (by omega) (by omega) (by omega) (by omega)
            go_wp2
            go_quiet ((go_at_call 24; exact Calls.quiet_of_same (digit_any _ _ (by omega) (by omega))))
            have ho' : (wr.drewN nq).ownsRow g 5 1 (.slice a' k c') k ((pairs s k).map (Value.int .u8)) := ho
            have hbel' : Below g w (wr.drewN nq) := ⟨hbel.os, hbel.tape, hbel.output, hbel.size, hbel.block⟩
            have hgs' : g ≤ (wr.drewN nq).heap.size := hgs
            clear ho hbel hgs x1 x2
            generalize wr.drewN nq = wq at *
            go_wp2_with (at_builtin; refine wpList_append_reads _ rfl _ _ 22 rfl g 5 i0 (.int .u8 0) 1 Try.underlying22 Hi.out Hz0.out Hz1.out Hz2.out rfl .u8 a' k c' (pairs s k) rfl (World.ownsRow.alloc ho' _) _ 1 1 [dig p * 16 + dig q] rfl (by exact reads_alloc _ [dig p * 16 + dig q] _ _ _ rfl (by unfold maxLen; simp) _ rfl) (by unfold maxLen; omega) (by omega) (by simp; omega) ?_)
            intro a2 c2 w3 ho3 hg3 hn3
            have hb3 : Below g w w3 := below_grown (hbel'.alloc hgs' _) (World.ownsRow.alloc ho' _) hg3 (Nat.le_refl _) (by simp; omega)
            have ho4 : w3.ownsRow g 5 1 (.slice a2 (k + 1) c2) (k + 1) ((pairs s (k + 1)).map (Value.int .u8)) := by rw [pairs_succ, HP.out, List.map_append]; exact ho3
            clear ho3 hg3 hn3 ho' hbel' hor
            go_wp2
            go_roundw
            case rel => exact ⟨k + 1, a2, c2, by omega, by go_num, rfl, ho4, hb3, fun j hj => by
              by_cases e : j = k
              · rw [e]; exact HO.out.2 ⟨by omega, by omega⟩
              · exact Hok.out j (by omega)⟩
            case measure => simp [intOf]; omega
      · have hk2 : k = s.size / 2 := by omega
        go_wp2
        go_ret2
        refine ⟨by rw [HG.out]; exact hbel, .inl ⟨⟨Hodd.out, fun j hj => Hok.out j (by omega)⟩, a', c', by rw [← hk2]; rfl, by rw [HG.out, ← hk2]; exact ho⟩⟩
  · have hne : ((s.size : Int) % 2 != 0) = true := by rw [bne_iff_ne]; omega
    go_enter Try.func14, Try.ntmps14
    go_wp2
    go_ret2
    exact ⟨Below.refl _ _, .inr ⟨fun h => hodd h.1, rfl⟩⟩
end Go.Proofs.Ytkfcjlegeccgjaa
