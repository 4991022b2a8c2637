/-
  The statements' own aquref1.Hex.
-/
import Derived.Test.YtmajdgmbcgkelaaDoorWordSg
import Derived.Deep.RegionLaw
import Derived.Deep.QuietTactic
import Derived.BigQuiet
import Derived.OwnWalk
namespace Go.Proofs.YtmajdgmbcgkelaaDoor
open Go.RowKit

theorem infoB : (Tryd.prog.info? 5).map (fun i => (i.zero, i.size, i.bytes)) = some (some (.int .u8 0), 1, 1) := by kernel_rfl
theorem infoN : (Tryd.prog.info? 3).map (fun i => (i.zero, i.size, i.bytes)) = some (some (.int .i64 0), 1, 8) := by kernel_rfl
theorem u8_and15 (x : Int) (h0 : 0 ≤ x) (h1 : x < 256) : bits BinOp.and IntKind.u8 x 15 = x % 16 := by
  have e : (15 : Int) = 2 ^ 4 - 1 := by decide
  rw [e, bits_mask .u8 8 (by decide) (fun n h₀ h₁ => by rw [IntKind.wrap_u8]; omega) 4 (by decide) x h0 (by omega)]
  rfl
/-- A digit's sign. -/
def hexD (n : Int) : Int := if n < 10 then 48 + n else 87 + n
def hexL (xs : List Int) : List Int := xs.flatMap fun x => [hexD (x / 16), hexD (x % 16)]
theorem hexL_snoc (xs : List Int) (x : Int) : hexL (xs ++ [x]) = hexL xs ++ [hexD (x / 16), hexD (x % 16)] := by simp [hexL]
theorem hexL_len (xs : List Int) : (hexL xs).length = 2 * xs.length := by
  induction xs with
  | nil => rfl
  | cons x xs ih => simp only [hexL, List.flatMap_cons, List.length_append, List.length_cons, List.length_nil] at ih ⊢; omega

theorem index_hex (i : Int) (h0 : 0 ≤ i) (h1 : i < 16) (w : World) :
    (Instr.index 9 (.string { data := #[48, 49, 50, 51, 52, 53, 54, 55, 56, 57, 97, 98, 99, 100, 101, 102] }) (.int .u8 i)).run Tryd.prog w = .ok (.int .u8 (hexD i)) w := by
  have : i = 0 ∨ i = 1 ∨ i = 2 ∨ i = 3 ∨ i = 4 ∨ i = 5 ∨ i = 6 ∨ i = 7 ∨ i = 8 ∨ i = 9 ∨ i = 10 ∨ i = 11 ∨ i = 12 ∨ i = 13 ∨ i = 14 ∨ i = 15 := by omega
  rcases this with h | h | h | h | h | h | h | h | h | h | h | h | h | h | h | h <;> (subst h; show _ = _; kernel_rfl)

set_option maxHeartbeats 400000 in
theorem rhex_any (a : Option Addr) (n cap : Nat) (xs : List Int) (w : World) (hr : Reads .u8 w a n cap xs) (hb : isB xs) (hn : n ≤ 1000000) :
    Calls Tryd.prog 46 #[.slice a n cap] w fun e w' => e = .returned (.string (strOfNums (hexL xs))) ∧ Below w.heap.size w w' := by
  obtain ⟨i0, hi, hz0, hz1, hz2⟩ := info_parts infoB
  have Hi := Lib.hid hi; have Hz0 := Lib.hid hz0; have Hz1 := Lib.hid hz1; have Hz2 := Lib.hid hz2
  have Hl := Lib.hid hr.len
  clear hi hz0 hz1 hz2
  go_enter Tryd.func46, Tryd.ntmps46
  have hown := World.ownsRow_nil w w.heap.size 5 1
  have hb0 := Below.refl w.heap.size w
  generalize hg : w.heap.size = g at hown hb0
  have HG := Lib.hid hg; clear hg
  go_wp2
  go_loopw [4, 5] (fun v i wr => ∃ (k : Nat) (a' : Option Addr) (c' : Nat), k ≤ n ∧ i = .int .i64 k ∧ v = .slice a' (2 * k) c' ∧ wr.ownsRow g 5 1 (.slice a' (2 * k) c') (2 * k) ((hexL (xs.take k)).map (Value.int .u8)) ∧ Below g w wr) (fun _ i _ => n - (intOf i).toNat)
  case atStart => exact ⟨0, Option.none, 0, Nat.zero_le _, rfl, rfl, hown, hb0⟩
  case round =>
    obtain ⟨k, a', c', hk, rfl, rfl, ho, hbel⟩ := hrel
    clear hown hb0
    by_cases hlt : k < n
    · have hgs : g ≤ wr.heap.size := by have := hbel.size; have := HG.out; omega
      have hr' : Reads .u8 wr a n cap xs := hr.below (by rw [HG.out]; exact hbel)
      obtain ⟨b, off, rfl, _, hc⟩ := hr'.cells (by omega)
      have hck := hc k hlt
      have hx := hb.get k (by rw [Hl.out]; exact hlt)
      have HS : Hid (hexL (xs.take (k + 1)) = hexL (xs.take k) ++ [hexD (xs.getD k 0 / 16), hexD (xs.getD k 0 % 16)]) := by rw [take_getD xs k (by rw [Hl.out]; exact hlt), hexL_snoc]; rfl
      clear hc hb
      generalize xs.getD k 0 = x at *
      have hx15 : bits BinOp.and IntKind.u8 x 15 = x % 16 := u8_and15 x hx.1 hx.2
      have i1 := index_hex (x / 16) (by omega) (by omega)
      have i2 := index_hex (x % 16) (by omega) (by omega)
      generalize hexD (x / 16) = h1 at *
      generalize hexD (x % 16) = h2 at *
      go_wp2
      go_region_law (refine step_append_reads _ rfl _ _ 40 rfl g 5 i0 (.int .u8 0) 1 Tryd.underlying40 Hi.out Hz0.out Hz1.out Hz2.out rfl .u8 a' (2 * k) c' (hexL (xs.take k)) rfl (World.ownsRow.drew (World.ownsRow.alloc ho _)) _ 2 2 [h1, h2] rfl (by exact Reads.drew (reads_alloc _ [h1, h2] _ _ _ rfl (by unfold maxLen; simp) _ rfl)) (by unfold maxLen; omega) (by omega) (by simp; omega) ?_; intro a2 c2 w3 ho3 hg3 hn3)
      all_goals
        have hb3 : Below g w w3 := below_grown ((hbel.alloc hgs _).drew) (World.ownsRow.drew (World.ownsRow.alloc ho _)) hg3 (Nat.le_refl _) (by simp; omega)
        rw [← HS.out] at ho3
        clear hg3 hn3 ho hbel i1 i2
        go_wp2
        go_roundw
        case rel => exact ⟨k + 1, a2, c2, by omega, by go_num, rfl, ho3, hb3⟩
        case measure => simp [intOf]; omega
    · obtain rfl : k = n := by omega
      rw [List.take_of_length_le (by rw [Hl.out]; exact Nat.le_refl _)] at ho
      have hs := run_bytes_string (reads_of_owns ho) 40 5 Tryd.underlying40 Tryd.underlying5 9 Tryd.underlying9
      go_wp2
      go_ret
      refine ⟨rfl, ?_⟩
      first | exact hbel | (rw [HG.out]; exact hbel)
end Go.Proofs.YtmajdgmbcgkelaaDoor
