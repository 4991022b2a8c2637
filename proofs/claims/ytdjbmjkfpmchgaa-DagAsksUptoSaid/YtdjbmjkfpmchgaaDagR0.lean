/-
  The reference's graph: a list of nodes behind a pointer; at, Has, Len.
-/
import Derived.Test.YtdjbmjkfpmchgaaDagRot
import Derived.Test.YtdjbmjkfpmchgaaTexts
import Derived.Test.YtdjbmjkfpmchgaaFast
import Derived.Deep.Cut
namespace Go.Proofs.Ytdjbmjkfpmchgaa
open Go.RowKit Go.Maps

/-- Block h holds the list of nodes. -/
structure RG (w : World) (h : Nat) (a : Option Addr) (n cap : Nat) (ns : List Nd) : Prop where
  cell : w.cell? ⟨h, 0, Option.none⟩ = some (.slice a n cap)
  lt : h < w.heap.size
  nd : NdL w a n cap ns
theorem RG.below {w w' : World} {h n cap : Nat} {a : Option Addr} {ns : List Nd} (g : RG w h a n cap ns) (hb : Below w.heap.size w w') : RG w' h a n cap ns :=
  ⟨(hb.cell (p := ⟨h, 0, Option.none⟩) g.lt).trans g.cell, Nat.lt_of_lt_of_le g.lt hb.size, g.nd.below hb⟩

/-- Where a key first stands. -/
def AtIs (ns : List Nd) (k : ByteArray) (r : Int) : Prop := (k ∉ keysOf ns ∧ r = -1) ∨ (∃ i : Nat, i < ns.length ∧ r = i ∧ (ns.getD i default).key = k ∧ ∀ j, j < i → (ns.getD j default).key ≠ k)
theorem ndOf_first : ∀ {ns : List Nd} {i : Nat} {k : ByteArray}, i < ns.length → (ns.getD i default).key = k → (∀ j, j < i → (ns.getD j default).key ≠ k) → ndOf ns k = ns.getD i default
  | [], i, k, h, _, _ => absurd h (by simp)
  | m :: ns, 0, k, _, e, _ => by
    rw [ndOf, if_pos (by simpa using e)]; rfl
  | m :: ns, i + 1, k, h, e, hf => by
    rw [ndOf, if_neg (by have := hf 0 (by omega); simpa using this)]
    have := ndOf_first (ns := ns) (i := i) (k := k) (by simpa using h) (by simpa using e) (fun j hj => by have := hf (j + 1) (by omega); simpa using this)
    rw [this]; simp
theorem AtIs.out {ns : List Nd} {k : ByteArray} {r : Int} (h : AtIs ns k r) : k ∈ keysOf ns ↔ 0 ≤ r := by
  rcases h with ⟨h, rfl⟩ | ⟨i, hi, rfl, e, _⟩
  · exact ⟨fun h' => absurd h' h, fun h' => absurd h' (by decide)⟩
  · exact ⟨fun _ => by omega, fun _ => by rw [← e]; exact List.mem_map_of_mem (getDN_mem hi)⟩
theorem AtIs.in {ns : List Nd} {k : ByteArray} {r : Int} (h : AtIs ns k r) (hk : k ∈ keysOf ns) : ∃ i : Nat, i < ns.length ∧ r = i ∧ ns.getD i default = ndOf ns k := by
  rcases h with ⟨h, _⟩ | ⟨i, hi, e, e2, hf⟩
  · exact absurd hk h
  · exact ⟨i, hi, e, (ndOf_first hi e2 hf).symm⟩
theorem AtIs.range {ns : List Nd} {k : ByteArray} {r : Int} (h : AtIs ns k r) : -1 ≤ r ∧ r < ns.length ∨ r = -1 := by
  rcases h with ⟨_, rfl⟩ | ⟨i, hi, rfl, _⟩
  · exact .inr rfl
  · exact .inl ⟨by omega, by omega⟩
theorem keys_getD {ns : List Nd} {k : ByteArray} (h : k ∈ keysOf ns) : ∃ i, i < ns.length ∧ (ns.getD i default).key = k := by
  obtain ⟨x, hx, e⟩ := List.mem_map.1 h
  obtain ⟨i, hi, e2⟩ := mem_getDN hx
  exact ⟨i, hi, by rw [e2]; exact e⟩

def RetAt (ns : List Nd) (k : ByteArray) (e : Ending) : Prop := ∃ r : Int, e = .returned (.int .i64 r) ∧ AtIs ns k r

set_option maxRecDepth 100000 in
set_option maxHeartbeats 2000000 in
theorem at_any (h n cap : Nat) (a : Option Addr) (ns : List Nd) (k : ByteArray) (w : World) (hg : RG w h a n cap ns) :
    Calls Try.prog 29 #[gp h, .string k] w fun e w' => RetAt ns k e ∧ w' = w := by
  have hc := hg.cell
  have HR := Lib.hid hg.nd
  have h63 := hg.nd.n63
  clear hg
  go_enter Try.func29, Try.ntmps29
  go_wp2_with fail
  go_loop [5] (fun vi => ∃ i : Nat, i ≤ n ∧ vi = .int .i64 i ∧ Hid (∀ j, j < i → (ns.getD j default).key ≠ k)) (fun vi => n - (intOf vi).toNat)
  case atStart => exact ⟨0, Nat.zero_le _, rfl, Lib.hid fun j h => absurd h (by omega)⟩
  case round =>
    obtain ⟨i, hi, rfl, HJ⟩ := hrel
    by_cases hlt : i < n
    · have i1 : (i : Int) < n := by omega
      have i2 : (0 : Int) ≤ i := by omega
      obtain ⟨b0, off, rfl, hb0, hcs⟩ := HR.out.cells (by omega)
      obtain ⟨pa, pc, c0, c1, c2, st⟩ := hcs i hlt
      obtain ⟨kn, hkn⟩ : ∃ kn, kn = (ns.getD i default).key := ⟨_, rfl⟩
      rw [← hkn] at c0
      have KN := Lib.hid hkn
      clear hkn hcs c1 c2 st hb0
      by_cases he : kn = k
      · subst he
        have e1 := str_eq kn
        go_wp2_with fail
        go_ret
        exact ⟨⟨i, rfl, .inr ⟨i, by rw [HR.out.len]; exact hlt, rfl, KN.out.symm, HJ.out⟩⟩, rfl⟩
      · have e1 := str_ne he
        have HJ2 : Hid (∀ j, j < i + 1 → (ns.getD j default).key ≠ k) := Lib.hid (fun j hj => by
          by_cases e : j = i
          · subst e; rw [← KN.out]; exact he
          · exact HJ.out j (by omega))
        clear he
        go_wp2_with fail
        go_round
        case rel => exact ⟨i + 1, by omega, by go_num, HJ2⟩
        case measure => simp [intOf]; omega
    · have i1 : ¬ (i : Int) < n := by omega
      go_wp2_with fail
      go_ret
      refine ⟨⟨-1, rfl, .inl ⟨fun hin => ?_, rfl⟩⟩, rfl⟩
      obtain ⟨j, hj, e⟩ := keys_getD hin
      exact HJ.out j (by rw [HR.out.len] at hj; omega) e

set_option maxRecDepth 100000 in
theorem ghas_any (h n cap : Nat) (a : Option Addr) (ns : List Nd) (k : ByteArray) (w : World) (hg : RG w h a n cap ns) :
    Calls Try.prog 15 #[gp h, .string k] w fun e w' => e = .returned (.bool (decide (k ∈ keysOf ns))) ∧ w' = w := by
  go_enter Try.func15, Try.ntmps15
  go_wp2_with fail
  refine (at_any h n cap a ns k _ hg).mono ?_; rintro e w1 ⟨⟨r, rfl, hr⟩, rfl⟩
  have hd : decide (k ∈ keysOf ns) = decide (0 ≤ r) := by rw [decide_eq_decide]; exact hr.out
  have HD := Lib.hid hd
  clear hd hr
  go_wp2_with fail
  go_ret
  exact ⟨by rw [HD.out]; rfl, rfl⟩

set_option maxRecDepth 100000 in
theorem glen_any (h n cap : Nat) (a : Option Addr) (ns : List Nd) (w : World) (hg : RG w h a n cap ns) :
    Calls Try.prog 13 #[gp h] w fun e w' => e = .returned (.int .i64 ns.length) ∧ w' = w := by
  have hc := hg.cell
  rw [hg.nd.len]
  clear hg
  go_enter Try.func13, Try.ntmps13
  go_wp2_with fail
  go_ret
  exact ⟨rfl, rfl⟩
end Go.Proofs.Ytdjbmjkfpmchgaa
