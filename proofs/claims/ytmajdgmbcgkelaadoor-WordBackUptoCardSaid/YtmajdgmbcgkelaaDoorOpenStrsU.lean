/-
  A slice of strings that is an argument, and what it weighs.
-/
import Derived.Test.YtmajdgmbcgkelaaDoorReadsA
import Derived.Lib.Strings
import Derived.Test.YtmajdgmbcgkelaaDoorChecked
import Derived.Test.YtmajdgmbcgkelaaDoorRows
import Derived.OpenShut
import Derived.ShutString
import Derived.ChangeOld
import Derived.Below
import Derived.Deep.Strs
namespace Go.Proofs.YtmajdgmbcgkelaaDoor
open Go.ChangeShapes Go.WideShapes Go.ChangeAt Go.RowKit

theorem open_strsA' {H' : Type} {enc : TypeId × Value → H'} {w : World} {base : Nat} {held : Bool} {r : Reach} {b0 : Nat} {v : Value} {d : DataW H'} {p : List MemPlace}
    (hv : Value.okWide Tryd.prog w r b0 31 v) (h : DataW.Trod enc Tryd.prog w base (fun _ => true) held 31 v d p) :
    ∃ (a : Option Addr) (n cap : Nat) (ms : List ByteArray), v = .slice a n cap ∧ Strs w a n cap ms ∧ ∀ s ∈ ms, s.size ≤ maxLen := by
  obtain ⟨a0, len0, cap0, rfl⟩ := okWide_slice Tryd.underlying31 hv
  obtain ⟨fuel, hf⟩ := h
  rcases Go.Deep.open_strs Tryd.underlying31 Tryd.underlying9 (by kernel_rfl) hf with ⟨hcs, _⟩ | ⟨x, l, c, m, Sx, hcs, _, hl, hm, hmm, _, hcell⟩
  · simp [Value.cells] at hcs
    obtain ⟨rfl, rfl, rfl⟩ := hcs
    exact ⟨_, _, _, [], rfl, ReadsA.none _ _ _, fun s hs => nomatch hs⟩
  · simp [Value.cells] at hcs
    obtain ⟨rfl, rfl, rfl⟩ := hcs
    have hmc : m = cap0 := by simpa using hmm
    subst hmc
    refine ⟨_, _, _, (List.range len0).map Sx, rfl, ⟨by simp, hl, hm, (fun h => nomatch h), fun hn => ?_⟩, fun s hs => ?_⟩
    · obtain ⟨b, off, spot⟩ := x
      have h0 := (hcell 0 (by omega)).1
      have hspot : spot = none := by simpa [Addr.add] using World.cell?_spot h0
      subst hspot
      refine ⟨b, off, rfl, World.block_lt_of_cell? _ _ h0, fun i hi => ?_⟩
      rw [← Addr.add_lit, (hcell i (by omega)).1]
      simp [List.getD, hi]
    · obtain ⟨i, hi, rfl⟩ := List.mem_map.1 hs
      exact (hcell i (by have := List.mem_range.1 hi; omega)).2

/-- What it weighs: each text is no longer than the whole. -/
theorem open_strsU {H' : Type} {enc : TypeId × Value → H'} {w : World} {base : Nat} {held : Bool} {r : Reach} {b0 : Nat} {v : Value} {d : DataW H'} {p : List MemPlace}
    (hv : Value.okWide Tryd.prog w r b0 31 v) (h : DataW.Trod enc Tryd.prog w base (fun _ => true) held 31 v d p) :
    ∃ (a : Option Addr) (n cap : Nat) (ms : List ByteArray), v = .slice a n cap ∧ Strs w a n cap ms ∧ ∀ s ∈ ms, s.size ≤ Rows.uptoBulk d := by
  obtain ⟨a0, len0, cap0, rfl⟩ := okWide_slice Tryd.underlying31 hv
  obtain ⟨fuel, hf⟩ := h
  rcases Go.Deep.open_strs Tryd.underlying31 Tryd.underlying9 (by kernel_rfl) hf with ⟨hcs, _⟩ | ⟨x, l, c, m, Sx, hcs, _, hl, hm, hmm, hx, hcell⟩
  · simp [Value.cells] at hcs
    obtain ⟨rfl, rfl, rfl⟩ := hcs
    exact ⟨_, _, _, [], rfl, ReadsA.none _ _ _, fun s hs => nomatch hs⟩
  · simp [Value.cells] at hcs
    obtain ⟨rfl, rfl, rfl⟩ := hcs
    have hmc : m = cap0 := by simpa using hmm
    subst hmc
    refine ⟨_, _, _, (List.range len0).map Sx, rfl, ⟨by simp, hl, hm, (fun h => nomatch h), fun hn => ?_⟩, fun s hs => ?_⟩
    · obtain ⟨b, off, spot⟩ := x
      have h0 := (hcell 0 (by omega)).1
      have hspot : spot = none := by simpa [Addr.add] using World.cell?_spot h0
      subst hspot
      refine ⟨b, off, rfl, World.block_lt_of_cell? _ _ h0, fun i hi => ?_⟩
      rw [← Addr.add_lit, (hcell i (by omega)).1]
      simp [List.getD, hi]
    · obtain ⟨i, hi, rfl⟩ := List.mem_map.1 hs
      have hd := congrArg Prod.fst hx
      simp only at hd
      have part : ∀ (l : List (DataW H')) (y : DataW H'), y ∈ l → Rows.uptoBulk y ≤ Rows.uptoBulkAll l := by
        intro l
        induction l with
        | nil => intro y hy; cases hy
        | cons z r ih =>
          intro y hy
          simp only [Rows.uptoBulkAll]
          rcases List.mem_cons.1 hy with rfl | hy
          · omega
          · have := ih y hy; omega
      have hmem : (DataW.lit (.string (Sx i).data.toList) : DataW H') ∈ (List.range len0).map fun i => (DataW.lit (.string (Sx i).data.toList) : DataW H') := List.mem_map.2 ⟨i, hi, rfl⟩
      have h1 := part _ _ hmem
      have h2 : Rows.uptoBulk (DataW.lit (.string (Sx i).data.toList) : DataW H') = (Sx i).data.toList.length + 1 := by simp [Rows.uptoBulk]
      have h3 : (Sx i).size = (Sx i).data.toList.length := Lib.size_eq _
      rw [hd]
      simp only [Rows.uptoBulk]
      omega
end Go.Proofs.YtmajdgmbcgkelaaDoor
