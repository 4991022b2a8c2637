/-
  Make and Apply of chapter 11, both ways, in one form.
-/
import Derived.Test.YtljkkhjgcgiccaaDiffApplyOk
import Derived.Test.YtljkkhjgcgiccaaDiffRapply
namespace Go.Proofs.Ytljkkhjgcgiccaa
open Go.RowKit

def mkE (kind W H C D : Int) (n : Nat) (W' H' C' D' : Int) (m : Nat) : Int := if kind ≠ 1 ∧ kind ≠ 2 then 1 else alikeE W H C D n W' H' C' D' m
def mkO (kind W H C D : Int) (n : Nat) (W' H' C' D' : Int) (m : Nat) (bs rs : List Int) : List Int := if mkE kind W H C D n W' H' C' D' m = 0 then mkL kind bs rs else []
def apO (kind W H C D : Int) (n m : Nat) (bs ds : List Int) : List Int := if apE kind W H C D n m = 0 then apL kind bs ds else []
def aZ (E k : Int) : Int := if E = 0 then k else 0
theorem kind_or {kind : Int} (h : ¬ (kind ≠ 1 ∧ kind ≠ 2)) : kind = 1 ∨ kind = 2 := by omega
theorem alikeE_zero {W H C D : Int} {n : Nat} {W' H' C' D' : Int} {m : Nat} (h : alikeE W H C D n W' H' C' D' m = 0) : mayR W H C D n = true ∧ W = W' ∧ H = H' ∧ C = C' ∧ D = D' ∧ n = m := by
  unfold alikeE at h
  by_cases h1 : mayR W H C D n = true ∧ mayR W' H' C' D' m = true
  · rw [if_pos h1] at h
    by_cases h2 : shEq W H C D W' H' C' D'
    · obtain ⟨rfl, rfl, rfl, rfl⟩ := h2
      have a1 := (mayR_spec h1.1).2.2
      have a2 := (mayR_spec h1.2).2.2
      exact ⟨h1.1, rfl, rfl, rfl, rfl, by omega⟩
    · rw [if_neg h2] at h; omega
  · rw [if_neg h1] at h; omega
theorem apE_zero {kind W H C D : Int} {n m : Nat} (h : apE kind W H C D n m = 0) : (kind = 1 ∨ kind = 2) ∧ mayR W H C D n = true ∧ n = m := by
  unfold apE at h
  by_cases h1 : kind ≠ 1 ∧ kind ≠ 2
  · rw [if_pos h1] at h; omega
  · rw [if_neg h1] at h
    by_cases h2 : mayR W H C D n = true
    · rw [if_pos h2] at h
      by_cases h3 : m < n
      · rw [if_pos h3] at h; omega
      · rw [if_neg h3] at h
        by_cases h4 : n < m
        · rw [if_pos h4] at h; omega
        · exact ⟨kind_or h1, h2, by omega⟩
    · rw [if_neg h2] at h; omega
theorem mkO_isB {kind W H C D : Int} {n : Nat} {W' H' C' D' : Int} {m : Nat} {bs rs : List Int} (hb : isB bs) (hr : isB rs) (lb : bs.length = n) (lr : rs.length = m) : isB (mkO kind W H C D n W' H' C' D' m bs rs) := by
  unfold mkO
  split
  · next h =>
    unfold mkE at h
    by_cases h1 : kind ≠ 1 ∧ kind ≠ 2
    · rw [if_pos h1] at h; omega
    · rw [if_neg h1] at h
      obtain ⟨_, _, _, _, _, rfl⟩ := alikeE_zero h
      exact mkL_isB _ _ _ hb hr (by omega)
  · exact isB.nil
theorem apO_isB {kind W H C D : Int} {n m : Nat} {bs ds : List Int} (hb : isB bs) (hd : isB ds) (lb : bs.length = n) (ld : ds.length = m) : isB (apO kind W H C D n m bs ds) := by
  unfold apO
  split
  · next h =>
    obtain ⟨_, _, rfl⟩ := apE_zero h
    exact apL_isB _ _ _ hb hd (by omega)
  · exact isB.nil

theorem make_any (kind W H C D : Int) (a : Option Addr) (n cap : Nat) (W' H' C' D' : Int) (b : Option Addr) (m k : Nat) (bs rs : List Int) (w : World) (hb : Reads .u8 w a n cap bs) (hbB : isB bs) (hr : Reads .u8 w b m k rs) (hrB : isB rs) (hH : -9223372036854775808 ≤ H ∧ H ≤ 9223372036854775807) (hH' : -9223372036854775808 ≤ H' ∧ H' ≤ 9223372036854775807) :
    Calls Try.prog 8 #[.int .i64 kind, ras W H C D a n cap, ras W' H' C' D' b m k] w (RetBy w (mkO kind W H C D n W' H' C' D' m bs rs) (mkE kind W H C D n W' H' C' D' m)) := by
  by_cases hk : kind ≠ 1 ∧ kind ≠ 2
  · have e : mkE kind W H C D n W' H' C' D' m = 1 := by rw [mkE, if_pos hk]
    rw [mkO, e, if_neg (by decide)]
    exact make_kind kind W H C D a n cap W' H' C' D' b m k w hk
  · have e : mkE kind W H C D n W' H' C' D' m = alikeE W H C D n W' H' C' D' m := by rw [mkE, if_neg hk]
    by_cases h0 : alikeE W H C D n W' H' C' D' m = 0
    · rw [mkO, e, if_pos h0, h0]
      obtain ⟨h1, rfl, rfl, rfl, rfl, rfl⟩ := alikeE_zero h0
      exact make_ok kind W H C D a n cap b k bs rs w (kind_or hk) hb hbB hr hrB h1
    · rw [mkO, e, if_neg h0]
      exact make_not kind W H C D a n cap W' H' C' D' b m k w (kind_or hk) hH hH' h0

theorem rmake_any (kind W H C D : Int) (a : Option Addr) (n cap : Nat) (W' H' C' D' : Int) (b : Option Addr) (m k : Nat) (bs rs : List Int) (w : World) (hb : Reads .u8 w a n cap bs) (hbB : isB bs) (hr : Reads .u8 w b m k rs) (hrB : isB rs) (hH : -9223372036854775808 ≤ H ∧ H ≤ 9223372036854775807) (hH' : -9223372036854775808 ≤ H' ∧ H' ≤ 9223372036854775807) :
    Calls Try.prog 9 #[.int .i64 kind, ras W H C D a n cap, ras W' H' C' D' b m k] w (RetBy w (mkO kind W H C D n W' H' C' D' m bs rs) (mkE kind W H C D n W' H' C' D' m)) := by
  by_cases hk : kind ≠ 1 ∧ kind ≠ 2
  · have e : mkE kind W H C D n W' H' C' D' m = 1 := by rw [mkE, if_pos hk]
    rw [mkO, e, if_neg (by decide)]
    exact rmake_kind kind W H C D a n cap W' H' C' D' b m k w hk
  · have e : mkE kind W H C D n W' H' C' D' m = alikeE W H C D n W' H' C' D' m := by rw [mkE, if_neg hk]
    by_cases h0 : alikeE W H C D n W' H' C' D' m = 0
    · rw [mkO, e, if_pos h0, h0]
      obtain ⟨h1, rfl, rfl, rfl, rfl, rfl⟩ := alikeE_zero h0
      exact rmake_ok kind W H C D a n cap b k bs rs w (kind_or hk) hb hbB hr hrB h1
    · rw [mkO, e, if_neg h0]
      exact rmake_not kind W H C D a n cap W' H' C' D' b m k w (kind_or hk) hH hH' h0

theorem apply_any (kind W H C D : Int) (a : Option Addr) (n cap : Nat) (b : Option Addr) (m k : Nat) (bs ds : List Int) (w : World) (hb : Reads .u8 w a n cap bs) (hbB : isB bs) (hr : Reads .u8 w b m k ds) (hrB : isB ds) (hH : -9223372036854775808 ≤ H ∧ H ≤ 9223372036854775807) (hn : n ≤ 1000000) (hm : m ≤ 1000000) :
    Calls Try.prog 10 #[.int .i64 kind, ras W H C D a n cap, .slice b m k] w (RetRas w (aZ (apE kind W H C D n m) W) (aZ (apE kind W H C D n m) H) (aZ (apE kind W H C D n m) C) (aZ (apE kind W H C D n m) D) (apO kind W H C D n m bs ds) (apE kind W H C D n m)) := by
  by_cases h0 : apE kind W H C D n m = 0
  · simp only [aZ, apO, h0, if_true]
    obtain ⟨h1, h2, rfl⟩ := apE_zero h0
    exact apply_ok kind W H C D a n cap b k bs ds w h1 hb hbB hr hrB h2
  · simp only [aZ, apO, if_neg h0]
    by_cases hk : kind ≠ 1 ∧ kind ≠ 2
    · have e : apE kind W H C D n m = 1 := by rw [apE, if_pos hk]
      rw [e]
      exact apply_kind kind W H C D a n cap b m k w hH hk
    · exact apply_not kind W H C D a n cap b m k w hH (kind_or hk) hn hm (by rw [apE, if_neg hk]) h0

theorem rapply_any (kind W H C D : Int) (a : Option Addr) (n cap : Nat) (b : Option Addr) (m k : Nat) (bs ds : List Int) (w : World) (hb : Reads .u8 w a n cap bs) (hbB : isB bs) (hr : Reads .u8 w b m k ds) (hrB : isB ds) (hH : -9223372036854775808 ≤ H ∧ H ≤ 9223372036854775807) (hn : n ≤ 1000000) (hm : m ≤ 1000000) :
    Calls Try.prog 11 #[.int .i64 kind, ras W H C D a n cap, .slice b m k] w (RetRas w (aZ (apE kind W H C D n m) W) (aZ (apE kind W H C D n m) H) (aZ (apE kind W H C D n m) C) (aZ (apE kind W H C D n m) D) (apO kind W H C D n m bs ds) (apE kind W H C D n m)) := by
  by_cases h0 : apE kind W H C D n m = 0
  · simp only [aZ, apO, h0, if_true]
    obtain ⟨h1, h2, rfl⟩ := apE_zero h0
    exact rapply_ok kind W H C D a n cap b k bs ds w h1 hb hbB hr hrB h2
  · simp only [aZ, apO, if_neg h0]
    by_cases hk : kind ≠ 1 ∧ kind ≠ 2
    · have e : apE kind W H C D n m = 1 := by rw [apE, if_pos hk]
      rw [e]
      exact rapply_kind kind W H C D a n cap b m k w hH hk
    · exact rapply_not kind W H C D a n cap b m k w hH (kind_or hk) hn hm (by rw [apE, if_neg hk]) h0

end Go.Proofs.Ytljkkhjgcgiccaa
