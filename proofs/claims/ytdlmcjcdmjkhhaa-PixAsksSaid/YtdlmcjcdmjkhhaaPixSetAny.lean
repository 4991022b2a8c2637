/-
  Set, both ways, in one form.
-/
import Derived.Test.YtdlmcjcdmjkhhaaPixRefSet
import Derived.Test.YtdlmcjcdmjkhhaaPixRefAt
import Derived.Test.YtdlmcjcdmjkhhaaPixMore
import Derived.Test.YtdlmcjcdmjkhhaaAquref
namespace Go.Proofs.Ytdlmcjcdmjkhhaa
open Go.RowKit

def sZ (E k : Int) : Int := if E = 0 then k else 0
def sL (W H C D : Int) (n : Nat) (xs : List Int) (x y c v : Int) : List Int := if setErr W H C D n x y c v = 0 then setList W H C D xs x y c v else []
theorem sL_isB {W H C D : Int} {n : Nat} {xs : List Int} {x y c v : Int} (h : isB xs) : isB (sL W H C D n xs x y c v) := by
  unfold sL
  split
  · exact setList_isB _ _ _ _ _ _ _ _ _ h
  · exact isB.nil

theorem set_any (W H C D : Int) (a : Option Addr) (n cap : Nat) (xs : List Int) (x y c v : Int) (w : World) (hr : Reads .u8 w a n cap xs) (hH : -9223372036854775808 ≤ H ∧ H ≤ 9223372036854775807) (hv : -9223372036854775808 ≤ v ∧ v ≤ 9223372036854775807) :
    Calls Try.prog 13 #[ras W H C D a n cap, .int .i64 x, .int .i64 y, .int .i64 c, .int .i64 v] w (RetRas w (sZ (setErr W H C D n x y c v) W) (sZ (setErr W H C D n x y c v) H) (sZ (setErr W H C D n x y c v) C) (sZ (setErr W H C D n x y c v) D) (sL W H C D n xs x y c v) (setErr W H C D n x y c v)) := by
  by_cases h : setErr W H C D n x y c v = 0
  · obtain ⟨hm, hi, hf⟩ := setErr_zero h
    refine (set_yes W H C D a n cap xs x y c v w hr hv hm hi hf).mono ?_
    rintro e w' ⟨g, k, rfl, o, b⟩
    have hl : (setList W H C D xs x y c v).length = n := by simpa using o.1
    simp only [sZ, sL, h, if_true]
    exact ⟨_, k, by rw [hl], by rw [hl]; exact o, b⟩
  · refine (set_not W H C D a n cap x y c v w hH hv h).mono ?_
    rintro e w' ⟨rfl, b⟩
    simp only [sZ, sL, if_neg h]
    exact retRas_err b

theorem rset_any (W H C D : Int) (a : Option Addr) (n cap : Nat) (xs : List Int) (x y c v : Int) (w : World) (hr : Reads .u8 w a n cap xs) (hH : -9223372036854775808 ≤ H ∧ H ≤ 9223372036854775807) (hv : -9223372036854775808 ≤ v ∧ v ≤ 9223372036854775807) :
    Calls Try.prog 14 #[ras W H C D a n cap, .int .i64 x, .int .i64 y, .int .i64 c, .int .i64 v] w (RetRas w (sZ (setErr W H C D n x y c v) W) (sZ (setErr W H C D n x y c v) H) (sZ (setErr W H C D n x y c v) C) (sZ (setErr W H C D n x y c v) D) (sL W H C D n xs x y c v) (setErr W H C D n x y c v)) := by
  by_cases h : setErr W H C D n x y c v = 0
  · obtain ⟨hm, hi, hf⟩ := setErr_zero h
    refine (rset_yes W H C D a n cap xs x y c v w hr hv hm hi hf).mono ?_
    rintro e w' ⟨g, k, rfl, o, b⟩
    have hl : (setList W H C D xs x y c v).length = n := by simpa using o.1
    simp only [sZ, sL, h, if_true]
    exact ⟨_, k, by rw [hl], by rw [hl]; exact o, b⟩
  · refine (rset_not W H C D a n cap x y c v w hH hv h).mono ?_
    rintro e w' ⟨rfl, b⟩
    simp only [sZ, sL, if_neg h]
    exact retRas_err b

theorem same_eq (W H C D : Int) (xs : List Int) (W' H' C' D' : Int) (ys : List Int) : sameR W H C D xs W' H' C' D' ys = eqR W H C D xs W' H' C' D' ys := by
  unfold sameR eqR
  exact decide_eq_decide.2 Iff.rfl
end Go.Proofs.Ytdlmcjcdmjkhhaa
