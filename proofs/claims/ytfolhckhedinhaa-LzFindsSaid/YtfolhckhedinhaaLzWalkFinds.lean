/-
  The walk of LzFinds.
-/
import Derived.Test.YtfolhckhedinhaaLzRef2
import Derived.Test.YtfolhckhedinhaaBytes
namespace Go.Proofs.Ytfolhckhedinhaa
open Go.RowKit

theorem finds_not (b : Option Addr) (n cap : Nat) (w : World) (hn : n ≤ 9223372036854775807) (h : ¬ n ≤ 4000) :
    Calls Try.prog 3 #[.slice b n cap] w fun e w' => e = .returned (.bool true) ∧ Below w.heap.size w w' := by
  have h1 : (4000 : Int) < n := by omega
  go_enter Try.func3, Try.ntmps3
  go_wp2_with fail
  refine (first_any w).mono ?_; rintro e w1 ⟨rfl, b1⟩
  go_wp2_with fail
  refine (first_any w1).mono ?_; rintro e w2 ⟨rfl, b2⟩
  go_wp2_with fail
  go_ret
  exact ⟨rfl, below_size b1 b2⟩

set_option maxRecDepth 100000 in
set_option maxHeartbeats 1000000 in
theorem finds_in (b : Option Addr) (n cap : Nat) (xs : List Int) (w : World) (hr : Reads .u8 w b n cap xs) (hx : isB xs) (hn : n ≤ 4000) :
    Calls Try.prog 3 #[.slice b n cap] w fun e w' => e = .returned (.bool true) ∧ Below w.heap.size w w' := by
  have HR := Lib.hid hr; have HX := Lib.hid hx; have HL := Lib.hid hr.len
  have h1 : decide ((4000 : Int) < n) = false := by simp; omega
  have htl : (findL xs).length ≤ 4000 := by
    have h1 := iter_len xs xs.length
    have h2 := iter_le xs xs.length
    have := hr.len
    unfold findL
    omega
  have HTL := Lib.hid htl
  clear hr hx htl
  go_enter Try.func3, Try.ntmps3
  go_wp2_with fail
  refine (first_any w).mono ?_; rintro e w1 ⟨rfl, bb⟩
  have B := Lib.hid bb
  replace HR := Lib.hid (HR.out.below bb)
  clear bb
  go_wp2_with fail
  refine (copyBytes_any b n cap xs w1 HR.out (by omega)).mono ?_; rintro e w2 ⟨ai, ki, rfl, oi, bb⟩
  rw [HL.out] at oi ⊢
  have I := Lib.hid (reads_of_owns oi)
  replace B := Lib.hid (below_size B.out bb)
  replace HR := Lib.hid (HR.out.below bb)
  clear bb oi
  go_wp2_with fail
  refine (find_yes _ _ _ _ _ I.out HX.out (by omega)).mono ?_; rintro e w3 ⟨ax, kx, rfl, ox, bb⟩
  have X := Lib.hid (toks_of_owns ox rfl)
  replace B := Lib.hid (below_size B.out bb)
  replace HR := Lib.hid (HR.out.below bb)
  replace I := Lib.hid (I.out.below bb)
  clear bb ox
  go_wp2_with fail
  refine (rfind_yes _ _ _ _ _ HR.out HX.out (by omega)).mono ?_; rintro e w4 ⟨ay, ky, rfl, oy, bb⟩
  have Y := Lib.hid (toks_of_owns oy rfl)
  replace B := Lib.hid (below_size B.out bb)
  replace HR := Lib.hid (HR.out.below bb)
  replace I := Lib.hid (I.out.below bb)
  replace X := Lib.hid (X.out.below bb)
  clear bb oy
  generalize findL xs = ts at *
  go_wp2_with fail
  refine (first_any _).mono ?_; rintro e w5 ⟨rfl, bb⟩
  replace B := Lib.hid (below_size B.out bb)
  replace HR := Lib.hid (HR.out.below bb)
  replace I := Lib.hid (I.out.below bb)
  replace X := Lib.hid (X.out.below bb)
  replace Y := Lib.hid (Y.out.below bb)
  clear bb
  go_wp2_with fail
  refine (tokens_any _ _ _ _ _ X.out (by have := HTL.out; omega)).mono ?_; rintro e w6 ⟨az, kz, rfl, oz, bb⟩
  have Z := Lib.hid (toks_of_owns oz rfl)
  replace B := Lib.hid (below_size B.out bb)
  replace HR := Lib.hid (HR.out.below bb)
  replace I := Lib.hid (I.out.below bb)
  replace Y := Lib.hid (Y.out.below bb)
  clear bb oz X
  go_wp2_with fail
  refine (same_any _ _ _ _ _ _ _ Z.out Y.out).mono ?_; rintro e w7 ⟨rfl, q, rfl⟩
  replace B := Lib.hid (below_drewN B.out q)
  replace HR := Lib.hid (HR.out.drewN q)
  replace I := Lib.hid (I.out.drewN q)
  generalize w6.drewN q = w7 at *
  clear Y Z
  go_wp2_with fail
  have q1 := bytes_any _ _ _ _ _ _ _ _ _ I.out HR.out HX.out HX.out
  rw [decide_eq_true rfl] at q1
  have Q1 := Lib.hid q1; clear q1
  refine Q1.out.mono ?_; rintro e w8 ⟨rfl, rfl⟩
  go_wp2_with fail
  go_ret
  exact ⟨rfl, B.out⟩

theorem walk_LzFinds (b : Option Addr) (n cap : Nat) (xs : List Int) (w : World) (hr : Reads .u8 w b n cap xs) (hx : isB xs) :
    Calls Try.prog 3 #[.slice b n cap] w fun e w' => e = .returned (.bool true) ∧ Below w.heap.size w w' := by
  by_cases h : n ≤ 4000
  · exact finds_in b n cap xs w hr hx h
  · exact finds_not b n cap w hr.n63.1 h
end Go.Proofs.Ytfolhckhedinhaa
