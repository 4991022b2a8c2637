/-
  Four writers side by side.
-/
import Derived.Test.YteancefgkllgoaaBitsFirst
namespace Go.Proofs.Yteancefgkllgoaa
open Go.RowKit

def Dis (o o' : Option Nat) : Prop := ∀ r, o = some r → o' ≠ some r
structure Four (w : World) (g : Nat) (oa ob oc od : Option Nat) (Na ca Nb cb Nc cc Nd cd : Nat) : Prop where
  a : Wrt w g oa Na ca
  b : Wrt w (g + 1) ob Nb cb
  c : Wrt w (g + 2) oc Nc cc
  d : Wrt w (g + 3) od Nd cd
  la : ∀ r, oa = some r → g + 4 ≤ r
  lb : ∀ r, ob = some r → g + 4 ≤ r
  lc : ∀ r, oc = some r → g + 4 ≤ r
  ld : ∀ r, od = some r → g + 4 ≤ r
  ab : Dis oa ob
  ac : Dis oa oc
  ad : Dis oa od
  bc : Dis ob oc
  bd : Dis ob od
  cd : Dis oc od
  sz : g + 4 ≤ w.heap.size

section
variable {w w' : World} {g : Nat} {oa ob oc od o' : Option Nat} {Na ca Nb cb Nc cc Nd cd N' c' : Nat}
theorem Dis.symm {o o' : Option Nat} (h : Dis o o') : Dis o' o := fun r h1 h2 => h r h2 h1
theorem dis_moved {g1 : Nat} {o o1 : Option Nat} (h : Dis o1 o) (m : Moved g1 o1 o' w w') (hlt : ∀ r, o = some r → r < w.heap.size) : Dis o' o := fun r h1 h2 => by
  rcases m.2 r h1 with e | e
  · exact h r e h2
  · have := hlt r h2; omega
theorem lo_moved {g1 B : Nat} {o1 : Option Nat} (h : ∀ r, o1 = some r → B ≤ r) (m : Moved g1 o1 o' w w') (hs : B ≤ w.heap.size) : ∀ r, o' = some r → B ≤ r := fun r h1 => by
  rcases m.2 r h1 with e | e
  · exact h r e
  · omega
theorem keep_moved {g1 g2 : Nat} {o o1 : Option Nat} {N c : Nat} (h : Wrt w g2 o N c) (m : Moved g1 o1 o' w w') (hne : g2 ≠ g1) {B : Nat} (h1 : ∀ r, o1 = some r → B ≤ r) (h2 : ∀ r, o = some r → B ≤ r) (hB1 : g1 < B) (hB2 : g2 < B) (hd : Dis o o1) : Wrt w' g2 o N c :=
  h.moved m hne (fun e => by have := h1 _ e; omega) (fun e => by have := h2 _ e; omega) hd

theorem Four.putA (h : Four w g oa ob oc od Na ca Nb cb Nc cc Nd cd) (hw : Wrt w' g o' N' c') (m : Moved g oa o' w w') : Four w' g o' ob oc od N' c' Nb cb Nc cc Nd cd :=
  ⟨hw, keep_moved h.b m (by omega) h.la h.lb (by omega) (by omega) h.ab.symm, keep_moved h.c m (by omega) h.la h.lc (by omega) (by omega) h.ac.symm, keep_moved h.d m (by omega) h.la h.ld (by omega) (by omega) h.ad.symm,
    lo_moved h.la m h.sz, h.lb, h.lc, h.ld, dis_moved h.ab m (fun r e => (h.b.lt.2 r e).2), dis_moved h.ac m (fun r e => (h.c.lt.2 r e).2), dis_moved h.ad m (fun r e => (h.d.lt.2 r e).2), h.bc, h.bd, h.cd, Nat.le_trans h.sz m.1.size⟩
theorem Four.putB (h : Four w g oa ob oc od Na ca Nb cb Nc cc Nd cd) (hw : Wrt w' (g + 1) o' N' c') (m : Moved (g + 1) ob o' w w') : Four w' g oa o' oc od Na ca N' c' Nc cc Nd cd :=
  ⟨keep_moved h.a m (by omega) h.lb h.la (by omega) (by omega) h.ab, hw, keep_moved h.c m (by omega) h.lb h.lc (by omega) (by omega) h.bc.symm, keep_moved h.d m (by omega) h.lb h.ld (by omega) (by omega) h.bd.symm,
    h.la, lo_moved h.lb m h.sz, h.lc, h.ld, (dis_moved h.ab.symm m (fun r e => (h.a.lt.2 r e).2)).symm, h.ac, h.ad, dis_moved h.bc m (fun r e => (h.c.lt.2 r e).2), dis_moved h.bd m (fun r e => (h.d.lt.2 r e).2), h.cd, Nat.le_trans h.sz m.1.size⟩
theorem Four.putC (h : Four w g oa ob oc od Na ca Nb cb Nc cc Nd cd) (hw : Wrt w' (g + 2) o' N' c') (m : Moved (g + 2) oc o' w w') : Four w' g oa ob o' od Na ca Nb cb N' c' Nd cd :=
  ⟨keep_moved h.a m (by omega) h.lc h.la (by omega) (by omega) h.ac, keep_moved h.b m (by omega) h.lc h.lb (by omega) (by omega) h.bc, hw, keep_moved h.d m (by omega) h.lc h.ld (by omega) (by omega) h.cd.symm,
    h.la, h.lb, lo_moved h.lc m h.sz, h.ld, h.ab, (dis_moved h.ac.symm m (fun r e => (h.a.lt.2 r e).2)).symm, h.ad, (dis_moved h.bc.symm m (fun r e => (h.b.lt.2 r e).2)).symm, h.bd, dis_moved h.cd m (fun r e => (h.d.lt.2 r e).2), Nat.le_trans h.sz m.1.size⟩
theorem Four.putD (h : Four w g oa ob oc od Na ca Nb cb Nc cc Nd cd) (hw : Wrt w' (g + 3) o' N' c') (m : Moved (g + 3) od o' w w') : Four w' g oa ob oc o' Na ca Nb cb Nc cc N' c' :=
  ⟨keep_moved h.a m (by omega) h.ld h.la (by omega) (by omega) h.ad, keep_moved h.b m (by omega) h.ld h.lb (by omega) (by omega) h.bd, keep_moved h.c m (by omega) h.ld h.lc (by omega) (by omega) h.cd, hw,
    h.la, h.lb, h.lc, lo_moved h.ld m h.sz, h.ab, h.ac, (dis_moved h.ad.symm m (fun r e => (h.a.lt.2 r e).2)).symm, h.bc, (dis_moved h.bd.symm m (fun r e => (h.b.lt.2 r e).2)).symm, (dis_moved h.cd.symm m (fun r e => (h.c.lt.2 r e).2)).symm, Nat.le_trans h.sz m.1.size⟩
theorem Four.below (h : Four w g oa ob oc od Na ca Nb cb Nc cc Nd cd) (hb : Below w.heap.size w w') : Four w' g oa ob oc od Na ca Nb cb Nc cc Nd cd :=
  ⟨h.a.below hb, h.b.below hb, h.c.below hb, h.d.below hb, h.la, h.lb, h.lc, h.ld, h.ab, h.ac, h.ad, h.bc, h.bd, h.cd, Nat.le_trans h.sz hb.size⟩
theorem moved_below {g1 B : Nat} {o1 : Option Nat} {w0 : World} (hb : Below B w0 w) (m : Moved g1 o1 o' w w') (hB : B ≤ g1) (hS : B ≤ w.heap.size) (h1 : ∀ r, o1 = some r → B ≤ r) : Below B w0 w' := hb.trans (m.below hB hS h1)
end

theorem revb_top (m s : Nat) : revb m (s + 1) = revb (m / 2) s + m % 2 * 2 ^ s := by
  induction s with
  | zero => simp [revb]
  | succ s ih =>
    rw [revb, ih, revb, Nat.pow_succ, Nat.mul_comm (2 ^ s) 2, ← Nat.div_div_eq_div_mul, Nat.add_mul, Nat.mul_assoc (m % 2), Nat.mul_comm (2 ^ s) 2]
    omega
end Go.Proofs.Yteancefgkllgoaa
