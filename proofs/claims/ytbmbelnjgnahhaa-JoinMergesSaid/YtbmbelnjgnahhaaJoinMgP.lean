/-
  Merge, Resolve, Changed and the reference's: what is answered, whatever the trees.
-/
import Derived.Test.YtbmbelnjgnahhaaRefMerOk
import Derived.Test.YtbmbelnjgnahhaaRefResOk
namespace Go.Proofs.Ytbmbelnjgnahhaa
open Go.RowKit

noncomputable def mgE (o a b : TV) : Int := if (o.may && a.may && b.may) = true then (if o.alike a ∧ o.alike b then 0 else 13) else 4
noncomputable def mgK (o a b : TV) : List ByteArray := if mgE o a b = 0 then mergeKs o.ks a.ks b.ks o.n else []
noncomputable def mgM (o a b : TV) : List Bool := if mgE o a b = 0 then mergeMs o.ks a.ks b.ks o.n else []
noncomputable def rsE (o a : TV) (nm : Nat) : Int := if (o.may && a.may) = true then (if o.alike a ∧ nm = o.n then 0 else 13) else 4
noncomputable def rsK (o a : TV) (nm : Nat) (ms : List Bool) : List ByteArray := if rsE o a nm = 0 then resKs o.ks a.ks ms o.n else []
def zS (e x : Int) : Int := if e = 0 then x else 0
def RetMg (o a b : TV) (w : World) (e : Ending) (w' : World) : Prop :=
  ∃ ga k gm k2, e = .returned (.tuple #[ras (zS (mgE o a b) o.W) (zS (mgE o a b) o.H) (zS (mgE o a b) o.C) (zS (mgE o a b) o.D) ga (mgK o a b).length k, .slice gm (mgM o a b).length k2, .int .i64 (mgE o a b)]) ∧
    w'.ownsRow w.heap.size 9 1 (.slice ga (mgK o a b).length k) (mgK o a b).length ((mgK o a b).map Value.string) ∧ w'.ownsRow w.heap.size 4 1 (.slice gm (mgM o a b).length k2) (mgM o a b).length ((mgM o a b).map Value.bool) ∧ Below w.heap.size w w'
def RetRs (o a : TV) (nm : Nat) (ms : List Bool) (w : World) (e : Ending) (w' : World) : Prop :=
  ∃ ga k, e = .returned (.tuple #[ras (zS (rsE o a nm) o.W) (zS (rsE o a nm) o.H) (zS (rsE o a nm) o.C) (zS (rsE o a nm) o.D) ga (rsK o a nm ms).length k, .int .i64 (rsE o a nm)]) ∧
    w'.ownsRow w.heap.size 9 1 (.slice ga (rsK o a nm ms).length k) (rsK o a nm ms).length ((rsK o a nm ms).map Value.string) ∧ Below w.heap.size w w'

theorem mg_err {o a b : TV} {er : Int} (h : mgE o a b = er) (hn : ¬ er = 0) {w : World} {f : FuncId} {args : Array Value}
    (hc : Calls Try.prog f args w fun e w' => e = .returned (.tuple #[ras 0 0 0 0 Option.none 0 0, .slice Option.none 0 0, .int .i64 er]) ∧ Below w.heap.size w w') : Calls Try.prog f args w (RetMg o a b w) := by
  have hn2 : ¬ mgE o a b = 0 := by rw [h]; exact hn
  have hK : mgK o a b = [] := by unfold mgK; rw [if_neg hn2]
  have hM : mgM o a b = [] := by unfold mgM; rw [if_neg hn2]
  refine hc.mono fun e w' ⟨h1, h2⟩ => ⟨Option.none, 0, Option.none, 0, ?_, ?_, ?_, h2⟩
  · rw [h1, hK, hM, h]; simp [zS, hn]
  · rw [hK]; exact World.ownsRow_nil _ _ _ _
  · rw [hM]; exact World.ownsRow_nil _ _ _ _
theorem mg_ok {o a b : TV} (h : mgE o a b = 0) {w : World} {f : FuncId} {args : Array Value}
    (hc : Calls Try.prog f args w (RetMerge o.W o.H o.C o.D (mergeKs o.ks a.ks b.ks o.n) (mergeMs o.ks a.ks b.ks o.n) w)) : Calls Try.prog f args w (RetMg o a b w) := by
  have hK : mgK o a b = mergeKs o.ks a.ks b.ks o.n := by unfold mgK; rw [if_pos h]
  have hM : mgM o a b = mergeMs o.ks a.ks b.ks o.n := by unfold mgM; rw [if_pos h]
  have hL : (mergeMs o.ks a.ks b.ks o.n).length = (mergeKs o.ks a.ks b.ks o.n).length := by rw [mergeMs_len, mergeKs_len]
  refine hc.mono fun e w' ⟨ga, k, gm, k2, h1, h2, h3, h4⟩ => ⟨ga, k, gm, k2, ?_, ?_, ?_, h4⟩
  · rw [h1, hK, hM, h, hL]; simp [zS]
  · rw [hK]; exact h2
  · rw [hM, hL]; exact h3
theorem mg_lit {o a b : TV} {w : World} (ho : TOk w o) (ha : TOk w a) (hb : TOk w b) (h1 : o.may = true) (h2 : a.may = true) (h3 : b.may = true) (k1 : o.alike a) (k2 : o.alike b) :
    ∃ W H C D po xo co pa xa ca pb xb cb n oks aks bks, o = (⟨W, H, C, D, some ⟨po, xo, Option.none⟩, n, co, oks⟩ : TV) ∧ a = (⟨W, H, C, D, some ⟨pa, xa, Option.none⟩, n, ca, aks⟩ : TV) ∧ b = (⟨W, H, C, D, some ⟨pb, xb, Option.none⟩, n, cb, bks⟩ : TV) ∧ 0 < n := by
  obtain ⟨hn, hp⟩ := n_of_may ho ha h1 h2 k1
  obtain ⟨hn2, _⟩ := n_of_may ho hb h1 h3 k2
  obtain ⟨po, xo, e1, _⟩ := ho.strs.cells hp
  obtain ⟨pa, xa, e2, _⟩ := ha.strs.cells (by omega)
  obtain ⟨pb, xb, e3, _⟩ := hb.strs.cells (by omega)
  obtain ⟨Wo, Ho, Co, Do, ao, no, co, ko⟩ := o
  obtain ⟨Wa, Ha, Ca, Da, aa, na, ca, ka⟩ := a
  obtain ⟨Wb, Hb, Cb, Db, ab, nb, cb, kb⟩ := b
  simp only at e1 e2 e3 hn hn2
  subst e1 e2 e3 hn hn2
  obtain ⟨rfl, rfl, rfl, rfl⟩ := k1
  obtain ⟨rfl, rfl, rfl, rfl⟩ := k2
  exact ⟨_, _, _, _, _, _, _, _, _, _, _, _, _, _, _, _, _, rfl, rfl, rfl, hp⟩
theorem merge_mg (o a b : TV) (w : World) (ho : TOk w o) (ha : TOk w a) (hb : TOk w b) : Calls Try.prog 11 #[o.val, a.val, b.val] w (RetMg o a b w) := by
  by_cases hm : (o.may && a.may && b.may) = true
  · by_cases hk : o.alike a ∧ o.alike b
    · have h0 : mgE o a b = 0 := by unfold mgE; rw [if_pos hm, if_pos hk]
      simp only [Bool.and_eq_true] at hm
      obtain ⟨W, H, C, D, po, xo, co, pa, xa, ca, pb, xb, cb, n, oks, aks, bks, rfl, rfl, rfl, hn⟩ := mg_lit ho ha hb hm.1.1 hm.1.2 hm.2 hk.1 hk.2
      exact mg_ok h0 (merge_ok W H C D po xo co pa xa ca pb xb cb n oks aks bks w ho ha hb (by simp [hm.1.1, hm.1.2, hm.2]) hn)
    · exact mg_err (by unfold mgE; rw [if_pos hm, if_neg hk]) (by decide) (merge_shape o a b w ho ha hb (by simpa [and_assoc] using hm) hk)
  · exact mg_err (by unfold mgE; rw [if_neg hm]) (by decide) (merge_form o a b w ho ha hb (by
      rw [Bool.eq_false_iff]; intro h; exact hm (by simpa [and_assoc] using h)))
theorem rmerge_mg (o a b : TV) (w : World) (ho : TOk w o) (ha : TOk w a) (hb : TOk w b) : Calls Try.prog 12 #[o.val, a.val, b.val] w (RetMg o a b w) := by
  by_cases hm : (o.may && a.may && b.may) = true
  · by_cases hk : o.alike a ∧ o.alike b
    · have h0 : mgE o a b = 0 := by unfold mgE; rw [if_pos hm, if_pos hk]
      simp only [Bool.and_eq_true] at hm
      obtain ⟨W, H, C, D, po, xo, co, pa, xa, ca, pb, xb, cb, n, oks, aks, bks, rfl, rfl, rfl, hn⟩ := mg_lit ho ha hb hm.1.1 hm.1.2 hm.2 hk.1 hk.2
      exact mg_ok h0 (rmerge_ok W H C D po xo co pa xa ca pb xb cb n oks aks bks w ho ha hb hm.1.1 hm.1.2 hm.2 hn)
    · exact mg_err (by unfold mgE; rw [if_pos hm, if_neg hk]) (by decide) (rmerge_shape o a b w ho ha hb hm hk)
  · exact mg_err (by unfold mgE; rw [if_neg hm]) (by decide) (rmerge_form o a b w ho ha hb (Bool.eq_false_iff.2 hm))

theorem rs_err {o a : TV} {nm : Nat} {ms : List Bool} {er : Int} (h : rsE o a nm = er) (hn : ¬ er = 0) {w : World} {f : FuncId} {args : Array Value}
    (hc : Calls Try.prog f args w fun e w' => e = .returned (.tuple #[ras 0 0 0 0 Option.none 0 0, .int .i64 er]) ∧ Below w.heap.size w w') : Calls Try.prog f args w (RetRs o a nm ms w) := by
  have hn2 : ¬ rsE o a nm = 0 := by rw [h]; exact hn
  have hK : rsK o a nm ms = [] := by unfold rsK; rw [if_neg hn2]
  refine hc.mono fun e w' ⟨h1, h2⟩ => ⟨Option.none, 0, ?_, ?_, h2⟩
  · rw [h1, hK, h]; simp [zS, hn]
  · rw [hK]; exact World.ownsRow_nil _ _ _ _
theorem rs_ok {o a : TV} {nm : Nat} {ms : List Bool} (h : rsE o a nm = 0) {w : World} {f : FuncId} {args : Array Value}
    (hc : Calls Try.prog f args w (RetTree o.W o.H o.C o.D (resKs o.ks a.ks ms o.n) w)) : Calls Try.prog f args w (RetRs o a nm ms w) := by
  have hK : rsK o a nm ms = resKs o.ks a.ks ms o.n := by unfold rsK; rw [if_pos h]
  refine hc.mono fun e w' ⟨ga, k, h1, h2, h3⟩ => ⟨ga, k, ?_, ?_, h3⟩
  · rw [h1, hK, h]; simp [zS]
  · rw [hK]; exact h2
theorem resolve_rs (o a : TV) (am : Option Addr) (nm cm : Nat) (ms : List Bool) (w : World) (ho : TOk w o) (ha : TOk w a) (hms : Bls w am nm cm ms) : Calls Try.prog 14 #[o.val, .slice am nm cm, a.val] w (RetRs o a nm ms w) := by
  by_cases hm : (o.may && a.may) = true
  · by_cases hk : o.alike a ∧ nm = o.n
    · have h0 : rsE o a nm = 0 := by unfold rsE; rw [if_pos hm, if_pos hk]
      simp only [Bool.and_eq_true] at hm
      obtain ⟨W, H, C, D, po, xo, co, pa, xa, ca, _, _, _, n, oks, aks, _, rfl, rfl, _, hn⟩ := mg_lit ho ha ha hm.1 hm.2 hm.2 hk.1 hk.1
      obtain ⟨_, rfl⟩ := hk
      obtain ⟨pm, xm, rfl, _⟩ := hms.cells hn
      exact rs_ok h0 (resolve_ok W H C D po xo co pa xa ca nm pm xm cm oks aks ms w ho ha hms (by simp [hm.1, hm.2]) hn)
    · exact rs_err (by unfold rsE; rw [if_pos hm, if_neg hk]) (by decide) (resolve_shape o a am nm cm w ho ha (by simpa using hm) hk)
  · exact rs_err (by unfold rsE; rw [if_neg hm]) (by decide) (resolve_form o a am nm cm w ho ha (by
      rw [Bool.eq_false_iff]; intro h; exact hm (by simpa using h)))
theorem rresolve_rs (o a : TV) (am : Option Addr) (nm cm : Nat) (ms : List Bool) (w : World) (ho : TOk w o) (ha : TOk w a) (hms : Bls w am nm cm ms) : Calls Try.prog 15 #[o.val, .slice am nm cm, a.val] w (RetRs o a nm ms w) := by
  by_cases hm : (o.may && a.may) = true
  · by_cases hk : o.alike a ∧ nm = o.n
    · have h0 : rsE o a nm = 0 := by unfold rsE; rw [if_pos hm, if_pos hk]
      simp only [Bool.and_eq_true] at hm
      obtain ⟨W, H, C, D, po, xo, co, pa, xa, ca, _, _, _, n, oks, aks, _, rfl, rfl, _, hn⟩ := mg_lit ho ha ha hm.1 hm.2 hm.2 hk.1 hk.1
      obtain ⟨_, rfl⟩ := hk
      obtain ⟨pm, xm, rfl, _⟩ := hms.cells hn
      exact rs_ok h0 (rresolve_ok W H C D po xo co pa xa ca nm pm xm cm oks aks ms w ho ha hms hm.1 hm.2 hn)
    · exact rs_err (by unfold rsE; rw [if_pos hm, if_neg hk]) (by decide) (rresolve_shape o a am nm cm w ho ha hm hk)
  · exact rs_err (by unfold rsE; rw [if_neg hm]) (by decide) (rresolve_form o a am nm cm w ho ha (Bool.eq_false_iff.2 hm))
/-- Differ, whatever the two trees. -/
theorem rdiffer_any (o a : TV) (w : World) (ho : TOk w o) (ha : TOk w a) :
    Calls Try.prog 17 #[o.val, a.val] w fun e w' => ∃ ad k, e = .returned (.tuple #[.slice ad (chX o a).length k, .int .i64 (chE o a)]) ∧ Reads .i64 w' ad (chX o a).length k (chX o a) ∧ Below w.heap.size w w' := by
  by_cases hm : (o.may && a.may) = true
  case neg =>
    have e : chE o a = 4 := by unfold chE; rw [if_neg hm]
    have ex : chX o a = [] := by unfold chX; rw [e]; simp
    rw [e, ex]
    exact (rdiffer_form o a w ho ha (Bool.eq_false_iff.2 hm)).mono fun _ _ ⟨h1, h2⟩ => ⟨_, _, h1, Reads.none _ _, h2⟩
  by_cases hk : o.alike a
  case neg =>
    have e : chE o a = 13 := by unfold chE; rw [if_pos hm, if_neg hk]
    have ex : chX o a = [] := by unfold chX; rw [e]; simp
    rw [e, ex]
    exact (rdiffer_shape o a w ho ha hm hk).mono fun _ _ ⟨h1, h2⟩ => ⟨_, _, h1, Reads.none _ _, h2⟩
  have e : chE o a = 0 := by unfold chE; rw [if_pos hm, if_pos hk]
  have ex : chX o a = difI o.ks a.ks o.n := by unfold chX; rw [if_pos e]
  rw [e, ex]
  simp only [Bool.and_eq_true] at hm
  obtain ⟨W, H, C, D, po, xo, co, pa, xa, ca, _, _, _, n, oks, aks, _, rfl, rfl, _, hn⟩ := mg_lit ho ha ha hm.1 hm.2 hm.2 hk hk
  exact (rdiffer_ok W H C D po xo co pa xa ca n oks aks w ho ha hm.1 hm.2).mono fun _ _ ⟨ad, k, h1, h2, h3⟩ => ⟨ad, k, h1, reads_of_owns h2, h3⟩
end Go.Proofs.Ytbmbelnjgnahhaa
