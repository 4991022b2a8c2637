/-
  A region that draws its order, by a relation over what has come up: 'whatever has come up, the relation holds; each operation that may come next keeps it'. One proof an operation, in the place of one an order.
-/
import Derived.Test.YtbmbelnjgnahhaaLib
namespace Go.Proofs.Ytbmbelnjgnahhaa
open Go.RowKit

section
variable {P : Program} {ops : Array Oper} {Q : Exit → Act → World → Prop} {md : Region.Mode}

/-- How many have not come up. -/
def unlisted (l : Array Bool) : Nat := l.toList.count false

theorem unlisted_set {l : Array Bool} {i : Nat} (h : l.getD i true = false) : unlisted (l.setIfInBounds i true) + 1 = unlisted l := by
  unfold unlisted
  rcases Nat.lt_or_ge i l.size with hlt | hge
  · have hl : l[i] = false := by simpa [hlt] using h
    have hl' : l.toList[i]'(by simpa using hlt) = false := by simpa using hl
    have hpos : 0 < l.toList.count false := List.count_pos_iff.2 (hl' ▸ List.getElem_mem _)
    rw [Array.toList_setIfInBounds, List.count_set (by simpa using hlt), hl']
    show List.count false l.toList - 1 + 0 + 1 = List.count false l.toList
    omega
  · simp [Array.getElem?_eq_none hge] at h

theorem wpAny_inv (J : Array Bool → Act → World → Prop)
    (hstep : ∀ i o l a w, ops[i]? = some o → i ∈ Region.ready md ops l → J l a w → ∀ K : Act → World → Prop, (∀ a w, J (l.setIfInBounds i true) a w → K a w) →
      if Region.wanted o (yielded ops a.tmps) = true then Oper.wp P o a w K Q else K (a.put o.dst undef) w)
    (hend : ∀ l a w, Region.ready md ops l = [] → J l a w → Q .normal a w) :
    ∀ fuel l a w, unlisted l ≤ fuel → J l a w → wpAny P md ops Q fuel l a w := by
  intro fuel
  induction fuel with
  | zero =>
    intro l a w hu hJ
    have hr : Region.ready md ops l = [] := by
      rw [List.eq_nil_iff_forall_not_mem]
      intro i hi
      have := unlisted_set (mem_ready.1 hi).1
      omega
    exact ⟨hr, hend l a w hr hJ⟩
  | succ fuel ih =>
    intro l a w hu hJ
    refine ⟨fun h => hend l a w h hJ, fun i hi => ?_⟩
    obtain ⟨h0, o, ho, _⟩ := mem_ready.1 hi
    exact wpOp_step ho (fun K hK => hstep i o l a w ho hi hJ K (fun a' w' hJ' => hK a' w' (ih _ a' w' (by have := unlisted_set h0; omega) hJ')))

theorem wp_region_inv {id : Nat} {a : Act} {w : World} (J : Array Bool → Act → World → Prop) (hm : P.follows .mixedOrders = true)
    (h0 : J (Array.replicate ops.size false) a w.drew)
    (hstep : ∀ i o l a w, ops[i]? = some o → i ∈ Region.ready .any ops l → J l a w → ∀ K : Act → World → Prop, (∀ a w, J (l.setIfInBounds i true) a w → K a w) →
      if Region.wanted o (yielded ops a.tmps) = true then Oper.wp P o a w K Q else K (a.put o.dst undef) w)
    (hend : ∀ l a w, Region.ready .any ops l = [] → J l a w → Q .normal a w) : (Code.region id ops true).wp P Q a w := by
  refine wp_region_any hm ?_
  exact wpAny_inv J hstep hend ops.size _ a w.drew (by simp [unlisted]) h0

/-- A frame with values in some slots. -/
def layAt (a : Act) : List Nat → List Value → Act
  | d :: ds, v :: vs => layAt (a.put (some d) v) ds vs
  | _, _ => a

/-- S at each operation of a list. -/
def StepAll (S : Nat → Oper → Prop) : Nat → List Oper → Prop
  | _, [] => True
  | i, o :: os => S i o ∧ StepAll S (i + 1) os
theorem StepAll.get {S : Nat → Oper → Prop} : ∀ {l : List Oper} {k : Nat}, StepAll S k l → ∀ {i : Nat} {o : Oper}, l[i]? = some o → S (k + i) o
  | o' :: os, k, h, 0, o, ho => by simp at ho; subst ho; exact h.1
  | o' :: os, k, h, i + 1, o, ho => by
    have := StepAll.get h.2 (i := i) (o := o) (by simpa using ho)
    rwa [show k + (i + 1) = k + 1 + i by omega]
  | [], _, _, i, o, ho => by simp at ho

/-- The same, with a frame whose slots 'ds' alone change. -/
theorem wp_region_inv_at {id : Nat} {F : Act} {w : World} {os : List Oper} (ds : List Nat) (M : Array Bool → List Value → World → Prop) (vs0 : List Value) (hm : P.follows .mixedOrders = true)
    (hF : layAt F ds vs0 = F) (h0 : M (Array.replicate os.length false) vs0 w.drew)
    (hstep : StepAll (fun i o => ∀ l vs w, l.getD i true = false → (∀ e ∈ o.after, Region.binds .any e = true → l.getD e.on false = true) → M l vs w → ∀ K : Act → World → Prop, (∀ vs w, M (l.setIfInBounds i true) vs w → K (layAt F ds vs) w) →
      if Region.wanted o (yielded os.toArray (layAt F ds vs).tmps) = true then Oper.wp P o (layAt F ds vs) w K Q else K ((layAt F ds vs).put o.dst undef) w) 0 os)
    (hend : ∀ l vs w, Region.ready .any os.toArray l = [] → M l vs w → Q .normal (layAt F ds vs) w) : (Code.region id os.toArray true).wp P Q F w := by
  refine wp_region_inv (fun l a w => ∃ vs, a = layAt F ds vs ∧ M l vs w) hm ⟨vs0, hF.symm, by simpa using h0⟩ ?_ ?_
  · rintro i o l _ w ho hr ⟨vs, rfl, hM⟩ K hK
    obtain ⟨h1, o', ho', h2⟩ := mem_ready.1 hr
    rw [ho] at ho'
    cases ho'
    have hs := hstep.get (i := i) (o := o) (by simpa using ho)
    rw [Nat.zero_add] at hs
    exact hs l vs w h1 h2 hM K (fun vs w hM => hK _ _ ⟨vs, rfl, hM⟩)
  · rintro l _ w hr ⟨vs, rfl, hM⟩
    exact hend l vs w hr hM
end
end Go.Proofs.Ytbmbelnjgnahhaa
