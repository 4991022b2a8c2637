/-
  The check of a drawn region (lexB), quickly: the table of the operations once, then two by two.
-/
import Derived.Test.YtdjbmjkfpmchgaaGrow
namespace Go.Proofs.Ytdjbmjkfpmchgaa
open Go.RowKit

/-- Of an operation: what it writes, what it looks at, what it waits for. -/
structure Row3 where
  dst : Option Nat
  looks : List Nat
  ons : List Nat
def row3 (ops : Array Oper) (o : Oper) : Row3 := ⟨o.dst, o.looksAt ops, (o.after.toList.filter (Region.binds .any)).map (·.on)⟩
def force : List Nat → (List Nat → Bool) → Bool
  | [], k => k []
  | x :: xs, k => force xs fun ys => k (x :: ys)
theorem force_eq : ∀ (l : List Nat) (k : List Nat → Bool), force l k = k l
  | [], _ => rfl
  | x :: xs, k => by rw [force, force_eq xs]
def rows3 (ops : Array Oper) : List Oper → (List Row3 → Bool) → Bool
  | [], k => k []
  | o :: os, k => force (o.looksAt ops) fun lk => force ((o.after.toList.filter (Region.binds .any)).map (·.on)) fun on => rows3 ops os fun rs => k (⟨o.dst, lk, on⟩ :: rs)
theorem rows3_eq (ops : Array Oper) : ∀ (l : List Oper) (k : List Row3 → Bool), rows3 ops l k = k (l.map (row3 ops))
  | [], _ => rfl
  | o :: os, k => by rw [rows3, force_eq, force_eq, rows3_eq ops os]; rfl
def memN (x : Nat) : List Nat → Bool
  | [] => false
  | y :: ys => Nat.beq x y || memN x ys
theorem memN_iff (x : Nat) : ∀ l : List Nat, memN x l = true ↔ x ∈ l
  | [] => by simp [memN]
  | y :: ys => by simp [memN, memN_iff x ys]
def isN (d : Option Nat) (x : Nat) : Bool := match d with | some e => Nat.beq e x | none => false
def apart3 (x y : Row3) : Bool :=
  (match x.dst with | some d => !memN d y.looks && !isN y.dst d | none => true) && (match y.dst with | some d => !memN d x.looks | none => true)
def pairs3 (k : Nat) (x : Row3) : List Row3 → Bool
  | [] => true
  | y :: ys => (memN k y.ons || apart3 x y) && pairs3 k x ys
def below3 (k : Nat) : List Nat → Bool
  | [] => true
  | y :: ys => Nat.blt y k && below3 k ys
def allR3 : Nat → List Row3 → Bool
  | _, [] => true
  | k, x :: xs => below3 k x.ons && pairs3 k x xs && allR3 (k + 1) xs
def lexFast (l : List Oper) : Bool := Region.noSelect l.toArray && rows3 l.toArray l (allR3 0)

theorem below3_spec (k : Nat) : ∀ l : List Nat, below3 k l = true → ∀ x ∈ l, x < k
  | [], _, _, hx => nomatch hx
  | y :: ys, h, x, hx => by
    simp only [below3, Bool.and_eq_true] at h
    rcases List.mem_cons.1 hx with rfl | hx
    · have := h.1; simpa [Nat.blt_eq] using this
    · exact below3_spec k ys h.2 x hx
theorem pairs3_spec (k : Nat) (x : Row3) : ∀ l : List Row3, pairs3 k x l = true → ∀ y ∈ l, memN k y.ons = true ∨ apart3 x y = true
  | [], _, _, hx => nomatch hx
  | z :: zs, h, y, hy => by
    simp only [pairs3, Bool.and_eq_true, Bool.or_eq_true] at h
    rcases List.mem_cons.1 hy with rfl | hy
    · exact h.1
    · exact pairs3_spec k x zs h.2 y hy
theorem allR3_spec : ∀ (l : List Row3) (k : Nat), allR3 k l = true → ∀ i (hi : i < l.length), (∀ x ∈ l[i].ons, x < k + i) ∧ ∀ j (hj : j < l.length), i < j → memN (k + i) l[j].ons = true ∨ apart3 l[i] l[j] = true
  | [], _, _, _, hi => nomatch hi
  | r :: rs, k, h, i, hi => by
    simp only [allR3, Bool.and_eq_true] at h
    match i, hi with
    | 0, hi =>
      refine ⟨fun x hx => by simpa using below3_spec k _ h.1.1 x hx, fun j hj hij => ?_⟩
      match j, hj, hij with
      | j + 1, hj, _ => exact pairs3_spec k r rs h.1.2 _ (List.getElem_mem _)
    | i + 1, hi =>
      have := allR3_spec rs (k + 1) h.2 i (by simpa using hi)
      have e : k + 1 + i = k + (i + 1) := by omega
      rw [e] at this
      refine ⟨this.1, fun j hj hij => ?_⟩
      match j, hj, hij with
      | j + 1, hj, hij => exact this.2 j (by simpa using hj) (by omega)
theorem apart_of3 {ops : Array Oper} {x y : Oper} (h : apart3 (row3 ops x) (row3 ops y) = true) : x.apart ops y = true := by
  have hm : ∀ (d : Nat) (l : List Nat), memN d l = l.contains d := fun d l => by
    rw [Bool.eq_iff_iff, memN_iff]; simp
  have hi : ∀ (d : Nat) (o : Option Nat), (!isN o d) = (o != some d) := fun d o => by
    cases o <;> simp [isN, bne]
    rename_i v
    cases hb : Nat.beq v d
    · have : v ≠ d := fun e => by subst e; simp at hb
      simpa using this
    · have : v = d := Nat.eq_of_beq_eq_true hb
      simpa using this
  simp only [apart3, row3, hm, hi] at h
  exact h

theorem lexFrom_fast (l : List Oper) (hA : ∀ i (hi : i < l.length), (∀ e ∈ (l[i]).after.toList, Region.binds .any e = true → e.on < i) ∧ ∀ j (hj : j < l.length), i < j → (∃ e ∈ (l[j]).after.toList, Region.binds .any e = true ∧ e.on = i) ∨ (l[i]).apart l.toArray l[j] = true) :
    ∀ (fuel k : Nat) (listed : Array Bool), k + fuel = l.length → listed.size = l.length → (∀ j b, j < l.length → listed.getD j b = decide (j < k)) → Region.lexFrom .any l.toArray fuel k listed = true
  | 0, k, listed, hk, hs, hl => by
    rw [Region.lexFrom, List.isEmpty_iff]
    unfold Region.ready
    rw [List.filter_eq_nil_iff]
    intro i hi
    have hi2 : i < l.length := by simpa using hi
    rw [hl i true hi2]
    simp; omega
  | fuel + 1, k, listed, hk, hs, hl => by
    have hkl : k < l.length := by omega
    rw [Region.lexFrom]
    simp only [Bool.and_eq_true]
    refine ⟨⟨?_, ?_⟩, lexFrom_fast l hA fuel (k + 1) _ (by omega) (by simpa using hs) fun j b hj => ?_⟩
    · rw [List.contains_iff_mem]
      unfold Region.ready
      rw [List.mem_filter]
      refine ⟨by simpa using hkl, ?_⟩
      rw [hl k true hkl]
      simp only [Nat.lt_irrefl, decide_false, Bool.not_false, Bool.true_and]
      have he : l.toArray[k]? = some l[k] := by simp [hkl]
      rw [he]
      simp only [Option.map_some, Option.getD_some]
      rw [Array.all_eq_true']
      intro e hee
      by_cases hb : Region.binds .any e = true
      · have := (hA k hkl).1 e (by simpa using hee) hb
        rw [hl e.on false (by omega)]
        simp [this]
      · simp [hb]
    · unfold Region.free
      have he : l.toArray[k]? = some l[k] := by simp [hkl]
      rw [he]
      simp only
      rw [List.all_eq_true]
      intro j hj
      have hj2 : j < l.length := by simpa using hj
      have hej : l.toArray[j]? = some l[j] := by simp [hj2]
      rw [hl j true hj2, hej]
      by_cases h1 : j = k
      · simp [h1]
      · by_cases h2 : j < k
        · simp [h2]
        · simp only [Bool.or_eq_true]
          right
          rcases (hA k hkl).2 j hj2 (by omega) with ⟨e, h3, h4, h5⟩ | h3
          · left
            rw [Array.any_eq_true']
            exact ⟨e, by simpa using h3, by simp [h4, h5]⟩
          · exact .inr h3
    · by_cases h1 : j = k
      · subst h1
        simp [Array.getD, hs, hkl]
      · rw [Array.getD_eq_getD_getElem?, Array.getElem?_setIfInBounds_ne (fun e => h1 e.symm), ← Array.getD_eq_getD_getElem?, hl j b hj]
        exact decide_eq_decide.2 (by omega)
theorem lexB_of_fast {l : List Oper} (h : lexFast l = true) : Region.lexB .any l.toArray = true := by
  simp only [lexFast, Bool.and_eq_true, rows3_eq] at h
  rw [Region.lexB, h.1, Bool.true_and]
  refine lexFrom_fast l (fun i hi => ?_) _ 0 _ (by simp) (by simp) (fun j b hj => by simp [Array.getD, hj])
  have H := allR3_spec _ 0 h.2 i (by simpa using hi)
  simp only [List.getElem_map, Nat.zero_add, List.length_map] at H
  refine ⟨fun e he hb => H.1 e.on ?_, fun j hj hij => ?_⟩
  · simp only [row3, List.mem_map, List.mem_filter]
    exact ⟨e, ⟨he, hb⟩, rfl⟩
  · rcases H.2 j hj hij with h1 | h1
    · left
      rw [memN_iff] at h1
      simp only [row3, List.mem_map, List.mem_filter] at h1
      obtain ⟨e, ⟨h2, h3⟩, h4⟩ := h1
      exact ⟨e, h2, h3, h4⟩
    · exact .inr (apart_of3 h1)
theorem wp_region_grow_fast {P : Program} {id : Nat} {Q : Exit → Act → World → Prop} {a : Act} {w : World} {l : List Oper} (hm : P.follows .mixedOrders = true) (hB : lexFast l = true)
    (h : wpQuiet P l.toArray (fun w' => ∃ x : GrownW w, w' = x.val) (fun a' => ∀ w', (∃ x : GrownW w, w' = x.val) → Q .normal a' w') l a) : (Code.region id l.toArray true).wp P Q a w :=
  wp_region_grow_lit hm (lexB_of_fast hB) h
end Go.Proofs.Ytdjbmjkfpmchgaa
