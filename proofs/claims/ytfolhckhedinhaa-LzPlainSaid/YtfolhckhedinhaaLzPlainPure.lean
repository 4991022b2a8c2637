/-
  Bytes in which no three stand twice: what is found. Nothing of the program.
-/
import Derived.Test.YtfolhckhedinhaaLzBackPure
import Derived.WideKeyArr
namespace Go.Proofs.Ytfolhckhedinhaa
open Go.RowKit Go.Maps Go.WideMaps

/-! three bytes as a key -/
def k3 (x y z : Int) : Lit := .string (keyBytes [.int .u8 x, .int .u8 y, .int .u8 z])
theorem k3_inj {x y z x' y' z' : Int} (hx : 0 ≤ x ∧ x < 256) (hy : 0 ≤ y ∧ y < 256) (hz : 0 ≤ z ∧ z < 256) (hx' : 0 ≤ x' ∧ x' < 256) (hy' : 0 ≤ y' ∧ y' < 256) (hz' : 0 ≤ z' ∧ z' < 256) (h : k3 x y z = k3 x' y' z') : x = x' ∧ y = y' ∧ z = z' := by
  have wf8 : ∀ v : Int, 0 ≤ v ∧ v < 256 → (Lit.int .u8 v).wf = true := fun v hv => by
    simp only [Lit.wf, IntKind.min, IntKind.max, IntKind.signed, IntKind.bits, Bool.and_eq_true, decide_eq_true_eq, Bool.false_eq_true, if_false]
    omega
  have h1 : keyBytes [.int .u8 x, .int .u8 y, .int .u8 z] = keyBytes [.int .u8 x', .int .u8 y', .int .u8 z'] := by
    unfold k3 at h
    injection h
  have := keyBytes_inj (l := [.int .u8 x, .int .u8 y, .int .u8 z]) (l' := [.int .u8 x', .int .u8 y', .int .u8 z']) ⟨rfl, rfl, rfl, trivial⟩
    (by intro a ha; simp at ha; rcases ha with rfl | rfl | rfl <;> (first | exact wf8 _ hx | exact wf8 _ hy | exact wf8 _ hz))
    (by intro a ha; simp at ha; rcases ha with rfl | rfl | rfl <;> (first | exact wf8 _ hx' | exact wf8 _ hy' | exact wf8 _ hz')) h1
  simp at this
  exact this

theorem keyOf_three {P : Program} {k e : TypeId} (A : ArrKey P k e 3) (he : P.underlying e = some (.int .u8)) (hsz : ∃ m, P.types.size = m + 1) {a b c : Int} (wa : (Lit.int .u8 a).wf = true) (wb : (Lit.int .u8 b).wf = true) (wc : (Lit.int .u8 c).wf = true) :
    keyOf P k (.agg #[.int .u8 a, .int .u8 b, .int .u8 c]) = some (k3 a b c) := by
  have hkt := A.keyType hsz
  obtain ⟨m, hm⟩ := hsz
  unfold keyOf
  simp only [A.hu]
  rw [if_pos (by simp [hkt, Value.formed, A.hu, A.size]), hm]
  unfold Program.keyLits
  simp only [A.hu, Value.cells]
  rw [if_pos (by rw [A.size]; rfl), show List.range 3 = [0, 1, 2] from rfl, List.mapM_cons, List.mapM_cons, List.mapM_cons, List.mapM_nil]
  simp [A.one, Program.keyLits, he, wa, wb, wc, k3]

def kAt (xs : List Int) (k : Nat) : Lit := k3 (xs.getD k 0) (xs.getD (k + 1) 0) (xs.getD (k + 2) 0)
theorem kAt_iff {xs : List Int} (hx : isB xs) (i j : Nat) : kAt xs i = kAt xs j ↔ code xs i = code xs j := by
  have a0 := getD_bd' hx i; have a1 := getD_bd' hx (i + 1); have a2 := getD_bd' hx (i + 2)
  have b0 := getD_bd' hx j; have b1 := getD_bd' hx (j + 1); have b2 := getD_bd' hx (j + 2)
  unfold kAt code
  constructor
  · intro h
    obtain ⟨e0, e1, e2⟩ := k3_inj a0 a1 a2 b0 b1 b2 h
    rw [e0, e1, e2]
  · intro h
    rw [show xs.getD i 0 = xs.getD j 0 by omega, show xs.getD (i + 1) 0 = xs.getD (j + 1) 0 by omega, show xs.getD (i + 2) 0 = xs.getD (j + 2) 0 by omega]

/-- The map behind k rounds. -/
def Seen (xs : List Int) (D : DataW Unit) (k : Nat) : Prop := IsMap D ∧ ∀ j, Maps.has D (kAt xs j) = decide (lastOf xs k (code xs j) ≠ -1)
theorem seen_zero (xs : List Int) : Seen xs (.map []) 0 := ⟨⟨_, rfl⟩, fun _ => by simp [lastOf]; rfl⟩
theorem seen_put {xs : List Int} (hx : isB xs) {D : DataW Unit} {k : Nat} (h : Seen xs D k) (hk : k + 3 ≤ xs.length) (d : DataW Unit) : Seen xs (D.put (kAt xs k) d) (k + 1) := by
  refine ⟨isMap_put h.1 _ _, fun j => ?_⟩
  rw [lastOf]
  by_cases e : code xs k = code xs j
  · rw [if_pos ⟨hk, e⟩, ← (kAt_iff hx k j).2 e, has_put_same (k := kAt xs k) h.1 trivial _]
    symm
    rw [decide_eq_true_iff]
    omega
  · rw [if_neg (fun h' => e h'.2), has_put_other (fun h' => e ((kAt_iff hx j k).1 h').symm)]
    exact h.2 j

/-- Do three stand twice, ahead of k? -/
def tw (xs : List Int) : Nat → Bool
  | 0 => false
  | k + 1 => tw xs k || decide (k + 3 ≤ xs.length ∧ aheadV xs k ≠ -1)
theorem tw_iff (xs : List Int) (k : Nat) : tw xs k = true ↔ ∃ i, i < k ∧ i + 3 ≤ xs.length ∧ aheadV xs i ≠ -1 := by
  induction k with
  | zero => simp [tw]
  | succ k ih =>
    rw [tw, Bool.or_eq_true, ih, decide_eq_true_iff]
    constructor
    · rintro (⟨i, h1, h2⟩ | h)
      · exact ⟨i, by omega, h2⟩
      · exact ⟨k, by omega, h⟩
    · rintro ⟨i, h1, h2⟩
      by_cases e : i = k
      · subst e; exact .inr h2
      · exact .inl ⟨i, by omega, h2⟩

theorem mW_ge (xs : List Int) (a most : Nat) : ∀ (f : Nat) (p : Int) (l d : Nat), l ≤ (mW xs a most f p l d).1 := by
  intro f
  induction f with
  | zero => intro p l d; exact Nat.le_refl _
  | succ f ih =>
    intro p l d
    rw [mW]
    split
    · exact Nat.le_refl _
    · refine Nat.le_trans ?_ (ih _ _ _)
      split <;> omega
theorem mtch_zero_iff {xs : List Int} (hx : isB xs) (hl : xs.length ≤ 32768) (a : Nat) : (mtch xs a).1 = 0 ↔ ¬ (a + 3 ≤ xs.length ∧ aheadV xs a ≠ -1) := by
  have hb := aheadV_bd xs a
  constructor
  · rintro h0 ⟨h1, h2⟩
    obtain ⟨P, hP⟩ := Int.eq_ofNat_of_zero_le (show 0 ≤ aheadV xs a by omega)
    have hc : code xs P = code xs a := by
      have hav : aheadV xs a = lastOf xs a (code xs a) := by rw [aheadV, if_pos h1]
      have := (lastOf_code xs a (code xs a) (by rw [← hav]; omega)).1
      rw [← hav, hP] at this
      exact this
    have h3 := lcp_three ((r3_iff hx P a).2 ⟨h1, hc⟩) (mostOf xs.length a) (by unfold mostOf; omega)
    unfold mtch at h0
    rw [hP, mW, if_neg (by rintro (h | h | h) <;> first | omega | (unfold mostOf at h; omega))] at h0
    have := mW_ge xs a (mostOf xs.length a) 63 (aheadV xs (P : Int).toNat) (if 0 < lcp xs (P : Int).toNat a (mostOf xs.length a) then lcp xs (P : Int).toNat a (mostOf xs.length a) else 0) (if 0 < lcp xs (P : Int).toNat a (mostOf xs.length a) then a - (P : Int).toNat else 0)
    rw [h0] at this
    rw [Int.toNat_natCast] at this
    split at this <;> omega
  · intro h
    have : aheadV xs a = -1 := by
      by_cases h1 : a + 3 ≤ xs.length
      · by_cases h2 : aheadV xs a = -1
        · exact h2
        · exact absurd ⟨h1, h2⟩ h
      · rw [aheadV, if_neg h1]
    unfold mtch
    rw [this, mW, if_pos (.inl (by omega))]
theorem tokAt_pos (xs : List Int) (a : Nat) : 0 < (tokAt xs a).1 ↔ (mtch xs a).1 ≠ 0 := by
  unfold tokAt
  split
  · next h => simp [h]
  · next h => dsimp only; omega

def isCopy (t : Tok) : Bool := decide (0 < t.1)
theorem plain_steps {xs : List Int} (h : ∀ t ∈ findL xs, isCopy t = false) : ∀ i, i ≤ (findL xs).length → (iter xs i).2 = i := by
  intro i
  induction i with
  | zero => intro _; rfl
  | succ i ih =>
    intro hi
    obtain ⟨ha, ht⟩ := iter_tok xs i (by omega)
    have hm := h _ (List.mem_of_getElem? ht)
    have h0 : (mtch xs (iter xs i).2).1 = 0 := by
      by_cases e : (mtch xs (iter xs i).2).1 = 0
      · exact e
      · have := (tokAt_pos xs (iter xs i).2).2 e
        simp [isCopy] at hm
        omega
    rw [iter, if_pos ha]
    show (iter xs i).2 + stepAt xs (iter xs i).2 = i + 1
    rw [stepAt, if_pos h0, ih (by omega)]
theorem plain_len {xs : List Int} (h : ∀ t ∈ findL xs, isCopy t = false) : (findL xs).length = xs.length := by
  have h1 := plain_steps h _ (Nat.le_refl _)
  have h2 := iter_last xs
  omega
theorem copy_iff {xs : List Int} (hx : isB xs) (hl : xs.length ≤ 32768) : (0 < (findL xs).countP isCopy) ↔ tw xs (xs.length - 2) = true := by
  rw [tw_iff, List.countP_pos_iff]
  constructor
  · rintro ⟨t, ht, hc⟩
    obtain ⟨i, hi, rfl⟩ := List.getElem_of_mem ht
    obtain ⟨ha, ht2⟩ := iter_tok xs i hi
    rw [List.getElem?_eq_getElem hi] at ht2
    have e := Option.some.inj ht2
    rw [e] at hc
    have hp : (mtch xs (iter xs i).2).1 ≠ 0 := (tokAt_pos xs _).1 (by simpa [isCopy] using hc)
    have := fun h => hp ((mtch_zero_iff hx hl _).2 h)
    have h3 := Classical.not_not.1 this
    exact ⟨(iter xs i).2, by omega, h3⟩
  · rintro ⟨p, _, h3, h4⟩
    apply Classical.byContradiction
    intro hn
    have h : ∀ t ∈ findL xs, isCopy t = false := fun t ht => by
      cases hc : isCopy t with
      | false => rfl
      | true => exact absurd ⟨t, ht, hc⟩ hn
    have hlen := plain_len h
    obtain ⟨ha, ht⟩ := iter_tok xs p (by omega)
    rw [plain_steps h p (by omega)] at ht
    have := h _ (List.mem_of_getElem? ht)
    have h5 : (mtch xs p).1 ≠ 0 := fun h0 => (mtch_zero_iff hx hl p).1 h0 ⟨h3, h4⟩
    have h6 := (tokAt_pos xs p).2 h5
    simp [isCopy] at this
    omega
theorem plain_of_tw {xs : List Int} (hx : isB xs) (hl : xs.length ≤ 32768) (h : tw xs (xs.length - 2) = false) : (findL xs).length = xs.length := by
  refine plain_len fun t ht => ?_
  cases hc : isCopy t with
  | false => rfl
  | true =>
    have := (copy_iff hx hl).1 (List.countP_pos_iff.2 ⟨t, ht, hc⟩)
    rw [h] at this
    cases this
end Go.Proofs.Ytfolhckhedinhaa
