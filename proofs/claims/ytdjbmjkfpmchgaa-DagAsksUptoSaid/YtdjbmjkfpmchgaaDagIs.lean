/-
  dag's Is: looked up among the ancestors.
-/
import Derived.Test.YtdjbmjkfpmchgaaDagAnc
namespace Go.Proofs.Ytdjbmjkfpmchgaa
open Go.RowKit Go.Maps

/-- How many of a rising list are less than x. -/
theorem rises_split {l : List ByteArray} (h : Rises l) (x : ByteArray) : ∃ k, k ≤ l.length ∧ (∀ t, t < k → ltB (l.getD t ByteArray.empty) x = true) ∧ ∀ t, k ≤ t → t < l.length → ltB (l.getD t ByteArray.empty) x = false := by
  induction l with
  | nil => exact ⟨0, Nat.le_refl _, fun t h => absurd h (by omega), fun t _ h => absurd h (by simp)⟩
  | cons y l ih =>
    unfold Rises at h
    rw [List.pairwise_cons] at h
    by_cases hy : ltB y x = true
    · obtain ⟨k, h1, h2, h3⟩ := ih h.2
      refine ⟨k + 1, by simp; omega, fun t ht => ?_, fun t ht hl => ?_⟩
      · cases t with
        | zero => exact hy
        | succ t => exact h2 t (by omega)
      · cases t with
        | zero => omega
        | succ t => exact h3 t (by omega) (by simp at hl; omega)
    · refine ⟨0, Nat.zero_le _, fun t h => absurd h (by omega), fun t _ hl => ?_⟩
      rw [Bool.not_eq_true] at hy
      cases t with
      | zero => exact hy
      | succ t =>
        have hm : l.getD t ByteArray.empty ∈ l := getDS_mem (by simp at hl; omega)
        have h1 := h.1 _ hm
        cases h2 : ltB (l.getD t ByteArray.empty) x
        · exact h2
        · have := ltB_trans h1 h2
          rw [hy] at this
          cases this
theorem search_own (a : Option Addr) (n cap : Nat) (l : List ByteArray) (x : ByteArray) (w : World) (hr : Strs w a n cap l) (hl : Rises l) (hn : n ≤ 1000000) :
    Calls Try.prog 28 #[.slice a n cap, .string x] w fun e w' => ∃ I : Int, e = .returned (.tuple #[.int .i64 I, .bool (decide (x ∈ l))]) ∧ ∃ q, w' = w.drewN q := by
  by_cases h0 : 0 < n
  · obtain ⟨b, off, rfl, hlt, hc⟩ := hr.cells h0
    have hlen := hr.len
    obtain ⟨k, h1, h2, h3⟩ := rises_split hl x
    let Sx : Nat → ByteArray := fun t => if t < n then l.getD t ByteArray.empty else x
    have hbs : Lib.bsGo (fun t => Op.bytesLess (Sx t).toList x.toList) n 0 n = k := by
      refine Lib.bsGo_spec _ k (fun t ht => ?_) (fun t ht => ?_) n 0 n (by omega) (Nat.zero_le _) (by omega)
      · show ltB (Sx t) x = true
        have e : Sx t = l.getD t ByteArray.empty := if_pos (by omega)
        rw [e]; exact h2 t ht
      · show ltB (Sx t) x = false
        by_cases htn : t < n
        · have e : Sx t = l.getD t ByteArray.empty := if_pos htn
          rw [e]; exact h3 t ht (by omega)
        · have e : Sx t = x := if_neg htn
          rw [e]; exact ltB_irrefl x
    refine (Try.slices_BinarySearch_string b off n cap Sx x w (by omega) (fun j hj => by
      have e : Sx j = l.getD j ByteArray.empty := if_pos hj
      rw [e]; exact hc j hj)).mono ?_
    rintro e w' ⟨rfl, q, rfl⟩
    rw [hbs]
    refine ⟨(k : Nat), ?_, q, rfl⟩
    have : decide (k < n ∧ Sx k = x) = decide (x ∈ l) := by
      rw [decide_eq_decide]
      constructor
      · rintro ⟨hk, e⟩
        have e2 : Sx k = l.getD k ByteArray.empty := if_pos hk
        rw [← e, e2]
        exact getDS_mem (by omega)
      · intro hm
        obtain ⟨j, hj, e⟩ := mem_getDS hm
        have hjk : ¬ j < k := fun h => by
          have := h2 j h
          rw [e, ltB_irrefl] at this
          cases this
        have hk : k < n := by omega
        refine ⟨hk, ?_⟩
        have e2 : Sx k = l.getD k ByteArray.empty := if_pos hk
        rw [e2]
        by_cases hjk' : j = k
        · rw [← hjk']; exact e
        · have hp := (List.pairwise_iff_getElem.1 hl) k j (by omega) hj (by omega)
          have e3 : l[k]'(by omega) = l.getD k ByteArray.empty := by simp [List.getD, show k < l.length by omega]
          have e4 : l[j] = x := by rw [← e]; simp [List.getD, hj]
          rw [e3, e4] at hp
          have := h3 k (Nat.le_refl _) (by omega)
          rw [hp] at this
          cases this
    rw [this]
  · obtain rfl : n = 0 := by omega
    obtain rfl : l = [] := List.eq_nil_of_length_eq_zero hr.len
    refine (Try.slices_BinarySearch_string_empty a cap x w).mono ?_
    rintro e w' ⟨rfl, rfl⟩
    exact ⟨0, by simp, 0, rfl⟩

/-- Is a one of b's ancestors? -/
noncomputable def ancB (ns : List Nd) (a b : ByteArray) : Bool := @decide (b ∈ keysOf ns ∧ Reach ns b a) (Classical.propDecidable _)
theorem ancB_iff (ns : List Nd) (a b : ByteArray) : ancB ns a b = true ↔ b ∈ keysOf ns ∧ Reach ns b a := by
  unfold ancB; exact @decide_eq_true_iff _ (Classical.propDecidable _)
theorem ancB_anc {ns : List Nd} {b : ByteArray} {l : List ByteArray} (h : IsAnc ns b l) (a : ByteArray) : decide (a ∈ l) = ancB ns a b := by
  rw [Bool.eq_iff_iff, decide_eq_true_eq, ancB_iff]; exact h.mem a

set_option maxHeartbeats 1000000 in
theorem is_any (g gm : Nat) (M : ByteArray → Option Value) (ns : List Nd) (a b : ByteArray) (w : World) (hg : Gr w g gm M ns) (G : Good ns) (hK : Keyable ns) (hb : b.size ≤ maxLen) :
    Calls Try.prog 19 #[gp g, .string a, .string b] w fun e w' => e = .returned (.bool (ancB ns a b)) ∧ Below w.heap.size w w' := by
  have GR := Lib.hid hg; have GD := Lib.hid G; have HK := Lib.hid hK
  clear hg G hK
  go_enter Try.func19, Try.ntmps19
  go_wp2_with fail
  refine (anc_any g gm M ns b _ GR.out GD.out HK.out hb).mono ?_; rintro e w1 ⟨l, hl, aa, cap, rfl, ho, b1⟩
  go_wp2_with fail
  refine (search_own aa l.length cap l a _ (readsA_of_owns _ ho) hl.rises (by have := hl.le GD.out; have := GD.out.few; omega)).mono ?_; rintro e w2 ⟨I, rfl, q, rfl⟩
  rw [ancB_anc hl a]
  go_wp2_with fail
  go_ret
  exact ⟨rfl, below_drewN b1 q⟩
end Go.Proofs.Ytdjbmjkfpmchgaa
