/-
  Texts as lists of signs: what Go's decoder reads, sign by sign, and how signs are written. Plain lemmas, nothing of the program.
-/
import Derived.Lib.ValidLaws
import Derived.Lib.FieldsU
import Derived.Lib.RuneBytes
import Derived.Test.YtmajdgmbcgkelaaDoorLib
namespace Go.Proofs.YtmajdgmbcgkelaaDoor
open Go.RowKit
open Go.Lib (decodeL decodeN decodeL_N validD validD_nil validD_step encodeRune encodeRuneZ decodeL_width)

/-- A number that is a sign. -/
def okR (r : Nat) : Prop := r < 55296 ∨ (57344 ≤ r ∧ r ≤ 1114111)

/-- What is written for signs. -/
def enc (rs : List Nat) : List UInt8 := rs.flatMap fun (r : Nat) => encodeRune (r : Int)

theorem enc_nil : enc [] = [] := rfl
theorem enc_cons (r : Nat) (rs : List Nat) : enc (r :: rs) = encodeRune (r : Int) ++ enc rs := by simp [enc]
theorem enc_append (rs ts : List Nat) : enc (rs ++ ts) = enc rs ++ enc ts := by simp [enc]

/-- The signs that a range over a text meets. -/
def runesF : Nat → List UInt8 → List Nat
  | 0, _ => []
  | n + 1, l => if l = [] then [] else (decodeL l).1 :: runesF n (l.drop (decodeL l).2)
def runes (l : List UInt8) : List Nat := runesF l.length l

theorem runesF_nil : ∀ n, runesF n [] = []
  | 0 => rfl
  | _ + 1 => by simp [runesF]
theorem runesF_fuel : ∀ (n m : Nat) (l : List UInt8), l.length ≤ n → l.length ≤ m → runesF n l = runesF m l
  | 0, m, l, hn, _ => by
    have : l = [] := List.eq_nil_of_length_eq_zero (by omega)
    subst this
    rw [runesF_nil, runesF_nil]
  | n + 1, 0, l, _, hm => by
    have : l = [] := List.eq_nil_of_length_eq_zero (by omega)
    subst this
    rw [runesF_nil, runesF_nil]
  | n + 1, m + 1, l, hn, hm => by
    unfold runesF
    by_cases hne : l = []
    · simp [hne]
    · have hw := decodeL_width l
      have hl : 0 < l.length := List.length_pos_iff.2 hne
      rw [if_neg hne, if_neg hne, runesF_fuel n m (l.drop (decodeL l).2) (by rw [List.length_drop]; omega) (by rw [List.length_drop]; omega)]
theorem runes_nil : runes [] = [] := rfl
theorem runes_step (l : List UInt8) (hne : l ≠ []) : runes l = (decodeL l).1 :: runes (l.drop (decodeL l).2) := by
  have hl : 0 < l.length := List.length_pos_iff.2 hne
  have hw := decodeL_width l
  obtain ⟨n, hn⟩ : ∃ n, l.length = n + 1 := ⟨l.length - 1, by omega⟩
  unfold runes
  rw [hn]
  show (if l = [] then [] else _) = _
  rw [if_neg hne, runesF_fuel n (l.drop (decodeL l).2).length _ (by rw [List.length_drop]; omega) (Nat.le_refl _)]

theorem dec_le (l : List UInt8) (hne : l ≠ []) : (decodeL l).2 ≤ l.length := by
  have hl : 0 < l.length := List.length_pos_iff.2 hne
  rw [decodeL_N]
  exact Go.Lib.decodeN_le_n' _ _ _ _ _ hl

set_option maxRecDepth 100000 in
set_option maxHeartbeats 4000000 in
/-- The ways to decode. -/
theorem decodeN_ways (n b0 b1 b2 b3 : Nat) (hn : 1 ≤ n) (h0 : b0 < 256) (h1 : b1 < 256) (h2 : b2 < 256) (h3 : b3 < 256) (hok : ¬ ((decodeN n b0 b1 b2 b3).1 = 65533 ∧ (decodeN n b0 b1 b2 b3).2 = 1)) :
    okR (decodeN n b0 b1 b2 b3).1 ∧ (decodeN n b0 b1 b2 b3).2 ≤ n ∧
    (((decodeN n b0 b1 b2 b3).2 = 1 ∧ encodeRuneZ ((decodeN n b0 b1 b2 b3).1 : Int) = [(b0 : Int)]) ∨
     ((decodeN n b0 b1 b2 b3).2 = 2 ∧ encodeRuneZ ((decodeN n b0 b1 b2 b3).1 : Int) = [(b0 : Int), b1]) ∨
     ((decodeN n b0 b1 b2 b3).2 = 3 ∧ encodeRuneZ ((decodeN n b0 b1 b2 b3).1 : Int) = [(b0 : Int), b1, b2]) ∨
     ((decodeN n b0 b1 b2 b3).2 = 4 ∧ encodeRuneZ ((decodeN n b0 b1 b2 b3).1 : Int) = [(b0 : Int), b1, b2, b3])) := by
  unfold decodeN at hok ⊢
  split at hok
  case isTrue h =>
    rw [if_pos h]
    refine ⟨by unfold okR; simp only; omega, hn, .inl ⟨rfl, ?_⟩⟩
    exact Go.Lib.encodeRuneZ_one (by omega) (by omega)
  case isFalse h =>
    rw [if_neg h]
    split at hok
    case isTrue h' =>
      rw [if_pos h']
      split at hok
      case isTrue hc =>
        rw [if_pos hc]
        refine ⟨by unfold okR; simp only; omega, by simp only; omega, .inr (.inl ⟨rfl, ?_⟩)⟩
        rw [Go.Lib.encodeRuneZ_two (by simp only; omega) (by simp only; omega)]
        simp only [List.cons.injEq, and_true]
        refine ⟨by omega, by omega⟩
      case isFalse hc => exact absurd ⟨rfl, rfl⟩ hok
    case isFalse h' =>
      rw [if_neg h']
      split at hok
      case isTrue h'' =>
        rw [if_pos h'']
        split at hok
        case isTrue hc =>
          rw [if_pos hc]
          refine ⟨by unfold okR; simp only; omega, by simp only; omega, .inr (.inr (.inl ⟨rfl, ?_⟩))⟩
          rw [Go.Lib.encodeRuneZ_three (by simp only; omega)]
          simp only [List.cons.injEq, and_true]
          refine ⟨by omega, by omega, by omega⟩
        case isFalse hc => exact absurd ⟨rfl, rfl⟩ hok
      case isFalse h'' =>
        rw [if_neg h'']
        split at hok
        case isTrue h3' =>
          rw [if_pos h3']
          split at hok
          case isTrue hc =>
            rw [if_pos hc]
            refine ⟨by unfold okR; simp only; omega, by simp only; omega, .inr (.inr (.inr ⟨rfl, ?_⟩))⟩
            rw [Go.Lib.encodeRuneZ_four (by simp only; omega) (by simp only; omega)]
            simp only [List.cons.injEq, and_true]
            refine ⟨by omega, by omega, by omega, by omega⟩
          case isFalse hc => exact absurd ⟨rfl, rfl⟩ hok
        case isFalse h3' => exact absurd ⟨rfl, rfl⟩ hok

theorem take_bytes (l : List UInt8) : ∀ k, k ≤ l.length → l.take k = (List.range k).map fun i => l.getD i 0 := by
  intro k hk
  apply List.ext_getElem
  · simp; omega
  · intro i h1 h2
    have : i < l.length := by simp at h1; omega
    simp [List.getD, this]

/-- A sign that is one is written by the bytes that it was read from. -/
theorem dec_enc (l : List UInt8) (hne : l ≠ []) (hok : ¬ ((decodeL l).1 = 65533 ∧ (decodeL l).2 = 1)) :
    okR (decodeL l).1 ∧ encodeRune ((decodeL l).1 : Int) = l.take (decodeL l).2 := by
  have hl : 0 < l.length := List.length_pos_iff.2 hne
  rw [decodeL_N] at hok ⊢
  have ub : ∀ i, (l.getD i 0).toNat < 256 := fun i => UInt8.toNat_lt _
  obtain ⟨a, b, c⟩ := decodeN_ways _ _ _ _ _ hl (ub 0) (ub 1) (ub 2) (ub 3) hok
  refine ⟨a, ?_⟩
  have back : ∀ i, ((((l.getD i 0).toNat : Nat) : Int).toNat).toUInt8 = l.getD i 0 := fun i => by simp
  rw [take_bytes l _ b]
  unfold encodeRune
  rcases c with ⟨e, c⟩ | ⟨e, c⟩ | ⟨e, c⟩ | ⟨e, c⟩ <;> rw [c, e] <;> simp only [List.map_cons, List.map_nil, back] <;> rfl

set_option maxRecDepth 100000 in
set_option maxHeartbeats 4000000 in
/-- What is written for a sign is read as that sign, whatever stands behind it. -/
theorem enc_dec (r : Nat) (h : okR r) (t : List UInt8) : decodeL (encodeRune (r : Int) ++ t) = (r, (encodeRune (r : Int)).length) := by
  unfold okR at h
  rw [decodeL_N]
  have tb : ∀ x : Int, 0 ≤ x → x < 256 → x.toNat.toUInt8.toNat = x.toNat := fun x h0 h1 => by
    show (UInt8.ofNat x.toNat).toNat = _
    rw [UInt8.toNat_ofNat']
    omega
  unfold encodeRune
  by_cases c1 : r ≤ 127
  · rw [Go.Lib.encodeRuneZ_one (by omega) (by omega)]
    simp only [List.map_cons, List.map_nil, List.cons_append, List.nil_append, List.length_cons, List.length_nil, List.getD_cons_zero]
    rw [tb _ (by omega) (by omega)]
    unfold decodeN
    rw [if_pos (by omega)]
    simp
  · by_cases c2 : r ≤ 2047
    · rw [Go.Lib.encodeRuneZ_two (by omega) (by omega)]
      simp only [List.map_cons, List.map_nil, List.cons_append, List.nil_append, List.length_cons, List.length_nil, List.getD_cons_zero, List.getD_cons_succ]
      rw [tb _ (by omega) (by omega), tb _ (by omega) (by omega)]
      unfold decodeN
      rw [if_neg (by omega), if_pos (by omega), if_pos (by omega)]
      simp only [Prod.mk.injEq, and_true]
      omega
    · by_cases c3 : r ≤ 65535
      · rw [Go.Lib.encodeRuneZ_three (by omega)]
        simp only [List.map_cons, List.map_nil, List.cons_append, List.nil_append, List.length_cons, List.length_nil, List.getD_cons_zero, List.getD_cons_succ]
        rw [tb _ (by omega) (by omega), tb _ (by omega) (by omega), tb _ (by omega) (by omega)]
        unfold decodeN
        rw [if_neg (by omega), if_neg (by omega), if_pos (by omega), if_pos (by omega)]
        simp only [Prod.mk.injEq, and_true]
        omega
      · rw [Go.Lib.encodeRuneZ_four (by omega) (by omega)]
        simp only [List.map_cons, List.map_nil, List.cons_append, List.nil_append, List.length_cons, List.length_nil, List.getD_cons_zero, List.getD_cons_succ]
        rw [tb _ (by omega) (by omega), tb _ (by omega) (by omega), tb _ (by omega) (by omega), tb _ (by omega) (by omega)]
        unfold decodeN
        rw [if_neg (by omega), if_neg (by omega), if_neg (by omega), if_pos (by omega), if_pos (by omega)]
        simp only [Prod.mk.injEq, and_true]
        omega

theorem encR_pos (r : Int) : 1 ≤ (encodeRune r).length ∧ (encodeRune r).length ≤ 4 := by
  have := Go.Lib.encodeRuneZ_length r
  simpa [encodeRune] using this
theorem encR_ne (r : Int) (t : List UInt8) : encodeRune r ++ t ≠ [] := by
  have h1 := (encR_pos r).1
  intro h
  have h2 := congrArg List.length h
  simp only [List.length_append, List.length_nil] at h2
  omega

/-- Signs are read as they are. -/
theorem runes_enc : ∀ rs : List Nat, (∀ r ∈ rs, okR r) → runes (enc rs) = rs
  | [], _ => rfl
  | r :: rs, h => by
    rw [enc_cons, runes_step _ (encR_ne _ _), enc_dec r (h r (by simp))]
    simp only [List.drop_left]
    rw [runes_enc rs fun x hx => h x (by simp [hx])]
theorem valid_append : ∀ (rs : List Nat) (t : List UInt8), (∀ r ∈ rs, okR r) → validD (enc rs ++ t) = validD t
  | [], t, _ => rfl
  | r :: rs, t, h => by
    rw [enc_cons, List.append_assoc, validD_step _ (encR_ne _ _), enc_dec r (h r (by simp)), if_neg, List.drop_left, valid_append rs t fun x hx => h x (by simp [hx])]
    rintro ⟨a, b⟩
    simp only at a b
    subst a
    revert b
    decide
theorem valid_enc (rs : List Nat) (h : ∀ r ∈ rs, okR r) : validD (enc rs) = true := by
  have := valid_append rs [] h
  rwa [List.append_nil, validD_nil] at this
theorem runes_append : ∀ (rs : List Nat) (t : List UInt8), (∀ r ∈ rs, okR r) → runes (enc rs ++ t) = rs ++ runes t
  | [], t, _ => rfl
  | r :: rs, t, h => by
    rw [enc_cons, List.append_assoc, runes_step _ (encR_ne _ _), enc_dec r (h r (by simp)), List.drop_left, runes_append rs t fun x hx => h x (by simp [hx])]
    rfl

/-- A text that is UTF-8 is signs, written. -/
theorem of_valid : ∀ (n : Nat) (l : List UInt8), l.length ≤ n → validD l = true → ∃ rs, (∀ r ∈ rs, okR r) ∧ l = enc rs
  | 0, l, hn, _ => ⟨[], fun _ h => (nomatch h), by
    have : l = [] := List.eq_nil_of_length_eq_zero (by omega)
    rw [this]; rfl⟩
  | n + 1, l, hn, hv => by
    by_cases hne : l = []
    · exact ⟨[], fun _ h => (nomatch h), by rw [hne]; rfl⟩
    · rw [validD_step l hne] at hv
      split at hv
      · cases hv
      · rename_i hok
        have hw := decodeL_width l
        obtain ⟨ok, he⟩ := dec_enc l hne hok
        obtain ⟨rs, h1, h2⟩ := of_valid n (l.drop (decodeL l).2) (by rw [List.length_drop]; omega) hv
        refine ⟨(decodeL l).1 :: rs, ?_, ?_⟩
        · intro r hr
          rcases List.mem_cons.1 hr with rfl | hr
          · exact ok
          · exact h1 r hr
        · rw [enc_cons, he, ← h2, List.take_append_drop]
theorem signs_of (l : List UInt8) (hv : validD l = true) : ∃ rs, (∀ r ∈ rs, okR r) ∧ l = enc rs := of_valid l.length l (Nat.le_refl _) hv

/-- Where a text is no UTF-8 a range over it meets the sign FFFD. -/
theorem not_valid : ∀ (n : Nat) (l : List UInt8), l.length ≤ n → validD l = false → 65533 ∈ runes l
  | 0, l, hn, hv => by
    have : l = [] := List.eq_nil_of_length_eq_zero (by omega)
    rw [this, validD_nil] at hv
    cases hv
  | n + 1, l, hn, hv => by
    by_cases hne : l = []
    · rw [hne, validD_nil] at hv; cases hv
    · rw [validD_step l hne] at hv
      rw [runes_step l hne]
      have hw := decodeL_width l
      split at hv
      · rename_i h; rw [h.1]; simp
      · exact List.mem_cons_of_mem _ (not_valid n _ (by rw [List.length_drop]; omega) hv)
theorem has_bad (l : List UInt8) (hv : validD l = false) : 65533 ∈ runes l := not_valid l.length l (Nat.le_refl _) hv

theorem runes_len : ∀ (n : Nat) (l : List UInt8), l.length ≤ n → (runes l).length ≤ l.length
  | 0, l, hn => by
    have : l = [] := List.eq_nil_of_length_eq_zero (by omega)
    rw [this]; exact Nat.le_refl _
  | n + 1, l, hn => by
    by_cases hne : l = []
    · rw [hne]; exact Nat.le_refl _
    · have hw := decodeL_width l
      have hl : 0 < l.length := List.length_pos_iff.2 hne
      rw [runes_step l hne]
      have := runes_len n (l.drop (decodeL l).2) (by rw [List.length_drop]; omega)
      rw [List.length_drop] at this
      simp only [List.length_cons]
      omega
theorem runes_le (l : List UInt8) : (runes l).length ≤ l.length := runes_len l.length l (Nat.le_refl _)
theorem enc_len (rs : List Nat) : rs.length ≤ (enc rs).length ∧ (enc rs).length ≤ 4 * rs.length := by
  induction rs with
  | nil => exact ⟨Nat.le_refl _, Nat.le_refl _⟩
  | cons r rs ih =>
    have := encR_pos (r : Int)
    rw [enc_cons]
    simp only [List.length_cons, List.length_append]
    omega
end Go.Proofs.YtmajdgmbcgkelaaDoor
