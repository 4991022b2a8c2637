/-
  What a quote is and how it is read. Plain lemmas.
-/
import Derived.Test.YtmajdgmbcgkelaaDoorWordSignsP
import Derived.Test.YtmajdgmbcgkelaaDoorWordS
namespace Go.Proofs.YtmajdgmbcgkelaaDoor
open Go.RowKit
open Go.Lib (decodeL validD encodeRune decodeL_width)

theorem quoteL_head (rs : List Nat) (t : List UInt8) : blanks (quoteL rs ++ t) = quoteL rs ++ t := by
  unfold quoteL
  exact blanks_head 34 _ (by decide)
theorem wordsF_end (n : Nat) (acc : List (List UInt8)) (l : List UInt8) (h : blanks l = []) : wordsF n acc l = .ok acc := by
  cases n with
  | zero => rfl
  | succ n => rw [wordsF_step, if_pos h]
theorem plain_quoteL (rs : List Nat) (t : List UInt8) : plainL (quoteL rs ++ t) = some 1 := by
  unfold quoteL
  exact plain_quote _
theorem plain_open (t : List UInt8) : plainL (34 :: t) = some 1 := plain_quote t

/-- One quoted word more. -/
theorem words_quote (n : Nat) (acc : List (List UInt8)) (k : Nat) (rs : List Nat) (h : ∀ r ∈ rs, okR r) (t : List UInt8) (ht : t = [] ∨ t.headD 0 = 32) (ha : acc.length ≠ 50) :
    wordsF (n + 1) acc (List.replicate k 32 ++ (quoteL rs ++ t)) = wordsF n (acc ++ [enc rs]) t := by
  have hne : quoteL rs ++ t ≠ [] := by unfold quoteL; simp
  rw [wordsF_step, blanks_rep, quoteL_head, if_neg hne, plain_quoteL]
  simp only
  rw [if_neg ha, read_quote rs h t ht]
theorem words_full (n : Nat) (acc : List (List UInt8)) (k : Nat) (rs : List Nat) (t : List UInt8) (ha : acc.length = 50) :
    wordsF (n + 1) acc (List.replicate k 32 ++ (quoteL rs ++ t)) = .bad (quoteL rs ++ t) 17 := by
  have hne : quoteL rs ++ t ≠ [] := by unfold quoteL; simp
  rw [wordsF_step, blanks_rep, quoteL_head, if_neg hne, plain_quoteL]
  simp only
  rw [if_pos ha]

theorem wordsL_quote (rs : List Nat) (h : ∀ r ∈ rs, okR r) : wordsL (quoteL rs) = .ok [enc rs] := by
  have := words_quote (quoteL rs).length [] 0 rs h [] (.inl rfl) (by decide)
  rw [List.replicate_zero, List.nil_append, List.append_nil] at this
  unfold wordsL
  rw [this, wordsF_end _ _ _ rfl]
  rfl
theorem wordsL_open (rs : List Nat) (h : ∀ r ∈ rs, okR r) : wordsL (34 :: bodyL rs) = .bad [] 2 := by
  unfold wordsL
  rw [wordsF_step, blanks_head 34 _ (by decide), if_neg (by simp), plain_open]
  simp only
  rw [if_neg (by decide), read_open rs h]
theorem quoteL_len (rs : List Nat) : (quoteL rs).length = (bodyL rs).length + 2 := by simp [quoteL]
theorem quoteL_take (rs : List Nat) : (quoteL rs).take ((quoteL rs).length - 1) = 34 :: bodyL rs := by
  rw [quoteL_len]
  unfold quoteL
  have : (bodyL rs).length + 2 - 1 = (34 :: bodyL rs).length := by simp
  rw [this, ← List.cons_append, List.take_left]

/-- No byte of a quote must be written. -/
def shownB (b : UInt8) : Prop := 32 ≤ b.toNat ∧ b.toNat ≠ 127
theorem hexB_shown : ∀ k < 16, 32 ≤ (hexB k).toNat ∧ (hexB k).toNat ≠ 127 := by decide
theorem hexF_shown (c : Nat) (h : c < 256) : ∀ b ∈ hexF c, shownB b := by
  unfold hexF
  split
  · intro b hb
    obtain rfl : b = hexB c := by simpa using hb
    exact hexB_shown c (by omega)
  · intro b hb
    simp only [List.mem_cons, List.not_mem_nil, or_false] at hb
    rcases hb with rfl | rfl
    · exact hexB_shown _ (by omega)
    · exact hexB_shown _ (by omega)
theorem escF_shown (c : Nat) (h : c < 256) : ∀ b ∈ escF c, shownB b := by
  unfold escF
  intro b hb
  split at hb
  · simp only [List.mem_cons, List.not_mem_nil, or_false] at hb
    rcases hb with rfl | rfl <;> (unfold shownB; decide)
  · split at hb
    · simp only [List.mem_cons, List.not_mem_nil, or_false] at hb
      rcases hb with rfl | rfl <;> (unfold shownB; decide)
    · split at hb
      · simp only [List.mem_cons, List.not_mem_nil, or_false] at hb
        rcases hb with rfl | rfl <;> (unfold shownB; decide)
      · simp only [List.mem_append, List.mem_cons, List.not_mem_nil, or_false] at hb
        rcases hb with ((rfl | rfl | rfl) | hb) | rfl
        · unfold shownB; decide
        · unfold shownB; decide
        · unfold shownB; decide
        · exact hexF_shown c h b hb
        · unfold shownB; decide
theorem enc_high (c : Nat) (h : okR c) : ∀ b ∈ encodeRune (c : Int), b.toNat = c ∧ c < 128 ∨ 128 ≤ b.toNat := by
  unfold okR at h
  have tb : ∀ x : Int, 0 ≤ x → x < 256 → x.toNat.toUInt8.toNat = x.toNat := fun x h0 h1 => by
    show (UInt8.ofNat x.toNat).toNat = _
    rw [UInt8.toNat_ofNat']
    omega
  intro b hb
  unfold encodeRune at hb
  by_cases c1 : c ≤ 127
  · rw [Go.Lib.encodeRuneZ_one (by omega) (by omega)] at hb
    obtain rfl : b = ((c : Int).toNat).toUInt8 := by simpa using hb
    left
    rw [tb _ (by omega) (by omega)]
    omega
  · right
    by_cases c2 : c ≤ 2047
    · rw [Go.Lib.encodeRuneZ_two (by omega) (by omega)] at hb
      simp only [List.map_cons, List.map_nil, List.mem_cons, List.not_mem_nil, or_false] at hb
      rcases hb with rfl | rfl <;> (rw [tb _ (by omega) (by omega)]; omega)
    · by_cases c3 : c ≤ 65535
      · rw [Go.Lib.encodeRuneZ_three (by omega)] at hb
        simp only [List.map_cons, List.map_nil, List.mem_cons, List.not_mem_nil, or_false] at hb
        rcases hb with rfl | rfl | rfl <;> (rw [tb _ (by omega) (by omega)]; omega)
      · rw [Go.Lib.encodeRuneZ_four (by omega) (by omega)] at hb
        simp only [List.map_cons, List.map_nil, List.mem_cons, List.not_mem_nil, or_false] at hb
        rcases hb with rfl | rfl | rfl | rfl <;> (rw [tb _ (by omega) (by omega)]; omega)
theorem bodyC_shown (c : Nat) (h : okR c) : ∀ b ∈ bodyC c, shownB b := by
  intro b hb
  unfold bodyC at hb
  split at hb
  · rename_i he
    exact escF_shown c (by have := escd_lt c he; omega) b hb
  · rename_i he
    obtain ⟨_, _, hh⟩ := escd_false (show escd c = false by simpa using he)
    rcases enc_high c h b hb with ⟨e, hlt⟩ | e
    · unfold hid at hh
      simp only [Bool.or_eq_false_iff, Bool.and_eq_false_iff, decide_eq_false_iff_not] at hh
      unfold shownB
      omega
    · unfold shownB; omega
theorem quoteL_shown (rs : List Nat) (h : ∀ r ∈ rs, okR r) : ∀ b ∈ quoteL rs, shownB b := by
  intro b hb
  unfold quoteL bodyL at hb
  simp only [List.mem_cons, List.mem_append, List.mem_flatMap, List.not_mem_nil, or_false] at hb
  rcases hb with rfl | ⟨c, hc, hb⟩ | rfl
  · unfold shownB; decide
  · exact bodyC_shown c (h c hc) b hb
  · unfold shownB; decide

/-- A text of plain signs stands in its quote as it is. -/
theorem quoteL_plain : ∀ rs : List Nat, (∀ r ∈ rs, escd r = false) → quoteL rs = [34] ++ (enc rs ++ [34]) := by
  intro rs h
  have e : bodyL rs = enc rs := by
    unfold bodyL enc
    induction rs with
    | nil => rfl
    | cons r rs ih =>
      simp only [List.flatMap_cons]
      rw [ih fun x hx => h x (by simp [hx])]
      unfold bodyC
      rw [if_neg (by rw [h r (by simp)]; simp)]
  unfold quoteL
  rw [e]
  rfl
/-- What the loop over the signs gathers. -/
def plainAll (rs : List Nat) : Bool := rs.all fun c => !escd c
end Go.Proofs.YtmajdgmbcgkelaaDoor
