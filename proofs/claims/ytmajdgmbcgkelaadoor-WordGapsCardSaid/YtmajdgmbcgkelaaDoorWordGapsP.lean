/-
  Plain words parted by blanks. Plain lemmas.
-/
import Derived.Test.YtmajdgmbcgkelaaDoorWordQuotesP
namespace Go.Proofs.YtmajdgmbcgkelaaDoor
open Go.RowKit
open Go.Lib (decodeL validD encodeRune decodeL_width)

/-- A byte that may stand in a plain word. -/
def wordB (b : UInt8) : Prop := 32 < b.toNat ∧ b.toNat ≤ 126 ∧ b.toNat ≠ 34
def wordG (w : List UInt8) : Prop := 1 ≤ w.length ∧ w.length ≤ 50 ∧ ∀ b ∈ w, wordB b

theorem plain_wordB (b : UInt8) (t : List UInt8) (h : wordB b) : plainL (b :: t) = some 1 := by
  unfold wordB at h
  unfold plainL
  rw [Go.Lib.decodeL_ascii b t (by omega), if_neg]
  rintro (⟨a, _⟩ | a)
  · simp only at a; omega
  · unfold hid at a
    simp only [Bool.or_eq_true, Bool.and_eq_true, decide_eq_true_eq] at a
    omega
theorem wordB_ne (b : UInt8) (h : wordB b) : b ≠ 32 ∧ b ≠ 34 := by
  unfold wordB at h
  refine ⟨fun e => ?_, fun e => ?_⟩
  · rw [e] at h; revert h; decide
  · rw [e] at h; revert h; decide

theorem bare_read : ∀ (w : List UInt8) (n : Nat) (t : List UInt8), (∀ b ∈ w, wordB b) → (t = [] ∨ t.headD 0 = 32) → bareF (n + w.length) (w ++ t) = .ok [] t
  | [], n, t, _, ht => by
    rw [List.nil_append]
    cases n with
    | zero => rfl
    | succ n => exact (bareF_step n t).trans (if_pos ht)
  | b :: w, n, t, h, ht => by
    obtain ⟨h32, h34⟩ := wordB_ne b (h b (by simp))
    rw [List.cons_append, List.length_cons, ← Nat.add_assoc, bareF_step, if_neg (by rintro (e | e); cases e; exact h32 e), plain_wordB b _ (h b (by simp))]
    show (if (b :: (w ++ t)).headD 0 = 34 then _ else _) = _
    rw [if_neg (show (b :: (w ++ t)).headD 0 ≠ 34 from h34), List.drop_succ_cons, List.drop_zero]
    exact bare_read w n t (fun x hx => h x (by simp [hx])) ht
theorem read_word (w : List UInt8) (h : wordG w) (t : List UInt8) (ht : t = [] ∨ t.headD 0 = 32) : readL (w ++ t) = .ok w t := by
  obtain ⟨h1, _, h3⟩ := h
  cases w with
  | nil => simp at h1
  | cons b w =>
    obtain ⟨h32, h34⟩ := wordB_ne b (h3 b (by simp))
    rw [readL_bare _ (by rw [List.cons_append, List.headD_cons]; exact h34)]
    have := bare_read (b :: w) t.length t h3 ht
    rw [List.length_append, Nat.add_comm, this]
    unfold bareR
    simp only [List.length_append, Nat.add_sub_cancel]
    rw [List.take_left]

theorem words_word (n : Nat) (acc : List (List UInt8)) (k : Nat) (w : List UInt8) (h : wordG w) (t : List UInt8) (ht : t = [] ∨ t.headD 0 = 32) (ha : acc.length ≠ 50) :
    wordsF (n + 1) acc (List.replicate k 32 ++ (w ++ t)) = wordsF n (acc ++ [w]) t := by
  have hr := read_word w h t ht
  obtain ⟨h1, _, h3⟩ := h
  cases w with
  | nil => simp at h1
  | cons b w =>
    obtain ⟨h32, _⟩ := wordB_ne b (h3 b (by simp))
    rw [wordsF_step, blanks_rep, List.cons_append, blanks_head b _ h32, if_neg (by simp), plain_wordB b _ (h3 b (by simp))]
    simp only
    rw [if_neg ha]
    rw [List.cons_append] at hr
    rw [hr]

/-- The line that the statement makes. -/
def lineG (g : Nat) (ws : List (List UInt8)) : List UInt8 := ws.flatMap fun w => w ++ List.replicate g 32
theorem lineG_snoc (g : Nat) (ws : List (List UInt8)) (w : List UInt8) : lineG g (ws ++ [w]) = lineG g ws ++ (w ++ List.replicate g 32) := by simp [lineG]
theorem lineG_cons (g : Nat) (ws : List (List UInt8)) (w : List UInt8) : lineG g (w :: ws) = w ++ (List.replicate g 32 ++ lineG g ws) := by simp [lineG]
theorem lineG_len (g : Nat) (ws : List (List UInt8)) (h : ∀ w ∈ ws, wordG w) : ws.length ≤ (lineG g ws).length ∧ (lineG g ws).length ≤ (50 + g) * ws.length := by
  induction ws with
  | nil => simp [lineG]
  | cons w ws ih =>
    obtain ⟨i1, i2⟩ := ih fun x hx => h x (by simp [hx])
    obtain ⟨h1, h2, _⟩ := h w (by simp)
    rw [lineG_cons]
    simp only [List.length_append, List.length_replicate, List.length_cons, Nat.mul_add, Nat.mul_one]
    omega
theorem words_line (g : Nat) (hg : 1 ≤ g) : ∀ (ws : List (List UInt8)) (n j : Nat) (acc : List (List UInt8)) (t : List UInt8), (∀ w ∈ ws, wordG w) → acc.length + ws.length < 50 →
    ∃ j', wordsF (n + ws.length) acc (List.replicate j 32 ++ (lineG g ws ++ t)) = wordsF n (acc ++ ws) (List.replicate j' 32 ++ t)
  | [], n, j, acc, t, _, _ => ⟨j, by simp [lineG]⟩
  | w :: ws, n, j, acc, t, h, hl => by
    simp only [List.length_cons] at hl
    obtain ⟨j', e⟩ := words_line g hg ws n g (acc ++ [w]) t (fun x hx => h x (by simp [hx])) (by simp; omega)
    refine ⟨j', ?_⟩
    have hh : (List.replicate g (32 : UInt8) ++ (lineG g ws ++ t)).headD 0 = 32 := by
      obtain ⟨q, rfl⟩ : ∃ q, g = q + 1 := ⟨g - 1, by omega⟩
      rfl
    rw [lineG_cons, List.append_assoc, List.append_assoc, List.length_cons, ← Nat.add_assoc, words_word _ _ _ w (h w (by simp)) _ (.inr hh) (by omega), e, List.append_assoc]
    rfl

theorem gaps_words (g : Nat) (hg : 1 ≤ g) (ws : List (List UInt8)) (h : ∀ w ∈ ws, wordG w) (hl : ws.length ≤ 40) : wordsL (lineG g ws) = .ok ws := by
  have hn := (lineG_len g ws h).1
  obtain ⟨j', e⟩ := words_line g hg ws ((lineG g ws).length + 1 - ws.length) 0 [] [] h (by simp; omega)
  have e2 : (lineG g ws).length + 1 - ws.length + ws.length = (lineG g ws).length + 1 := by omega
  rw [e2] at e
  simp only [List.replicate_zero, List.nil_append, List.append_nil] at e
  unfold wordsL
  rw [e]
  have := blanks_rep j' []
  rw [List.append_nil] at this
  exact wordsF_end _ _ _ this
theorem gaps_bad (g : Nat) (hg : 1 ≤ g) (ws : List (List UInt8)) (h : ∀ w ∈ ws, wordG w) (hl : ws.length ≤ 40) : wordsL (lineG g ws ++ [97, 34, 98, 34]) = .bad [34, 98, 34] 4 := by
  have hn := (lineG_len g ws h).1
  obtain ⟨j', e⟩ := words_line g hg ws ((lineG g ws).length + 5 - ws.length) 0 [] [97, 34, 98, 34] h (by simp; omega)
  have e2 : (lineG g ws).length + 5 - ws.length + ws.length = (lineG g ws ++ [97, 34, 98, 34]).length + 1 := by simp; omega
  rw [e2] at e
  simp only [List.replicate_zero, List.nil_append] at e
  unfold wordsL
  rw [e]
  obtain ⟨q, hq⟩ : ∃ q, (lineG g ws).length + 5 - ws.length = q + 1 := ⟨(lineG g ws).length + 4 - ws.length, by omega⟩
  have hr : readL [97, 34, 98, 34] = .bad [34, 98, 34] 4 := by kernel_rfl
  rw [hq, wordsF_step, blanks_rep, blanks_head 97 _ (by decide), if_neg (by simp), plain_wordB 97 _ (by unfold wordB; decide)]
  simp only
  rw [if_neg (by omega), hr]
end Go.Proofs.YtmajdgmbcgkelaaDoor
