/-
  Quoted texts with blanks between. Plain lemmas.
-/
import Derived.Test.YtmajdgmbcgkelaaDoorWordQuotesP
namespace Go.Proofs.YtmajdgmbcgkelaaDoor
open Go.RowKit
open Go.Lib (decodeL validD encodeRune decodeL_width)

/-- The line that the statement makes. -/
def lineQ (k : Nat) (tss : List (List Nat)) : List UInt8 := tss.flatMap fun ts => List.replicate k 32 ++ quoteL ts
theorem lineQ_snoc (k : Nat) (tss : List (List Nat)) (ts : List Nat) : lineQ k (tss ++ [ts]) = lineQ k tss ++ (List.replicate k 32 ++ quoteL ts) := by simp [lineQ]
theorem lineQ_cons (k : Nat) (tss : List (List Nat)) (ts : List Nat) : lineQ k (ts :: tss) = List.replicate k 32 ++ (quoteL ts ++ lineQ k tss) := by simp [lineQ]
theorem lineQ_len (k : Nat) (tss : List (List Nat)) : tss.length ≤ (lineQ k tss).length := by
  induction tss with
  | nil => simp [lineQ]
  | cons ts tss ih =>
    rw [lineQ_cons]
    simp only [List.length_cons, List.length_append, quoteL_len]
    omega
theorem lineQ_head (k : Nat) (hk : 1 ≤ k) (tss : List (List Nat)) (t : List UInt8) (ht : t = [] ∨ t.headD 0 = 32) : lineQ k tss ++ t = [] ∨ (lineQ k tss ++ t).headD 0 = 32 := by
  cases tss with
  | nil => simpa [lineQ] using ht
  | cons ts tss =>
    right
    obtain ⟨q, rfl⟩ : ∃ q, k = q + 1 := ⟨k - 1, by omega⟩
    rw [lineQ_cons, List.replicate_succ]
    rfl

theorem words_lineQ (k : Nat) (hk : 1 ≤ k) (t : List UInt8) (ht : t = [] ∨ t.headD 0 = 32) : ∀ (tss : List (List Nat)) (n : Nat) (acc : List (List UInt8)), (∀ ts ∈ tss, ∀ r ∈ ts, okR r) → acc.length + tss.length ≤ 50 →
    wordsF (n + tss.length) acc (lineQ k tss ++ t) = wordsF n (acc ++ tss.map enc) t
  | [], n, acc, _, _ => by simp [lineQ]
  | ts :: tss, n, acc, h, hl => by
    simp only [List.length_cons] at hl
    rw [lineQ_cons, List.append_assoc, List.append_assoc, List.length_cons, ← Nat.add_assoc,
      words_quote _ _ k ts (h ts (by simp)) _ (lineQ_head k hk tss t ht) (by omega),
      words_lineQ k hk t ht tss n _ (fun x hx => h x (by simp [hx])) (by simp; omega)]
    simp

theorem rep_head (k : Nat) (hk : 1 ≤ k) : (List.replicate k (32 : UInt8)).headD 0 = 32 := by
  obtain ⟨q, rfl⟩ : ∃ q, k = q + 1 := ⟨k - 1, by omega⟩
  rfl
theorem back_words (k : Nat) (hk : 1 ≤ k) (tss : List (List Nat)) (h : ∀ ts ∈ tss, ∀ r ∈ ts, okR r) (hl : tss.length ≤ 50) : wordsL (lineQ k tss ++ List.replicate k 32) = .ok (tss.map enc) := by
  have hn := lineQ_len k tss
  have e := words_lineQ k hk (List.replicate k 32) (.inr (rep_head k hk)) tss ((lineQ k tss ++ List.replicate k 32).length + 1 - tss.length) [] h (by simpa using hl)
  have e2 : (lineQ k tss ++ List.replicate k (32 : UInt8)).length + 1 - tss.length + tss.length = (lineQ k tss ++ List.replicate k (32 : UInt8)).length + 1 := by simp; omega
  rw [e2] at e
  unfold wordsL
  rw [e, List.nil_append]
  have := blanks_rep k []
  rw [List.append_nil] at this
  exact wordsF_end _ _ _ this
theorem back_over (k : Nat) (hk : 1 ≤ k) (tss : List (List Nat)) (h : ∀ ts ∈ tss, ∀ r ∈ ts, okR r) (hl : 50 < tss.length) : ∃ rest, wordsL (lineQ k tss ++ List.replicate k 32) = .bad rest 17 ∧ k + 2 ≤ rest.length := by
  obtain ⟨A, x, B, rfl, ea⟩ : ∃ A x B, tss = A ++ x :: B ∧ A.length = 50 := by
    refine ⟨tss.take 50, tss[50], tss.drop 51, ?_, by rw [List.length_take]; omega⟩
    rw [← List.drop_eq_getElem_cons hl, List.take_append_drop]
  have el : lineQ k (A ++ x :: B) ++ List.replicate k (32 : UInt8) = lineQ k A ++ (List.replicate k (32 : UInt8) ++ (quoteL x ++ (lineQ k B ++ List.replicate k (32 : UInt8)))) := by
    simp [lineQ]
  have hh : (List.replicate k (32 : UInt8) ++ (quoteL x ++ (lineQ k B ++ List.replicate k (32 : UInt8)))).headD 0 = 32 := by
    obtain ⟨q, rfl⟩ : ∃ q, k = q + 1 := ⟨k - 1, by omega⟩
    rfl
  have hn := lineQ_len k (A ++ x :: B)
  simp only [List.length_append, List.length_cons, ea] at hn
  have e := words_lineQ k hk _ (.inr hh) A ((lineQ k (A ++ x :: B) ++ List.replicate k (32 : UInt8)).length + 1 - 50) [] (fun y hy => h y (by simp [hy])) (by rw [ea]; simp)
  have e2 : (lineQ k (A ++ x :: B) ++ List.replicate k (32 : UInt8)).length + 1 - 50 + A.length = (lineQ k (A ++ x :: B) ++ List.replicate k (32 : UInt8)).length + 1 := by
    rw [ea, List.length_append, List.length_replicate]; omega
  rw [e2, ← el] at e
  obtain ⟨q, hq⟩ : ∃ q, (lineQ k (A ++ x :: B) ++ List.replicate k (32 : UInt8)).length + 1 - 50 = q + 1 := ⟨(lineQ k (A ++ x :: B) ++ List.replicate k (32 : UInt8)).length - 50, by rw [List.length_append, List.length_replicate]; omega⟩
  refine ⟨quoteL x ++ (lineQ k B ++ List.replicate k (32 : UInt8)), ?_, ?_⟩
  · unfold wordsL
    rw [e, hq, List.nil_append]
    exact words_full q _ k _ _ (by rw [List.length_map, ea])
  · simp only [List.length_append, quoteL_len, List.length_replicate]
    omega
end Go.Proofs.YtmajdgmbcgkelaaDoor
