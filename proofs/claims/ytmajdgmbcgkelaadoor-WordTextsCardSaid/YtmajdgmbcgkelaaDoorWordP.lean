/-
  What the functions of package word answer, as functions of lists of bytes and of signs. Plain lemmas, nothing of the program.
-/
import Derived.Test.YtmajdgmbcgkelaaDoorTxt
namespace Go.Proofs.YtmajdgmbcgkelaaDoor
open Go.RowKit
open Go.Lib (decodeL decodeN decodeL_N validD validD_nil validD_step encodeRune encodeRuneZ decodeL_width)

def hid (c : Nat) : Bool := decide (c < 32) || (decide (127 ≤ c) && decide (c ≤ 159))
def escd (c : Nat) : Bool := decide (c = 34) || (decide (c = 92) || hid c)
def hexB (n : Nat) : UInt8 := if n < 10 then UInt8.ofNat (48 + n) else UInt8.ofNat (87 + n)
def hexF (c : Nat) : List UInt8 := if c < 16 then [hexB c] else [hexB (c / 16), hexB (c % 16)]
/-- What stands in a quote in place of a sign. -/
def escF (c : Nat) : List UInt8 := if c = 34 then [92, 34] else if c = 92 then [92, 92] else if c = 10 then [92, 110] else [92, 117, 123] ++ hexF c ++ [125]
def bodyC (c : Nat) : List UInt8 := if escd c then escF c else encodeRune (c : Int)
def bodyL (rs : List Nat) : List UInt8 := rs.flatMap bodyC
def quoteL (rs : List Nat) : List UInt8 := 34 :: (bodyL rs ++ [34])

def letterP (c : Nat) : Bool :=
  (decide (97 ≤ c) && decide (c ≤ 122)) || (decide (65 ≤ c) && decide (c ≤ 90)) || (decide (48 ≤ c) && decide (c ≤ 57)) || decide (c = 45) || decide (c = 95) || decide (c = 46) || decide (c = 47) ||
  (decide (192 ≤ c) && decide (c ≤ 591) && decide (c ≠ 215) && decide (c ≠ 247)) || (decide (880 ≤ c) && decide (c ≤ 1279)) || (decide (19968 ≤ c) && decide (c ≤ 40959))
def nameGo : Nat → Nat → List Nat → Bool
  | count, last, [] => decide (0 < count) && (decide (last ≠ 46) && decide (last ≠ 47))
  | count, last, c :: rs => if 40 < count + 1 ∨ letterP c = false then false else if count = 0 ∧ (c = 45 ∨ c = 46) then false else if c = 47 ∧ last = 47 then false else nameGo (count + 1) c rs
def nameL (l : List UInt8) : Bool := nameGo 0 47 (runes l)
def textGo : Nat → List Nat → Bool
  | _, [] => true
  | count, c :: rs => if 200 < count + 1 ∨ (hid c = true ∧ c ≠ 10) then false else textGo (count + 1) rs
def textL (l : List UInt8) : Bool := validD l && textGo 0 (runes l)
/-- How many bytes the first n signs have. -/
def clipF : Nat → Int → List UInt8 → Nat
  | 0, _, _ => 0
  | f + 1, n, l => if l = [] ∨ n ≤ 0 then 0 else (decodeL l).2 + clipF f (n - 1) (l.drop (decodeL l).2)
def clipL (n : Int) (l : List UInt8) : Nat := clipF l.length n l

theorem clipF_fuel : ∀ (a b : Nat) (n : Int) (l : List UInt8), l.length ≤ a → l.length ≤ b → clipF a n l = clipF b n l
  | 0, b, n, l, ha, _ => by
    have : l = [] := List.eq_nil_of_length_eq_zero (by omega)
    subst this
    cases b <;> simp [clipF]
  | a + 1, 0, n, l, _, hb => by
    have : l = [] := List.eq_nil_of_length_eq_zero (by omega)
    subst this
    simp [clipF]
  | a + 1, b + 1, n, l, ha, hb => by
    unfold clipF
    by_cases h : l = [] ∨ n ≤ 0
    · rw [if_pos h, if_pos h]
    · have hw := decodeL_width l
      have hl : 0 < l.length := List.length_pos_iff.2 fun e => h (.inl e)
      rw [if_neg h, if_neg h, clipF_fuel a b _ (l.drop (decodeL l).2) (by rw [List.length_drop]; omega) (by rw [List.length_drop]; omega)]
theorem clip_none (n : Int) (l : List UInt8) (h : l = [] ∨ n ≤ 0) : clipL n l = 0 := by
  unfold clipL
  cases l.length with
  | zero => rfl
  | succ k => unfold clipF; rw [if_pos h]
theorem clip_step (n : Int) (l : List UInt8) (hne : l ≠ []) (hn : 0 < n) : clipL n l = (decodeL l).2 + clipL (n - 1) (l.drop (decodeL l).2) := by
  have hl : 0 < l.length := List.length_pos_iff.2 hne
  have hw := decodeL_width l
  obtain ⟨k, hk⟩ : ∃ k, l.length = k + 1 := ⟨l.length - 1, by omega⟩
  unfold clipL
  rw [hk]
  show (if l = [] ∨ n ≤ 0 then 0 else _) = _
  rw [if_neg (fun h => h.elim hne (by omega)), clipF_fuel k (l.drop (decodeL l).2).length _ _ (by rw [List.length_drop]; omega) (Nat.le_refl _)]
theorem clip_enc : ∀ (rs : List Nat) (n : Int), (∀ r ∈ rs, okR r) → clipL n (enc rs) = (enc (rs.take n.toNat)).length
  | [], n, _ => by rw [clip_none _ _ (.inl enc_nil)]; simp [enc_nil]
  | r :: rs, n, h => by
    by_cases hn : 0 < n
    · rw [enc_cons, clip_step _ _ (encR_ne _ _) hn, enc_dec r (h r (by simp)), List.drop_left, clip_enc rs (n - 1) fun x hx => h x (by simp [hx])]
      obtain ⟨m, hm⟩ : ∃ m : Nat, n = (m : Int) + 1 := ⟨(n - 1).toNat, by omega⟩
      subst hm
      have e1 : ((m : Int) + 1 - 1).toNat = m := by omega
      have e2 : ((m : Int) + 1).toNat = m + 1 := by omega
      rw [e1, e2, List.take_succ_cons, enc_cons, List.length_append]
    · rw [clip_none _ _ (.inr (by omega))]
      have e : n.toNat = 0 := by omega
      rw [e]; rfl

/-! Words -/
inductive WRes where
  | ok (w rest : List UInt8)
  | bad (rest : List UInt8) (code : Nat)

def plainL (l : List UInt8) : Option Nat := if ((decodeL l).1 = 65533 ∧ (decodeL l).2 = 1) ∨ hid (decodeL l).1 = true then none else some (decodeL l).2

def unescGo : List Nat → Bool → List UInt8 → Nat × Nat × Nat
  | [], short, _ => (0, 0, if short then 2 else 4)
  | c :: cs, short, l => if escd c = false then unescGo cs short l else if (escF c).isPrefixOf l then (c, (escF c).length, 0) else unescGo cs (short || l.isPrefixOf (escF c)) l
def unescL (l : List UInt8) : Nat × Nat × Nat := unescGo (List.range 160) false l

def quotedF : Nat → List UInt8 → List UInt8 → WRes
  | 0, _, l => .bad l 2
  | n + 1, out, l =>
    if l = [] then .bad [] 2
    else if l.headD 0 = 34 then (if l.tail ≠ [] ∧ l.tail.headD 0 ≠ 32 then .bad l.tail 4 else .ok out l.tail)
    else if l.headD 0 = 92 then
      (if (unescL l).2.2 = 2 then .bad [] 2 else if (unescL l).2.2 ≠ 0 then .bad l (unescL l).2.2 else quotedF n (out ++ encodeRune ((unescL l).1 : Int)) (l.drop (unescL l).2.1))
    else match plainL l with
      | none => .bad l 4
      | some k => quotedF n (out ++ l.take k) (l.drop k)

/-- What is left behind a word without quotes. -/
def bareF : Nat → List UInt8 → WRes
  | 0, l => .ok [] l
  | n + 1, l => if l = [] ∨ l.headD 0 = 32 then .ok [] l else match plainL l with
      | none => .bad l 4
      | some k => if l.headD 0 = 34 then .bad l 4 else bareF n (l.drop k)

def readL (l : List UInt8) : WRes :=
  if l.headD 0 = 34 then quotedF l.length [] l.tail
  else match bareF l.length l with
    | .ok _ rest => .ok (l.take (l.length - rest.length)) rest
    | .bad rest c => .bad rest c

inductive WsRes where
  | ok (ws : List (List UInt8))
  | bad (rest : List UInt8) (code : Nat)

def blanks (l : List UInt8) : List UInt8 := l.dropWhile fun b => decide (b = 32)

def wordsF : Nat → List (List UInt8) → List UInt8 → WsRes
  | 0, acc, _ => .ok acc
  | n + 1, acc, l =>
    if blanks l = [] then .ok acc
    else match plainL (blanks l) with
      | none => .bad (blanks l) 4
      | some _ => if acc.length = 50 then .bad (blanks l) 17 else match readL (blanks l) with
        | .ok w rest => wordsF n (acc ++ [w]) rest
        | .bad rest c => .bad rest c
def wordsL (l : List UInt8) : WsRes := wordsF (l.length + 1) [] l

/-! How a quote is read -/
theorem escF_ne (c : Nat) : 2 ≤ (escF c).length ∧ (escF c).length ≤ 6 ∧ (escF c).headD 0 = 92 := by
  unfold escF hexF
  split
  · simp
  · split
    · simp
    · split
      · simp
      · split <;> simp

theorem prefix_all : ((List.range 160).all fun c => (List.range c).all fun d => !escd c || (!escd d || (!(escF d).isPrefixOf (escF c) && !(escF c).isPrefixOf (escF d)))) = true := by decide +kernel
theorem prefix_free (c : Nat) (hc : c < 160) (d : Nat) (h1 : escd c = true) (h2 : escd d = true) (hd : d < c) : (escF d).isPrefixOf (escF c) = false ∧ (escF c).isPrefixOf (escF d) = false := by
  have := List.all_eq_true.1 (List.all_eq_true.1 prefix_all c (by simpa using hc)) d (by simpa using hd)
  rw [h1, h2] at this
  simpa using this

theorem prefix_cases (a b t : List UInt8) (h : a.isPrefixOf (b ++ t) = true) : a.isPrefixOf b = true ∨ b.isPrefixOf a = true := by
  rw [List.isPrefixOf_iff_prefix] at h
  rcases Nat.le_total a.length b.length with hl | hl
  · left
    rw [List.isPrefixOf_iff_prefix]
    exact List.prefix_of_prefix_length_le h (List.prefix_append _ _) hl
  · right
    rw [List.isPrefixOf_iff_prefix]
    exact List.prefix_of_prefix_length_le (List.prefix_append _ _) h hl

theorem unesc_go (c : Nat) (hc : c < 160) (he : escd c = true) (t : List UInt8) : ∀ (cs : List Nat) (short : Bool), (∀ d ∈ cs, d < c) → ∀ ds, unescGo (cs ++ c :: ds) short (escF c ++ t) = (c, (escF c).length, 0)
  | [], short, _, ds => by
    simp only [List.nil_append, unescGo]
    rw [if_neg (by rw [he]; simp), if_pos]
    rw [List.isPrefixOf_iff_prefix]
    exact List.prefix_append _ _
  | d :: cs, short, h, ds => by
    have hd := h d (by simp)
    simp only [List.cons_append, unescGo]
    split
    · exact unesc_go c hc he t cs short (fun x hx => h x (by simp [hx])) ds
    · rename_i hed
      have hed' : escd d = true := by simpa using hed
      obtain ⟨p1, p2⟩ := prefix_free c hc d he hed' hd
      rw [if_neg, unesc_go c hc he t cs _ (fun x hx => h x (by simp [hx])) ds]
      intro hp
      rcases prefix_cases _ _ _ hp with h1 | h1
      · rw [p1] at h1; cases h1
      · rw [p2] at h1; cases h1
theorem unesc_esc (c : Nat) (hc : c < 160) (he : escd c = true) (t : List UInt8) : unescL (escF c ++ t) = (c, (escF c).length, 0) := by
  have e : List.range 160 = List.range c ++ c :: (List.range (160 - c - 1)).map (fun i => c + 1 + i) := by
    have : 160 = c + (1 + (160 - c - 1)) := by omega
    conv => lhs; rw [this]
    rw [List.range_add, List.range_add]
    simp [List.map_map, Function.comp_def, Nat.add_assoc]
  unfold unescL
  rw [e]
  exact unesc_go c hc he t _ _ (fun d hd => by simpa using hd) _

theorem escd_lt (c : Nat) (h : escd c = true) : c < 160 := by
  unfold escd hid at h
  simp only [Bool.or_eq_true, Bool.and_eq_true, decide_eq_true_eq] at h
  omega

/-- The head of a sign that stands as itself. -/
theorem head_enc (c : Nat) (h : okR c) (t : List UInt8) : (c < 128 ∧ encodeRune (c : Int) ++ t = UInt8.ofNat c :: t) ∨ (128 ≤ c ∧ 194 ≤ ((encodeRune (c : Int) ++ t).headD 0).toNat) := by
  unfold okR at h
  have tb : ∀ x : Int, 0 ≤ x → x < 256 → x.toNat.toUInt8.toNat = x.toNat := fun x h0 h1 => by
    show (UInt8.ofNat x.toNat).toNat = _
    rw [UInt8.toNat_ofNat']
    omega
  unfold encodeRune
  by_cases c1 : c ≤ 127
  · left
    rw [Go.Lib.encodeRuneZ_one (by omega) (by omega)]
    exact ⟨by omega, by simp⟩
  · right
    refine ⟨by omega, ?_⟩
    by_cases c2 : c ≤ 2047
    · rw [Go.Lib.encodeRuneZ_two (by omega) (by omega)]
      simp only [List.map_cons, List.cons_append, List.headD_cons]
      rw [tb _ (by omega) (by omega)]; omega
    · by_cases c3 : c ≤ 65535
      · rw [Go.Lib.encodeRuneZ_three (by omega)]
        simp only [List.map_cons, List.cons_append, List.headD_cons]
        rw [tb _ (by omega) (by omega)]; omega
      · rw [Go.Lib.encodeRuneZ_four (by omega) (by omega)]
        simp only [List.map_cons, List.cons_append, List.headD_cons]
        rw [tb _ (by omega) (by omega)]; omega

theorem head_ne (c : Nat) (h : okR c) (t : List UInt8) (b : Nat) (hb : b < 128) (hne : c ≠ b) : (encodeRune (c : Int) ++ t).headD 0 ≠ UInt8.ofNat b := by
  intro e
  have e' := congrArg UInt8.toNat e
  rw [UInt8.toNat_ofNat'] at e'
  rcases head_enc c h t with ⟨h1, h2⟩ | ⟨h1, h2⟩
  · rw [h2, List.headD_cons, UInt8.toNat_ofNat'] at e'
    omega
  · omega

theorem plain_enc (c : Nat) (h : okR c) (hh : hid c = false) (t : List UInt8) : plainL (encodeRune (c : Int) ++ t) = some (encodeRune (c : Int)).length := by
  unfold plainL
  rw [enc_dec c h, if_neg]
  rintro (⟨a, b⟩ | a)
  · simp only at a b
    subst a
    revert b; decide
  · simp only at a
    rw [hh] at a; cases a

theorem escd_false {c : Nat} (h : escd c = false) : c ≠ 34 ∧ c ≠ 92 ∧ hid c = false := by
  unfold escd at h
  simp only [Bool.or_eq_false_iff, decide_eq_false_iff_not] at h
  exact ⟨h.1, h.2.1, h.2.2⟩

/-- One sign of a quote is read. -/
theorem quoted_one (n : Nat) (out : List UInt8) (c : Nat) (h : okR c) (t : List UInt8) : quotedF (n + 1) out (bodyC c ++ t) = quotedF n (out ++ encodeRune (c : Int)) t := by
  unfold bodyC
  by_cases he : escd c = true
  · rw [if_pos he]
    obtain ⟨h2, _, hd⟩ := escF_ne c
    have hne : escF c ++ t ≠ [] := by
      intro e
      have := congrArg List.length e
      simp only [List.length_append, List.length_nil] at this
      omega
    have hd' : (escF c ++ t).headD 0 = 92 := by
      cases he' : escF c with
      | nil => rw [he'] at h2; simp at h2
      | cons x xs => rw [he'] at hd; simpa using hd
    show (if _ then _ else _) = _
    rw [if_neg hne, if_neg (by rw [hd']; decide), if_pos hd', unesc_esc c (escd_lt c he) he t]
    simp
  · have he' : escd c = false := by simpa using he
    obtain ⟨h1, h2, h3⟩ := escd_false he'
    rw [if_neg (by rw [he']; simp)]
    show (if _ then _ else _) = _
    have n34 : (encodeRune (c : Int) ++ t).headD 0 ≠ 34 := head_ne c h t 34 (by omega) h1
    have n92 : (encodeRune (c : Int) ++ t).headD 0 ≠ 92 := head_ne c h t 92 (by omega) h2
    rw [if_neg (encR_ne _ _), if_neg n34, if_neg n92, plain_enc c h h3 t]
    simp
theorem quoted_body : ∀ (rs : List Nat) (n : Nat) (out t : List UInt8), (∀ r ∈ rs, okR r) → quotedF (n + rs.length) out (bodyL rs ++ t) = quotedF n (out ++ enc rs) t
  | [], n, out, t, _ => by simp [bodyL, enc_nil]
  | r :: rs, n, out, t, h => by
    have e : bodyL (r :: rs) ++ t = bodyC r ++ (bodyL rs ++ t) := by simp [bodyL]
    rw [e, List.length_cons, ← Nat.add_assoc, quoted_one _ _ r (h r (by simp)), quoted_body rs n _ t fun x hx => h x (by simp [hx]), enc_cons, List.append_assoc]
theorem bodyC_len (c : Nat) : 1 ≤ (bodyC c).length ∧ (bodyC c).length ≤ 6 := by
  unfold bodyC
  split
  · have := escF_ne c; omega
  · have := encR_pos (c : Int); omega
theorem bodyL_len (rs : List Nat) : rs.length ≤ (bodyL rs).length ∧ (bodyL rs).length ≤ 6 * rs.length := by
  induction rs with
  | nil => simp [bodyL]
  | cons r rs ih =>
    have e : bodyL (r :: rs) = bodyC r ++ bodyL rs := by simp [bodyL]
    have := bodyC_len r
    rw [e]
    simp only [List.length_cons, List.length_append]
    omega
theorem read_quote (rs : List Nat) (h : ∀ r ∈ rs, okR r) (t : List UInt8) (ht : t = [] ∨ t.headD 0 = 32) : readL (quoteL rs ++ t) = .ok (enc rs) t := by
  have e : quoteL rs ++ t = 34 :: (bodyL rs ++ 34 :: t) := by simp [quoteL]
  unfold readL
  rw [e, if_pos (by rfl)]
  have hl := bodyL_len rs
  have e2 : (34 :: (bodyL rs ++ 34 :: t)).length = ((bodyL rs).length - rs.length + t.length + 1) + 1 + rs.length := by
    simp only [List.length_cons, List.length_append]; omega
  rw [e2]
  show quotedF _ [] (bodyL rs ++ 34 :: t) = _
  rw [quoted_body rs _ [] _ h]
  show (if _ then _ else _) = _
  rw [if_neg (by simp), if_pos (by rfl)]
  show (if t ≠ [] ∧ t.headD 0 ≠ 32 then _ else _) = _
  rw [if_neg (by rintro ⟨a, b⟩; exact ht.elim a b), List.nil_append]
  rfl
/-- A quote without its end is too short. -/
theorem read_open (rs : List Nat) (h : ∀ r ∈ rs, okR r) : readL (34 :: bodyL rs) = .bad [] 2 := by
  unfold readL
  rw [if_pos (by rfl)]
  have hl := bodyL_len rs
  have e2 : (34 :: bodyL rs).length = ((bodyL rs).length - rs.length) + 1 + rs.length := by
    simp only [List.length_cons]; omega
  rw [e2]
  show quotedF _ [] (bodyL rs) = _
  have := quoted_body rs ((bodyL rs).length - rs.length + 1) [] [] h
  rw [List.append_nil] at this
  rw [this]
  show (if _ then _ else _) = _
  rw [if_pos rfl]

theorem blanks_head (b : UInt8) (t : List UInt8) (h : b ≠ 32) : blanks (b :: t) = b :: t := by simp [blanks, h]
theorem blanks_cons (t : List UInt8) : blanks (32 :: t) = blanks t := by simp [blanks]
theorem blanks_rep (n : Nat) (t : List UInt8) : blanks (List.replicate n 32 ++ t) = blanks t := by
  induction n with
  | zero => rfl
  | succ n ih => rw [List.replicate_succ, List.cons_append, blanks_cons, ih]
theorem plain_quote (t : List UInt8) : plainL (34 :: t) = some 1 := by
  have := plain_enc 34 (.inl (by decide)) (by decide) t
  simpa [encodeRune, Go.Lib.encodeRuneZ] using this
end Go.Proofs.YtmajdgmbcgkelaaDoor
