/-
  Plain lemmas that the proofs of this seat share: what a slice reads as, what a call owns, bits, bytes as a string. Nothing of the program.
-/
import Derived.WalkKit
import Derived.ProofKit
import Derived.WalkSpells
import Derived.Lib.Hide
import Derived.Deep.Draws
namespace Go.Proofs.Ytdjbmjkfpmchgaa
open Go.RowKit

/-- The slice value (a, n, cap) reads as the numbers xs, each of kind k. -/
structure Reads (k : IntKind) (w : World) (a : Option Addr) (n cap : Nat) (xs : List Int) : Prop where
  len : xs.length = n
  le : n ≤ cap
  max : cap ≤ maxLen
  nil : a = none → n = 0 ∧ cap = 0
  cells : 0 < n → ∃ b off, a = some ⟨b, off, none⟩ ∧ b < w.heap.size ∧ ∀ i, i < n → w.cell? ⟨b, off + i, none⟩ = some (.int k (xs.getD i 0))

/-- Each number is a byte. -/
def isB (xs : List Int) : Prop := ∀ x ∈ xs, 0 ≤ x ∧ x < 256

section
variable {k : IntKind} {w w' : World} {a : Option Addr} {n cap : Nat} {xs ys : List Int}

theorem Reads.below (h : Reads k w a n cap xs) (hb : Below w.heap.size w w') : Reads k w' a n cap xs :=
  ⟨h.len, h.le, h.max, h.nil, fun hn => by
    obtain ⟨b, off, e, hl, hc⟩ := h.cells hn
    exact ⟨b, off, e, Nat.lt_of_lt_of_le hl hb.size, fun i hi => (hb.cell (p := ⟨b, off + i, none⟩) hl).trans (hc i hi)⟩⟩

theorem Reads.n63 (h : Reads k w a n cap xs) : n ≤ 9223372036854775807 ∧ cap ≤ 9223372036854775807 := by
  have h1 := h.le; have h2 := h.max; unfold maxLen at h2; omega

theorem Reads.none (k : IntKind) (w : World) : Reads k w none 0 0 [] := ⟨rfl, Nat.le_refl _, by decide, fun _ => ⟨rfl, rfl⟩, fun h => absurd h (by decide)⟩

theorem isB.get (h : isB xs) (i : Nat) (hi : i < xs.length) : 0 ≤ xs.getD i 0 ∧ xs.getD i 0 < 256 := by
  have : xs.getD i 0 = xs[i] := by simp [List.getD, hi]
  rw [this]; exact h _ (List.getElem_mem hi)
theorem isB.take (h : isB xs) (i : Nat) : isB (xs.take i) := fun x hx => h x (List.mem_of_mem_take hx)
theorem isB.drop (h : isB xs) (i : Nat) : isB (xs.drop i) := fun x hx => h x (List.mem_of_mem_drop hx)
theorem isB.append (h : isB xs) (h' : isB ys) : isB (xs ++ ys) := fun x hx => (List.mem_append.1 hx).elim (h x) (h' x)
theorem isB.nil : isB [] := fun x hx => by cases hx
theorem isB.one {x : Int} (h : 0 ≤ x) (h' : x < 256) : isB [x] := fun y hy => by simp at hy; omega

theorem take_getD (xs : List Int) (i : Nat) (h : i < xs.length) : xs.take (i+1) = xs.take i ++ [xs.getD i 0] := by
  rw [List.take_succ_eq_append_getElem h]; simp [List.getD, h]

/-- What a call owns reads. -/
theorem reads_of_owns {T base : Nat} (h : w.ownsRow base T 1 (.slice a n cap) n (xs.map (Value.int k))) : Reads k w a n cap xs := by
  obtain ⟨hl, h⟩ := h
  have hl' : xs.length = n := by simpa using hl
  rcases h with ⟨e, rfl⟩ | ⟨g, c, cur, e, hb, hg, hnc, hcm, hcs, ht⟩
  · simp at e; obtain ⟨rfl, rfl⟩ := e
    exact ⟨hl', Nat.zero_le _, by decide, fun _ => ⟨rfl, rfl⟩, fun h => absurd h (by decide)⟩
  · simp at e; obtain ⟨rfl, rfl⟩ := e
    refine ⟨hl', hnc, hcm, (fun h => nomatch h), fun hn => ⟨g, 0, rfl, (Array.getElem?_eq_some_iff.1 hg).1, fun i hi => ?_⟩⟩
    have h1 := (World.ownsRow.cellAt (g := g) (n := n) (cap := cap) (xs := xs.map (Value.int k)) ⟨hl, .inr ⟨g, cap, cur, rfl, hb, hg, hnc, hcm, hcs, ht⟩⟩ i (by omega))
    rw [Nat.zero_add, h1]
    simp [List.getD, hl', hi]

theorem owns_below {T base : Nat} {v : Value} {ws : List Value} (h : w.ownsRow base T 1 v n ws) (hb : Below w.heap.size w w') : w'.ownsRow base T 1 v n ws :=
  h.kept (row := .none) ⟨hb.os, hb.tape, hb.output, hb.size, fun k hk _ => hb.block k hk⟩ (by cases hv : v.ownBlock <;> simp)

theorem owns_base {T base base' : Nat} {v : Value} {ws : List Value} (h : w.ownsRow base T 1 v n ws) (hb : base' ≤ base) : w.ownsRow base' T 1 v n ws := by
  obtain ⟨hl, h⟩ := h
  refine ⟨hl, ?_⟩
  rcases h with h | ⟨g, c, cur, e, hb', r⟩
  · exact .inl h
  · exact .inr ⟨g, c, cur, e, by omega, r⟩

theorem below_size (hb : Below w.heap.size w w') {w'' : World} (hc : Below w'.heap.size w' w'') : Below w.heap.size w w'' := hb.trans (hc.mono hb.size)
end

/-! Bits -/
theorem bits_nat' (op : BinOp) (f : Nat → Nat → Nat) (hf : ∀ (n : Nat) (x y : BitVec n), (match op with | .and => x &&& y | .or => x ||| y | .xor => x ^^^ y | _ => x &&& ~~~y).toNat = f x.toNat y.toNat)
    (k : IntKind) (j : Nat) (hj : j ≤ k.bits) (hk : ∀ n : Int, 0 ≤ n → n < 2 ^ j → k.wrap n = n) (a b : Nat) (ha : a < 2 ^ j) (hb : b < 2 ^ j) (hab : f a b < 2 ^ j) : bits op k a b = ((f a b : Nat) : Int) := by
  have hp : 2 ^ j ≤ 2 ^ k.bits := Nat.pow_le_pow_right (by decide) hj
  have ha' : a % 2 ^ k.bits = a := Nat.mod_eq_of_lt (Nat.lt_of_lt_of_le ha hp)
  have hb' : b % 2 ^ k.bits = b := Nat.mod_eq_of_lt (Nat.lt_of_lt_of_le hb hp)
  have := hf k.bits (BitVec.ofInt k.bits a) (BitVec.ofInt k.bits b)
  unfold bits
  cases op <;> simp only [BitVec.ofInt_natCast, BitVec.toNat_ofNat, ha', hb'] at this ⊢ <;> rw [this] <;> exact hk _ (Int.natCast_nonneg _) (by exact_mod_cast hab)

theorem wraps_u32 (n : Int) (h₀ : 0 ≤ n) (h₁ : n < 2 ^ 32) : IntKind.u32.wrap n = n := by rw [IntKind.wrap_u32]; omega
theorem wraps_i64 (n : Int) (h₀ : 0 ≤ n) (h₁ : n < 2 ^ 63) : IntKind.i64.wrap n = n := by rw [IntKind.wrap_i64]; omega
theorem or_i64 (a b : Nat) (ha : a < 2 ^ 63) (hb : b < 2 ^ 63) : bits .or .i64 a b = ((a ||| b : Nat) : Int) := (bits_nat .i64 63 (by decide) wraps_i64 a b ha hb).2
theorem and_i64 (a b : Nat) (ha : a < 2 ^ 63) (hb : b < 2 ^ 63) : bits .and .i64 a b = ((a &&& b : Nat) : Int) := (bits_nat .i64 63 (by decide) wraps_i64 a b ha hb).1
theorem or_u32 (a b : Nat) (ha : a < 2 ^ 32) (hb : b < 2 ^ 32) : bits .or .u32 a b = ((a ||| b : Nat) : Int) := (bits_nat .u32 32 (by decide) wraps_u32 a b ha hb).2
theorem and_u32 (a b : Nat) (ha : a < 2 ^ 32) (hb : b < 2 ^ 32) : bits .and .u32 a b = ((a &&& b : Nat) : Int) := (bits_nat .u32 32 (by decide) wraps_u32 a b ha hb).1
theorem xor_u32 (a b : Nat) (ha : a < 2 ^ 32) (hb : b < 2 ^ 32) : bits .xor .u32 a b = ((a ^^^ b : Nat) : Int) :=
  bits_nat' .xor (· ^^^ ·) (fun _ x y => BitVec.toNat_xor x y) .u32 32 (by decide) wraps_u32 a b ha hb (Nat.xor_lt_two_pow ha hb)
theorem xor_u8 (a b : Nat) (ha : a < 2 ^ 8) (hb : b < 2 ^ 8) : bits .xor .u8 a b = ((a ^^^ b : Nat) : Int) :=
  bits_nat' .xor (· ^^^ ·) (fun _ x y => BitVec.toNat_xor x y) .u8 8 (by decide) wraps_u8 a b ha hb (Nat.xor_lt_two_pow ha hb)
theorem not_u32 (s : Nat) (hs : s < 2 ^ 32) : bits .xor .u32 IntKind.u32.max (s : Int) = 4294967295 - (s : Int) := by
  have hm : IntKind.u32.max = ((4294967295 : Nat) : Int) := by decide
  rw [hm, xor_u32 _ _ (by decide) hs]
  have h : (BitVec.allOnes 32 ^^^ BitVec.ofNat 32 s).toNat = 2 ^ 32 - 1 - s := by
    rw [BitVec.allOnes_xor, BitVec.toNat_not, BitVec.toNat_ofNat, Nat.mod_eq_of_lt hs]
  rw [BitVec.toNat_xor, BitVec.toNat_allOnes, BitVec.toNat_ofNat, Nat.mod_eq_of_lt hs] at h
  have h2 : 4294967295 ^^^ s = 4294967295 - s := h
  rw [h2]; omega
theorem or_join_u32 (i : Nat) (x y : Int) (hx₀ : 0 ≤ x) (hx : x % 2 ^ i = 0) (hx₁ : x < 2 ^ 32) (hy₀ : 0 ≤ y) (hy : y < 2 ^ i) (hy₁ : y < 2 ^ 32) : bits .or .u32 x y = x + y :=
  bits_join .u32 32 (by decide) wraps_u32 i x y hx₀ hx hx₁ hy₀ hy hy₁
theorem or_join_i64 (i : Nat) (x y : Int) (hx₀ : 0 ≤ x) (hx : x % 2 ^ i = 0) (hx₁ : x < 2 ^ 63) (hy₀ : 0 ≤ y) (hy : y < 2 ^ i) (hy₁ : y < 2 ^ 63) : bits .or .i64 x y = x + y :=
  bits_join .i64 63 (by decide) wraps_i64 i x y hx₀ hx hx₁ hy₀ hy hy₁
theorem mask_u32 (i : Nat) (hi : i ≤ 32) (x : Int) (h₀ : 0 ≤ x) (h₁ : x < 2 ^ 32) : bits .and .u32 x (2 ^ i - 1) = x % 2 ^ i := bits_mask .u32 32 (by decide) wraps_u32 i hi x h₀ h₁
theorem mask_i64 (i : Nat) (hi : i ≤ 63) (x : Int) (h₀ : 0 ≤ x) (h₁ : x < 2 ^ 63) : bits .and .i64 x (2 ^ i - 1) = x % 2 ^ i := bits_mask .i64 63 (by decide) wraps_i64 i hi x h₀ h₁

theorem bits_or_comm (k : IntKind) (a b : Int) : bits .or k a b = bits .or k b a := by unfold bits; simp only [BitVec.or_comm]
theorem bits_and_comm (k : IntKind) (a b : Int) : bits .and k a b = bits .and k b a := by unfold bits; simp only [BitVec.and_comm]

/-! Bytes as a string -/
theorem strOfNums_inj {xs ys : List Int} (hx : isB xs) (hy : isB ys) (h : strOfNums xs = strOfNums ys) : xs = ys := by
  have h1 : xs.map (fun n => UInt8.ofNat n.toNat) = ys.map (fun n => UInt8.ofNat n.toNat) := by
    have := congrArg (fun s => s.data.toList) h
    simpa [strOfNums] using this
  clear h
  induction xs generalizing ys with
  | nil => cases ys with
    | nil => rfl
    | cons y ys => simp at h1
  | cons x xs ih => cases ys with
    | nil => simp at h1
    | cons y ys =>
      simp only [List.map_cons, List.cons.injEq] at h1
      have a := hx x (by simp); have b := hy y (by simp)
      have e : x = y := by
        have := congrArg UInt8.toNat h1.1
        simp at this
        omega
      rw [e, ih (fun z hz => hx z (by simp [hz])) (fun z hz => hy z (by simp [hz])) h1.2]

theorem strOfNums_beq {xs ys : List Int} (hx : isB xs) (hy : isB ys) : ((strOfNums xs).toList == (strOfNums ys).toList) = decide (xs = ys) := by
  rw [Bool.eq_iff_iff, beq_iff_eq, decide_eq_true_eq, ByteArray.toList_eq, ByteArray.toList_eq]
  refine ⟨fun h => strOfNums_inj hx hy ?_, fun h => by rw [h]⟩
  unfold strOfNums at h ⊢
  simp only at h
  rw [h]

theorem run_bytes_string {P : Program} {w : World} {a : Option Addr} {n cap : Nat} {xs : List Int} (h : Reads .u8 w a n cap xs) (src e : TypeId) (hs : P.underlying src = some (.slice e)) (he : P.underlying e = some (.int .u8)) (dst : TypeId) (hd : P.underlying dst = some .string) :
    (convert src dst (.slice a n cap)).run P w = .ok (.string (strOfNums xs)) w := by
  by_cases hn : 0 < n
  · obtain ⟨b, off, rfl, hl, hc⟩ := h.cells hn
    exact run_convert_bytes_arg w src e hs he b off n cap xs h.len hc dst hd
  · obtain rfl : n = 0 := by omega
    have : xs = [] := List.eq_nil_of_length_eq_zero h.len
    subst this
    cases a with
    | none => exact run_convert_bytes_nil w src e hs he 0 cap dst hd
    | some a =>
      rw [run_convert_bytes_string w src dst e _ 0 cap hs he hd, run_bytesToString w a 0 cap [] (by simp [loadCells, loadCellsFrom])]
      rfl

/-- Where s[lo:..] of (a, _, cap) begins. -/
def cutA (a : Option Addr) (lo cap : Nat) : Option Addr := if cap = lo then a else a.map (·.add lo)

theorem Reads.cut {k : IntKind} {w : World} {a : Option Addr} {n cap : Nat} {xs : List Int} (h : Reads k w a n cap xs) (lo hi : Nat) (h1 : lo ≤ hi) (h2 : hi ≤ n) :
    Reads k w (cutA a lo cap) (hi - lo) (cap - lo) ((xs.drop lo).take (hi - lo)) := by
  have hl := h.len; have hle := h.le; have hm := h.max
  refine ⟨by simp; omega, by omega, by omega, fun e => ?_, fun hn => ?_⟩
  · unfold cutA at e
    split at e
    · have := h.nil e; omega
    · cases a with
      | none => have := h.nil rfl; omega
      | some a => simp at e
  · obtain ⟨b, off, rfl, hb, hc⟩ := h.cells (by omega)
    refine ⟨b, off + lo, ?_, hb, fun i hi' => ?_⟩
    · unfold cutA; rw [if_neg (by omega)]; simp only [Option.map_some, Addr.add_lit]
    · rw [Nat.add_assoc, hc (lo + i) (by omega)]
      congr 2
      simp [List.getD, hi']

theorem run_slice_lo_hi {P : Program} (t e : TypeId) (ht : P.underlying t = some (.slice e)) (hsz : (P.info? e).map (·.size) = some 1) (a : Option Addr) (n cap lo hi : Nat) (kl kh : IntKind) (h1 : lo ≤ hi) (h2 : hi ≤ cap) (w : World) :
    (Instr.slice t (.slice a n cap) (some (.int kl (lo : Int))) (some (.int kh (hi : Int))) none).run P w = .ok (.slice (cutA a lo cap) (hi - lo) (cap - lo)) w := by
  obtain ⟨i, hi', hz⟩ := Option.map_eq_some_iff.1 hsz
  simp [Instr.slice, run_underlying ht, Instr.sliceBounds, run_sliceBound, sizeOf, typeInfo, hi', hz, cutA, h1, h2]

theorem run_slice_hi {P : Program} (t e : TypeId) (ht : P.underlying t = some (.slice e)) (hsz : (P.info? e).map (·.size) = some 1) (a : Option Addr) (n cap hi : Nat) (kh : IntKind) (h2 : hi ≤ cap) (w : World) :
    (Instr.slice t (.slice a n cap) none (some (.int kh (hi : Int))) none).run P w = .ok (.slice (cutA a 0 cap) hi cap) w := by
  obtain ⟨i, hi', hz⟩ := Option.map_eq_some_iff.1 hsz
  simp [Instr.slice, run_underlying ht, Instr.sliceBounds, run_sliceBound, sizeOf, typeInfo, hi', cutA, h2]

theorem run_slice_lo {P : Program} (t e : TypeId) (ht : P.underlying t = some (.slice e)) (hsz : (P.info? e).map (·.size) = some 1) (a : Option Addr) (n cap lo : Nat) (kl : IntKind) (h1 : lo ≤ n) (w : World) :
    (Instr.slice t (.slice a n cap) (some (.int kl (lo : Int))) none none).run P w = .ok (.slice (cutA a lo cap) (n - lo) (cap - lo)) w := by
  obtain ⟨i, hi', hz⟩ := Option.map_eq_some_iff.1 hsz
  simp [Instr.slice, run_underlying ht, Instr.sliceBounds, run_sliceBound, sizeOf, typeInfo, hi', hz, cutA, h1]

section
variable {k : IntKind} {w : World} {g n cap base T : Nat} {xs : List Int}
theorem owns_cell (h : w.ownsRow base T 1 (.slice (some ⟨g, 0, none⟩) n cap) n (xs.map (Value.int k))) (i : Nat) (hi : i < n) : w.cell? ⟨g, i, none⟩ = some (.int k (xs.getD i 0)) := by
  have hl : xs.length = n := by simpa using h.1
  rw [h.cellAt i (by omega)]
  simp [List.getD, hl, hi]
theorem owns_set (h : w.ownsRow base T 1 (.slice (some ⟨g, 0, none⟩) n cap) n (xs.map (Value.int k))) (i : Nat) (x : Int) : (w.setCell ⟨g, i, none⟩ (.int k x)).ownsRow base T 1 (.slice (some ⟨g, 0, none⟩) n cap) n ((xs.set i x).map (Value.int k)) := by
  rw [List.map_set]; exact (h.stored i _).1
end
theorem getD_set (xs : List Int) (i j : Nat) (x : Int) : (xs.set i x).getD j 0 = if i = j ∧ i < xs.length then x else xs.getD j 0 := by
  simp only [List.getD, List.getElem?_set]
  by_cases h : i = j
  · subst h
    by_cases h' : i < xs.length <;> simp [h']
  · simp [h]
theorem ext_getD {xs ys : List Int} (hl : xs.length = ys.length) (h : ∀ i, i < xs.length → xs.getD i 0 = ys.getD i 0) : xs = ys := by
  apply List.ext_getElem hl
  intro i h1 h2
  have := h i h1
  simpa [List.getD, h1, h2] using this
theorem getD_map_range (m i : Nat) (f : Nat → Int) : ((List.range m).map f).getD i 0 = if i < m then f i else 0 := by
  by_cases h : i < m <;> simp [List.getD, h]
theorem getD_reverse (xs : List Int) (i : Nat) (h : i < xs.length) : xs.reverse.getD i 0 = xs.getD (xs.length - 1 - i) 0 := by
  have : xs.length - 1 - i < xs.length := by omega
  simp [List.getD, h, this]
theorem toList_made (n : Nat) (k : IntKind) : (madeCells #[Value.int k 0] n).toList = (List.replicate n (0 : Int)).map (Value.int k) := by
  rw [toList_madeCells_one]; simp

/-! append -/
section
variable {P : Program} (w : World)
theorem run_append_reads (base : Nat) (t ty e : TypeId) (i : TypeInfo) (z : Value) (bytes : Nat) (ht : P.underlying t = some (.slice e)) (hi : P.info? e = some i) (hz : i.zero = some z) (hsize : i.size = 1) (hby : i.bytes = bytes) (hzs : z.cells.size = 1)
    (k : IntKind) (a : Option Addr) (n cap : Nat) (xs : List Int) (hown : w.ownsRow base e 1 (.slice a n cap) n (xs.map (Value.int k))) (b : Option Addr) (m c : Nat) (ys : List Int) (hr : Reads k w b m c ys)
    (h63 : n + m ≤ maxLen) (hbytes : (n + m) * bytes ≤ 140737488355328) (hbase : base ≤ w.heap.size) :
    ∃ a' cap' w', (Builtin.append_ #[t, t] ty #[.slice a n cap, .slice b m c]).run P w = .ok (.slice a' (n + m) cap') w' ∧ w'.ownsRow base e 1 (.slice a' (n + m) cap') (n + m) ((xs ++ ys).map (Value.int k)) ∧ w.grownBy w' (Value.slice a n cap).ownBlock ∧ (a' = none ↔ a = none ∧ m = 0) := by
  cases b with
  | none =>
    obtain ⟨rfl, rfl⟩ := hr.nil rfl
    obtain rfl : ys = [] := List.eq_nil_of_length_eq_zero hr.len
    refine ⟨a, cap, w, ?_, by simpa using hown, World.grownBy.refl _ _, by simp⟩
    exact run_append_owned_none (P := P) w base t ty e i 1 ht hi _ n _ hown
  | some ad =>
    have hcells : ∀ j u, (ys.map (Value.int k))[j]? = some u → w.cell? (ad.add j) = some u := by
      intro j u hu
      have hj : j < ys.length := by
        rcases Nat.lt_or_ge j ys.length with h | h
        · exact h
        · simp [h] at hu
      obtain ⟨b', off, e', _, hc⟩ := hr.cells (by have := hr.len; omega)
      cases e'
      rw [Addr.add_lit, hc j (by have := hr.len; omega)]
      simp [hj] at hu
      simp [List.getD, hj, hu]
    obtain ⟨v', w', hrun, ho, hg, hn⟩ := run_append_own (P := P) w base t ty e i z 1 bytes ht hi hz hsize hby hzs (by decide) _ n _ hown ad m c (ys.map (Value.int k)) (by simp [hr.len]) hcells (ints_oneCell k ys) h63 hbytes hbase
    rcases ho.2 with ⟨rfl, h0⟩ | ⟨g, c', cur, rfl, r⟩
    · have := hn.1 rfl
      refine ⟨none, 0, w', by rw [hrun, h0], by rw [h0] at ho ⊢; simpa using ho, hg, by simp; have h2 := this.1; cases h2; exact ⟨rfl, this.2⟩⟩
    · refine ⟨some ⟨g, 0, none⟩, c', w', hrun, by simpa using ho, hg, ?_⟩
      constructor
      · intro h; cases h
      · rintro ⟨rfl, rfl⟩
        have hz : n = 0 := by
          rcases hown.2 with ⟨_, h⟩ | ⟨_, _, _, h, _⟩
          · exact h
          · simp at h
        have hc : cap = 0 := by
          rcases hown.2 with ⟨h, _⟩ | ⟨_, _, _, h, _⟩
          · simp at h; omega
          · simp at h
        subst hz; subst hc
        have := hn.2 ⟨rfl, rfl⟩
        simp at this

theorem wpList_append_reads {ops : Array Oper} {rest : List Oper} {o : Oper} {act : Act} {Q : Exit → Act → World → Prop} (hgd : o.guard = none) (s x : Operand) (t : TypeId)
    (ho : o.op = Op.call { callee := Callee.builtin Builtin.append, args := #[s, x], argTypes := #[t, t] })
    (base : Nat) (e : TypeId) (i : TypeInfo) (z : Value) (bytes : Nat) (ht : P.underlying t = some (.slice e)) (hi : P.info? e = some i) (hz : i.zero = some z) (hsize : i.size = 1) (hby : i.bytes = bytes) (hzs : z.cells.size = 1)
    (k : IntKind) (a : Option Addr) (n cap : Nat) (xs : List Int) (hs : act.eval s = .slice a n cap) (hown : w.ownsRow base e 1 (.slice a n cap) n (xs.map (Value.int k))) (b : Option Addr) (m c : Nat) (ys : List Int) (hx : act.eval x = .slice b m c) (hr : Reads k w b m c ys)
    (h63 : n + m ≤ maxLen) (hbytes : (n + m) * bytes ≤ 140737488355328) (hbase : base ≤ w.heap.size)
    (h : ∀ a' cap' w', w'.ownsRow base e 1 (.slice a' (n + m) cap') (n + m) ((xs ++ ys).map (Value.int k)) → w.grownBy w' (Value.slice a n cap).ownBlock → (a' = none ↔ a = none ∧ m = 0) → wpList P ops Q rest (act.put o.dst (.slice a' (n + m) cap')) w') : wpList P ops Q (o :: rest) act w := by
  refine wpList_plain hgd fun K hK => ?_
  obtain ⟨a', cap', w', hr, h2, h3, h4⟩ := run_append_reads (P := P) w base t o.type e i z bytes ht hi hz hsize hby hzs k a n cap xs hown b m c ys hr h63 hbytes hbase
  unfold Oper.wp execOp
  simp only [ho, resolve, invoke, builtin, Sem.run_bind, Sem.run_pure, Result.andThen_ok, List.map_toArray, List.map_cons, List.map_nil, hs, hx, hr]
  exact hK _ _ (h a' cap' w' h2 h3 h4)

theorem step_append_reads {ops : Array Oper} {o : Oper} {act : Act} {K : Act → World → Prop} {Q : Exit → Act → World → Prop} {E : Prop} (hgd : o.guard = none) (s x : Operand) (t : TypeId)
    (ho : o.op = Op.call { callee := Callee.builtin Builtin.append, args := #[s, x], argTypes := #[t, t] })
    (base : Nat) (e : TypeId) (i : TypeInfo) (z : Value) (bytes : Nat) (ht : P.underlying t = some (.slice e)) (hi : P.info? e = some i) (hz : i.zero = some z) (hsize : i.size = 1) (hby : i.bytes = bytes) (hzs : z.cells.size = 1)
    (k : IntKind) (a : Option Addr) (n cap : Nat) (xs : List Int) (hs : act.eval s = .slice a n cap) (hown : w.ownsRow base e 1 (.slice a n cap) n (xs.map (Value.int k))) (b : Option Addr) (m c : Nat) (ys : List Int) (hx : act.eval x = .slice b m c) (hr : Reads k w b m c ys)
    (h63 : n + m ≤ maxLen) (hbytes : (n + m) * bytes ≤ 140737488355328) (hbase : base ≤ w.heap.size)
    (h : ∀ a' cap' w', w'.ownsRow base e 1 (.slice a' (n + m) cap') (n + m) ((xs ++ ys).map (Value.int k)) → w.grownBy w' (Value.slice a n cap).ownBlock → (a' = none ↔ a = none ∧ m = 0) → K (act.put o.dst (.slice a' (n + m) cap')) w') :
    if Region.wanted o (yielded ops act.tmps) = true then Oper.wp P o act w K Q else E := by
  have hw : Region.wanted o (yielded ops act.tmps) = true := by simp [Region.wanted, hgd]
  rw [if_pos hw]
  obtain ⟨a', cap', w', hr, h2, h3, h4⟩ := run_append_reads (P := P) w base t o.type e i z bytes ht hi hz hsize hby hzs k a n cap xs hown b m c ys hr h63 hbytes hbase
  unfold Oper.wp execOp
  simp only [ho, resolve, invoke, builtin, Sem.run_bind, Sem.run_pure, Result.andThen_ok, List.map_toArray, List.map_cons, List.map_nil, hs, hx, hr]
  exact h a' cap' w' h2 h3 h4
end

/-- What grew in what a call owns from base on leaves all below base as it was. -/
theorem below_grown {B base : Nat} {w0 w w' : World} {T n : Nat} {v : Value} {ws : List Value} (h : Below B w0 w) (ho : w.ownsRow base T 1 v n ws) (hg : w.grownBy w' v.ownBlock) (hB : B ≤ base) (hB' : B ≤ w.heap.size) : Below B w0 w' :=
  h.grown hg hB' fun k hk => by have := (ho.lt k hk).1; omega

theorem reads_alloc {k : IntKind} (w : World) (xs : List Int) (C : Array Value) (e : TypeId) (fr : Nat × Nat) (h : C = (xs.map (Value.int k)).toArray) (hm : xs.length ≤ maxLen) (n : Nat) (hn : n = xs.length) :
    Reads k (w.alloc (.cells C e fr)) (some ⟨w.heap.size, 0, none⟩) n n xs := by
  subst h hn
  have hh : (w.alloc (.cells (xs.map (Value.int k)).toArray e fr)).heap[w.heap.size]? = some (.cells (xs.map (Value.int k)).toArray e fr) := by
    show (w.heap.push _)[w.heap.size]? = _
    simp
  refine ⟨rfl, Nat.le_refl _, hm, (fun h => nomatch h), fun _ => ⟨w.heap.size, 0, rfl, by simp, fun i hi => ?_⟩⟩
  unfold World.cell?
  rw [hh]
  simp [hi, List.getD]

theorem isB_of_all (xs : List Int) (h : xs.all (fun x => decide (0 ≤ x ∧ x < 256)) = true) : isB xs := fun x hx => by
  have := List.all_eq_true.1 h x hx
  simpa using this

/-- What opening a slice of numbers gives, as Reads. -/
theorem reads_of_open {k : IntKind} {w : World} {x : Addr} {l c : Nat} {zs : List Int} (hl : l ≤ c) (hm : c ≤ maxLen) (hz : zs.length = c) (hcell : ∀ i, i < zs.length → w.cell? (x.add i) = some (.int k (zs.getD i 0))) :
    Reads k w (some x) l c (zs.take l) := by
  refine ⟨by simp; omega, hl, hm, (fun h => nomatch h), fun hn => ?_⟩
  obtain ⟨b, off, spot⟩ := x
  have h0 := hcell 0 (by omega)
  have hspot : spot = none := by simpa [Addr.add] using World.cell?_spot h0
  subst hspot
  refine ⟨b, off, rfl, World.block_lt_of_cell? _ _ h0, fun i hi => ?_⟩
  rw [← Addr.add_lit, hcell i (by omega)]
  simp [List.getD, hi]

theorem isB_of_wf {zs : List Int} (h : ∀ n ∈ zs, (Lit.int .u8 n).wf = true) : isB zs := fun n hn => by
  have := h n hn
  simp [Lit.wf, IntKind.min, IntKind.max, IntKind.signed, IntKind.bits] at this
  omega

theorem wf_i64 {n : Int} (h : (Lit.int .i64 n).wf = true) : -9223372036854775808 ≤ n ∧ n ≤ 9223372036854775807 := by
  simp [Lit.wf, IntKind.min, IntKind.max, IntKind.signed, IntKind.bits] at h
  omega
theorem wf_u8 {n : Int} (h : (Lit.int .u8 n).wf = true) : 0 ≤ n ∧ n < 256 := by
  simp [Lit.wf, IntKind.min, IntKind.max, IntKind.signed, IntKind.bits] at h
  omega
theorem wf_u32 {n : Int} (h : (Lit.int .u32 n).wf = true) : 0 ≤ n ∧ n < 4294967296 := by
  simp [Lit.wf, IntKind.min, IntKind.max, IntKind.signed, IntKind.bits] at h
  omega

theorem Reads.drew {k : IntKind} {w : World} {a : Option Addr} {n cap : Nat} {xs : List Int} (h : Reads k w a n cap xs) : Reads k w.drew a n cap xs := ⟨h.len, h.le, h.max, h.nil, h.cells⟩

/-- A text's byte as a number. -/
def byteAt (s : ByteArray) (i : Nat) : Int := if h : i < s.size then (s[i].toNat : Int) else 0
theorem byteAt_bd (s : ByteArray) (i : Nat) : 0 ≤ byteAt s i ∧ byteAt s i < 256 := by
  unfold byteAt; split
  · have := (s[i]).toNat_lt; omega
  · omega
theorem run_index_str {P : Program} (t : TypeId) (ht : P.underlying t = some .string) (s : ByteArray) (i : Int) (j : Nat) (hij : i = (j : Int)) (h : j < s.size) (w : World) :
    (Instr.index t (.string s) (.int .i64 i)).run P w = .ok (.int .u8 (byteAt s j)) w := by
  subst hij
  rw [run_index_string (P := P) (w := w) t s .i64 j ht, dif_pos ⟨by omega, by omega⟩]
  simp [byteAt, h]

theorem below_drewN {B : Nat} {w w' : World} (h : Below B w w') (n : Nat) : Below B w (w'.drewN n) := ⟨h.os, h.tape, h.output, h.size, h.block⟩
theorem drewN_drewN (w : World) (a b : Nat) : (w.drewN a).drewN b = w.drewN (a + b) := by simp [World.drewN, Nat.add_assoc]
theorem Reads.drewN {k : IntKind} {w : World} {a : Option Addr} {n cap : Nat} {xs : List Int} (h : Reads k w a n cap xs) (m : Nat) : Reads k (w.drewN m) a n cap xs := ⟨h.len, h.le, h.max, h.nil, h.cells⟩

theorem ret_int {k : IntKind} {a b : Int} (h : a = b) : Ending.returned (.int k a) = .returned (.int k b) := by rw [h]
theorem ret_bool {a b : Bool} (h : a = b) : Ending.returned (.bool a) = .returned (.bool b) := by rw [h]

theorem Reads.cellAt {k : IntKind} {w : World} {a : Option Addr} {n cap : Nat} {xs : List Int} (h : Reads k w a n cap xs) (i : Nat) (hi : i < n) :
    ∃ b off, a = some ⟨b, off, Option.none⟩ ∧ w.cell? ⟨b, off + i, Option.none⟩ = some (.int k (xs.getD i 0)) := by
  obtain ⟨b, off, e, _, hc⟩ := h.cells (by omega)
  exact ⟨b, off, e, hc i hi⟩

theorem xor_u8i (x y : Int) (hx : 0 ≤ x ∧ x < 256) (hy : 0 ≤ y ∧ y < 256) : bits .xor .u8 x y = ((x.toNat ^^^ y.toNat : Nat) : Int) := by
  obtain ⟨a, rfl⟩ := Int.eq_ofNat_of_zero_le hx.1
  obtain ⟨b, rfl⟩ := Int.eq_ofNat_of_zero_le hy.1
  exact xor_u8 a b (by omega) (by omega)
theorem owns_other {w : World} {base T gd i : Nat} {k : IntKind} {x : Int} {a : Option Addr} {n cap m cm : Nat} {ws : List Value} {ds : List Int} (h : w.ownsRow base T 1 (.slice a n cap) n ws) (hd : w.ownsRow base T 1 (.slice (some ⟨gd, 0, Option.none⟩) m cm) m (ds.map (Value.int k))) (hne : ∀ g, a = some ⟨g, 0, Option.none⟩ → g ≠ gd) :
    (w.setCell ⟨gd, i, Option.none⟩ (.int k x)).ownsRow base T 1 (.slice a n cap) n ws := by
  refine h.kept (row := some gd) (hd.stored i _).2 ?_
  rcases h.2 with ⟨e, _⟩ | ⟨g, c, cur, e, _⟩
  · exact .inl (by rw [e]; rfl)
  · refine .inr ?_
    rw [e]
    have e' : a = some ⟨g, 0, Option.none⟩ := by simpa using (Value.slice.inj e).1
    have := hne g e'
    intro h2
    exact this (by simpa [Value.ownBlock] using h2)
theorem owns_addr {w : World} {base T : Nat} {a : Option Addr} {n cap : Nat} {ws : List Value} (h : w.ownsRow base T 1 (.slice a n cap) n ws) (hn : 0 < n) : ∃ g, a = some ⟨g, 0, Option.none⟩ ∧ base ≤ g := by
  rcases h.2 with ⟨_, e⟩ | ⟨g, c, cur, e, hb, _⟩
  · omega
  · exact ⟨g, by simpa using (Value.slice.inj e).1, hb⟩
end Go.Proofs.Ytdjbmjkfpmchgaa
