/-
  SHA-256 as lists of words: the words of a block, the steps, a block taken into the state, the last blocks.
-/
import Derived.Test.YtkfcjlegeccgjaaShaTurn
namespace Go.Proofs.Ytkfcjlegeccgjaa
open Go.RowKit

def add32 (a b : Int) : Int := (a + b) % 4294967296
theorem add32_isW (a b : Int) : isW (add32 a b) := mod_isW _
/-- Four bytes as a word. -/
def word4 (a b c d : Int) : Int := bits .or .u32 (bits .or .u32 (bits .or .u32 (a * 16777216) (b * 65536)) (c * 256)) d
theorem word4_isW (a b c d : Int) : isW (word4 a b c d) := bits_isW _ _ _
def xor32 (a b : Int) : Int := bits .xor .u32 a b
def sig0 (x : Int) : Int := xor32 (xor32 (rot x 7) (rot x 18)) (x / 8)
def sig1 (x : Int) : Int := xor32 (xor32 (rot x 17) (rot x 19)) (x / 1024)
def wNext (ws : List Int) (i : Nat) : Int := add32 (add32 (add32 (ws.getD (i - 16) 0) (sig0 (ws.getD (i - 15) 0))) (ws.getD (i - 7) 0)) (sig1 (ws.getD (i - 2) 0))
def wWord (bs : List Int) (i : Nat) : Int := word4 (bs.getD (4 * i) 0) (bs.getD (4 * i + 1) 0) (bs.getD (4 * i + 2) 0) (bs.getD (4 * i + 3) 0)
/-- The words behind so many steps; ws0: what was there. -/
def wArr (bs ws0 : List Int) : Nat → List Int
  | 0 => ws0
  | i + 1 => (wArr bs ws0 i).set i (if i < 16 then wWord bs i else wNext (wArr bs ws0 i) i)
theorem wArr_len (bs ws0 : List Int) : ∀ i, (wArr bs ws0 i).length = ws0.length
  | 0 => rfl
  | i + 1 => by rw [wArr, List.length_set, wArr_len bs ws0 i]
theorem isWs_set {xs : List Int} (h : isWs xs) (i : Nat) {x : Int} (hx : isW x) : isWs (xs.set i x) := fun y hy => (List.mem_or_eq_of_mem_set hy).elim (h y) (fun e => e ▸ hx)
theorem wArr_isWs (bs : List Int) {ws0 : List Int} (h : isWs ws0) : ∀ i, isWs (wArr bs ws0 i)
  | 0 => h
  | i + 1 => isWs_set (wArr_isWs bs h i) i (by split; exact word4_isW _ _ _ _; exact add32_isW _ _)
theorem wArr_old (bs ws0 ws1 : List Int) (hl : ws0.length = ws1.length) : ∀ i, i ≤ ws0.length → (∀ j, j < i → (wArr bs ws0 i).getD j 0 = (wArr bs ws1 i).getD j 0) ∧ ∀ j, i ≤ j → (wArr bs ws0 i).getD j 0 = ws0.getD j 0
  | 0, _ => ⟨fun j hj => by omega, fun j _ => rfl⟩
  | i + 1, hi => by
    obtain ⟨h1, h2⟩ := wArr_old bs ws0 ws1 hl i (by omega)
    have l0 := wArr_len bs ws0 i; have l1 := wArr_len bs ws1 i
    refine ⟨fun j hj => ?_, fun j hj => ?_⟩
    · rw [wArr, wArr, getD_set, getD_set, l0, l1, ← hl]
      by_cases e : i = j
      · subst e
        rw [if_pos (⟨rfl, by omega⟩ : i = i ∧ i < ws0.length), if_pos (⟨rfl, by omega⟩ : i = i ∧ i < ws0.length)]
        by_cases e16 : i < 16
        · rw [if_pos e16, if_pos e16]
        · rw [if_neg e16, if_neg e16]
          unfold wNext
          rw [h1 _ (by omega), h1 _ (by omega), h1 _ (by omega), h1 _ (by omega)]
      · rw [if_neg (fun h => e h.1), if_neg (fun h => e h.1)]
        exact h1 j (by omega)
    · rw [wArr, getD_set, if_neg (fun h => by omega)]
      exact h2 j (by omega)
/-- All 64 words hang on the block alone. -/
theorem wArr_all (bs ws0 ws1 : List Int) (h0 : ws0.length = 64) (h1 : ws1.length = 64) : wArr bs ws0 64 = wArr bs ws1 64 := by
  refine ext_getD (by rw [wArr_len, wArr_len, h0, h1]) fun j hj => ?_
  rw [wArr_len, h0] at hj
  exact (wArr_old bs ws0 ws1 (by rw [h0, h1]) 64 (by omega)).1 j hj

def big1 (x : Int) : Int := xor32 (xor32 (rot x 6) (rot x 11)) (rot x 25)
def big0 (x : Int) : Int := xor32 (xor32 (rot x 2) (rot x 13)) (rot x 22)
def not32 (x : Int) : Int := 4294967295 - x
def and32 (a b : Int) : Int := bits .and .u32 a b
def chF (e f g : Int) : Int := xor32 (and32 e f) (and32 (bits .xor .u32 IntKind.u32.max e) g)
def maF (a b c : Int) : Int := xor32 (xor32 (and32 a b) (and32 a c)) (and32 b c)
def t1F (k wd : Int) (v : List Int) : Int := add32 (add32 (add32 (add32 (v.getD 7 0) (big1 (v.getD 4 0))) (chF (v.getD 4 0) (v.getD 5 0) (v.getD 6 0))) k) wd
/-- One step. -/
def rnd (k wd : Int) (v : List Int) : List Int := [add32 (add32 (t1F k wd v) (big0 (v.getD 0 0))) (maF (v.getD 0 0) (v.getD 1 0) (v.getD 2 0)), v.getD 0 0, v.getD 1 0, v.getD 2 0, add32 (v.getD 3 0) (t1F k wd v), v.getD 4 0, v.getD 5 0, v.getD 6 0]
def rnds (ks ws v : List Int) : Nat → List Int
  | 0 => v
  | i + 1 => rnd (ks.getD i 0) (ws.getD i 0) (rnds ks ws v i)
theorem rnds_len (ks ws v : List Int) (h : v.length = 8) : ∀ i, (rnds ks ws v i).length = 8
  | 0 => h
  | _ + 1 => rfl
theorem rnd_isWs {k wd : Int} {v : List Int} (hl : v.length = 8) (h : isWs v) : isWs (rnd k wd v) := by
  intro x hx
  simp only [rnd, List.mem_cons, List.not_mem_nil, or_false] at hx
  rcases hx with rfl | rfl | rfl | rfl | rfl | rfl | rfl | rfl
  · exact add32_isW _ _
  · exact h.get 0 (by omega)
  · exact h.get 1 (by omega)
  · exact h.get 2 (by omega)
  · exact add32_isW _ _
  · exact h.get 4 (by omega)
  · exact h.get 5 (by omega)
  · exact h.get 6 (by omega)
theorem rnds_isWs {ks ws v : List Int} (hl : v.length = 8) (h : isWs v) : ∀ i, isWs (rnds ks ws v i)
  | 0 => h
  | i + 1 => rnd_isWs (rnds_len ks ws v hl i) (rnds_isWs hl h i)
/-- The state behind so many words added. -/
def addS (st v : List Int) : Nat → List Int
  | 0 => st
  | i + 1 => (addS st v i).set i (add32 ((addS st v i).getD i 0) (v.getD i 0))
theorem addS_len (st v : List Int) : ∀ i, (addS st v i).length = st.length
  | 0 => rfl
  | i + 1 => by rw [addS, List.length_set, addS_len st v i]
theorem addS_isWs {st v : List Int} (h : isWs st) : ∀ i, isWs (addS st v i)
  | 0 => h
  | i + 1 => isWs_set (addS_isWs h i) i (add32_isW _ _)

def kSha : List Int := [0x428A2F98, 0x71374491, 0xB5C0FBCF, 0xE9B5DBA5, 0x3956C25B, 0x59F111F1, 0x923F82A4, 0xAB1C5ED5,
  0xD807AA98, 0x12835B01, 0x243185BE, 0x550C7DC3, 0x72BE5D74, 0x80DEB1FE, 0x9BDC06A7, 0xC19BF174,
  0xE49B69C1, 0xEFBE4786, 0x0FC19DC6, 0x240CA1CC, 0x2DE92C6F, 0x4A7484AA, 0x5CB0A9DC, 0x76F988DA,
  0x983E5152, 0xA831C66D, 0xB00327C8, 0xBF597FC7, 0xC6E00BF3, 0xD5A79147, 0x06CA6351, 0x14292967,
  0x27B70A85, 0x2E1B2138, 0x4D2C6DFC, 0x53380D13, 0x650A7354, 0x766A0ABB, 0x81C2C92E, 0x92722C85,
  0xA2BFE8A1, 0xA81A664B, 0xC24B8B70, 0xC76C51A3, 0xD192E819, 0xD6990624, 0xF40E3585, 0x106AA070,
  0x19A4C116, 0x1E376C08, 0x2748774C, 0x34B0BCB5, 0x391C0CB3, 0x4ED8AA4A, 0x5B9CCA4F, 0x682E6FF3,
  0x748F82EE, 0x78A5636F, 0x84C87814, 0x8CC70208, 0x90BEFFFA, 0xA4506CEB, 0xBEF9A3F7, 0xC67178F2]
def hSha : List Int := [0x6A09E667, 0xBB67AE85, 0x3C6EF372, 0xA54FF53A, 0x510E527F, 0x9B05688C, 0x1F83D9AB, 0x5BE0CD19]
/-- A block taken into the state. -/
def mixS (st bs : List Int) : List Int := addS st (rnds kSha (wArr bs (List.replicate 64 0) 64) st 64) 8
theorem mixS_len {st : List Int} (bs : List Int) (h : st.length = 8) : (mixS st bs).length = 8 := by unfold mixS; rw [addS_len, h]
theorem mixS_isWs {st : List Int} (bs : List Int) (h : isWs st) : isWs (mixS st bs) := addS_isWs h 8
def blk (m : List Int) (k : Nat) : List Int := (m.drop (64 * k)).take 64
def mixN (st m : List Int) : Nat → List Int
  | 0 => st
  | k + 1 => mixS (mixN st m k) (blk m k)
theorem mixN_len {st : List Int} (m : List Int) (h : st.length = 8) : ∀ k, (mixN st m k).length = 8
  | 0 => h
  | k + 1 => mixS_len _ (mixN_len m h k)
theorem mixN_isWs {st : List Int} (m : List Int) (h : isWs st) : ∀ k, isWs (mixN st m k)
  | 0 => h
  | k + 1 => mixS_isWs _ (mixN_isWs m h k)
/-- Eight bytes of a number, the greatest first. -/
def be8 (n : Int) : List Int := (List.range 8).map fun i => n / 2 ^ (8 * (7 - i)) % 256
/-- The whole message: a bit 1, zeros, the length in bits. -/
def padN (n : Nat) : Nat := (119 - n % 64) % 64
def msg (xs : List Int) : List Int := xs ++ ([128] ++ (List.replicate (padN xs.length) 0 ++ be8 ((xs.length : Int) * 8)))
theorem msg_len (xs : List Int) : (msg xs).length % 64 = 0 ∧ (msg xs).length = xs.length + 9 + padN xs.length := by
  unfold msg be8 padN
  simp
  omega
def shaS (xs : List Int) : List Int := mixN hSha (msg xs) ((msg xs).length / 64)
def bytes4 (x : Int) : List Int := [x / 16777216, x / 65536 % 256, x / 256 % 256, x % 256]
def shaB (xs : List Int) : List Int := (shaS xs).flatMap bytes4
theorem hSha_isWs : isWs hSha := by intro x hx; simp [hSha] at hx; rcases hx with rfl | rfl | rfl | rfl | rfl | rfl | rfl | rfl <;> decide
theorem kSha_isWs : isWs kSha := by
  have : ∀ x ∈ kSha, decide (0 ≤ x ∧ x < 4294967296) = true := by decide
  intro x hx
  simpa using this x hx
theorem shaS_len (xs : List Int) : (shaS xs).length = 8 := mixN_len _ rfl _
theorem shaS_isWs (xs : List Int) : isWs (shaS xs) := mixN_isWs _ hSha_isWs _
theorem flat4_len : ∀ (ws : List Int), (ws.flatMap bytes4).length = 4 * ws.length
  | [] => rfl
  | x :: ws => by rw [List.flatMap_cons, List.length_append, flat4_len ws]; simp [bytes4]; omega
theorem shaB_len (xs : List Int) : (shaB xs).length = 32 := by unfold shaB; rw [flat4_len, shaS_len]
theorem shaB_isB (xs : List Int) : isB (shaB xs) := by
  intro y hy
  obtain ⟨x, hx, hy⟩ := List.mem_flatMap.1 hy
  have := shaS_isWs xs x hx
  simp only [bytes4, List.mem_cons, List.not_mem_nil, or_false] at hy
  unfold isW at this
  omega
end Go.Proofs.Ytkfcjlegeccgjaa
