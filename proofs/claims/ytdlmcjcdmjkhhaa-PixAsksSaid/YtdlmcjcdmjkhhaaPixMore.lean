/-
  Contracts of pix.Encode, Decode, Same for every argument; what comes back.
-/
import Derived.Test.YtdlmcjcdmjkhhaaDecodeOk
import Derived.Test.YtdlmcjcdmjkhhaaPixFirst
namespace Go.Proofs.Ytdlmcjcdmjkhhaa
open Go.RowKit

theorem reads_upto {w : World} {a : Option Addr} {n cap : Nat} {xs : List Int} (h : Reads .u8 w a n cap xs) (k : Nat) (hk : k ≤ n) : Reads .u8 w a k cap (xs.take k) := by
  have hl := h.len; have hle := h.le
  refine ⟨by simp; omega, by omega, h.max, fun e => by have := h.nil e; omega, fun hk0 => ?_⟩
  obtain ⟨b, off, e, hlt, hc⟩ := h.cells (by omega)
  refine ⟨b, off, e, hlt, fun i hi => ?_⟩
  rw [hc i (by omega)]
  simp [List.getD, hi]
def rW (xs : List Int) : Int := if decErr xs = 0 then dW xs else 0
def rH (xs : List Int) : Int := if decErr xs = 0 then dH xs else 0
def rC (xs : List Int) : Int := if decErr xs = 0 then dC xs else 0
def rD (xs : List Int) : Int := if decErr xs = 0 then dD xs else 0
def rP (xs : List Int) : List Int := if decErr xs = 0 then xs.drop 7 else []

theorem dec_any (a : Option Addr) (n cap : Nat) (xs : List Int) (w : World) (hr : Reads .u8 w a n cap xs) (hx : isB xs) (hn : n ≤ 1000000) :
    Calls Try.prog 28 #[.slice a n cap] w (RetRas w (rW xs) (rH xs) (rC xs) (rD xs) (rP xs) (decErr xs)) := by
  unfold rW rH rC rD rP
  by_cases h : decErr xs = 0
  · rw [if_pos h, if_pos h, if_pos h, if_pos h, if_pos h, h]
    exact dec_ok a n cap xs w hr hx hn h
  · rw [if_neg h, if_neg h, if_neg h, if_neg h, if_neg h]
    by_cases h7 : n < 7
    · have : decErr xs = 2 := by unfold decErr; rw [if_pos (by rw [hr.len]; exact h7)]
      rw [this]
      exact dec_short a n cap xs w hr h7
    · exact dec_err a n cap xs w hr hx (by omega) hn h

theorem dec_bad (a : Option Addr) (n cap : Nat) (xs : List Int) (w : World) (hr : Reads .u8 w a n cap xs) (hx : isB xs) (hn : n ≤ 1000000) {E : Int} (h : decErr xs = E) (hE : E ≠ 0) :
    Calls Try.prog 28 #[.slice a n cap] w (RetRas w 0 0 0 0 [] E) := by
  have := dec_any a n cap xs w hr hx hn
  unfold rW rH rC rD rP at this
  rw [h, if_neg hE, if_neg hE, if_neg hE, if_neg hE, if_neg hE] at this
  exact this
theorem dec_good (a : Option Addr) (n cap : Nat) (xs : List Int) (w : World) (hr : Reads .u8 w a n cap xs) (hx : isB xs) (hn : n ≤ 1000000) (h : decErr xs = 0) :
    Calls Try.prog 28 #[.slice a n cap] w (RetRas w (dW xs) (dH xs) (dC xs) (dD xs) (xs.drop 7) 0) := by
  have := dec_any a n cap xs w hr hx hn
  unfold rW rH rC rD rP at this
  rw [h, if_pos rfl, if_pos rfl, if_pos rfl, if_pos rfl, if_pos rfl] at this
  exact this

/-- New bytes and an error's number. -/
def RetBy (w : World) (ys : List Int) (E : Int) (e : Ending) (w' : World) : Prop :=
  ∃ (a : Option Addr) (k : Nat), e = .returned (.tuple #[.slice a ys.length k, .int .i64 E]) ∧ w'.ownsRow w.heap.size 5 1 (.slice a ys.length k) ys.length (ys.map (Value.int .u8)) ∧ Below w.heap.size w w'
def encL (W H C D : Int) (n : Nat) (xs : List Int) : List Int := if mayR W H C D n = true then hdr W H C D ++ xs else []
def encE (W H C D : Int) (n : Nat) : Int := if mayR W H C D n = true then 0 else 4

set_option maxHeartbeats 400000 in
theorem enc_any (W H C D : Int) (a : Option Addr) (n cap : Nat) (xs : List Int) (w : World) (hr : Reads .u8 w a n cap xs) (hx : isB xs) (hH : -9223372036854775808 ≤ H ∧ H ≤ 9223372036854775807) :
    Calls Try.prog 26 #[ras W H C D a n cap] w (RetBy w (encL W H C D n xs) (encE W H C D n)) := by
  unfold encL encE
  by_cases hm : mayR W H C D n = true
  · rw [if_pos hm, if_pos hm]
    refine (encode_yes W H C D a n cap xs w hr hx hm).mono ?_
    rintro e w' ⟨g, k, rfl, ho, hb⟩
    have hl : (hdr W H C D ++ xs).length = 7 + n := by simp [hdr, hr.len]; omega
    unfold RetBy
    rw [hl]
    exact ⟨some ⟨g, 0, Option.none⟩, k, rfl, ho, hb⟩
  · rw [if_neg hm, if_neg hm]
    have hm' : mayR W H C D n = false := by simpa using hm
    go_enter Try.func26, Try.ntmps26
    go_wp2_with fail
    refine (may_any W H C D a n cap _ hH).mono ?_; rintro e w1 ⟨rfl, hb1⟩
    rw [hm']
    have hb1' := below_size ((Below.refl _ _).alloc (Nat.le_refl _) _) hb1
    go_wp2
    all_goals go_returns
    exact ⟨Option.none, 0, rfl, World.ownsRow_nil _ _ _ _, hb1'⟩

theorem equal_any (a b : Option Addr) (n cap m cap' : Nat) (xs ys : List Int) (w : World) (hx : Reads .u8 w a n cap xs) (hy : Reads .u8 w b m cap' ys) (bx : isB xs) (by_ : isB ys) :
    Calls Try.prog 39 #[.slice a n cap, .slice b m cap'] w fun e w' => e = .returned (.bool (decide (xs = ys))) ∧ w' = w := by
  have h1 := run_bytes_string hx 24 5 Try.underlying24 Try.underlying5 9 Try.underlying9
  have h2 := run_bytes_string hy 24 5 Try.underlying24 Try.underlying5 9 Try.underlying9
  have HE := Lib.hid (strOfNums_beq bx by_)
  go_enter Try.func39, Try.ntmps39
  go_wp2
  go_ret
  exact ⟨ret_bool HE.out, rfl⟩

def sameR (W H C D : Int) (xs : List Int) (W' H' C' D' : Int) (ys : List Int) : Bool := decide ((W = W' ∧ H = H' ∧ C = C' ∧ D = D') ∧ xs = ys)

set_option maxHeartbeats 400000 in
theorem same_any (W H C D W' H' C' D' : Int) (a b : Option Addr) (n cap m cap' : Nat) (xs ys : List Int) (w : World) (hx : Reads .u8 w a n cap xs) (hy : Reads .u8 w b m cap' ys) (bx : isB xs) (by_ : isB ys) :
    Calls Try.prog 24 #[ras W H C D a n cap, ras W' H' C' D' b m cap'] w fun e w' => e = .returned (.bool (sameR W H C D xs W' H' C' D' ys)) ∧ Below w.heap.size w w' := by
  have hbb : Below w.heap.size w ((w.alloc (.cells #[.int .i64 W, .int .i64 H, .int .i64 C, .int .i64 D, .slice a n cap] 26)).alloc (.cells #[.int .i64 W', .int .i64 H', .int .i64 C', .int .i64 D', .slice b m cap'] 26)) := ((Below.refl _ _).alloc (Nat.le_refl _) _).alloc (by simp) _
  have HBB := Lib.hid hbb; clear hbb
  have HX := Lib.hid hx; have HY := Lib.hid hy; clear hx hy
  by_cases h : W = W' ∧ H = H' ∧ C = C' ∧ D = D'
  · obtain ⟨rfl, rfl, rfl, rfl⟩ := h
    have hs : sameR W H C D xs W H C D ys = decide (xs = ys) := by simp [sameR]
    rw [hs]
    clear hs
    go_enter Try.func24, Try.ntmps24
    go_wp2_with fail
    refine (equal_any a b n cap m cap' xs ys _ (HX.out.below HBB.out) (HY.out.below HBB.out) bx by_).mono ?_; rintro e w1 ⟨rfl, rfl⟩
    go_wp2_with fail
    go_ret
    exact ⟨rfl, HBB.out⟩
  · have hs : sameR W H C D xs W' H' C' D' ys = false := by simp [sameR]; intro h1 h2 h3 h4; exact absurd ⟨h1, h2, h3, h4⟩ h
    rw [hs]
    have Hh := Lib.hid h
    clear hs h
    go_enter Try.func24, Try.ntmps24
    go_wp2_with fail
    all_goals first
      | (go_ret; exact ⟨rfl, ((Below.refl _ _).alloc (Nat.le_refl _) _).alloc (by simp) _⟩)
      | (exfalso; exact Hh.out ⟨by assumption, by assumption, by assumption, by assumption⟩)

/-! What comes back -/
theorem hdr_len (W H C D : Int) : (hdr W H C D).length = 7 := rfl
theorem getD_app (W H C D : Int) (xs : List Int) (i : Nat) (h : i < 7) : (hdr W H C D ++ xs).getD i 0 = (hdr W H C D).getD i 0 := by
  simp only [List.getD]
  rw [List.getElem?_append_left (by rw [hdr_len]; exact h)]
theorem dW_hdr (W H C D : Int) (xs : List Int) : dW (hdr W H C D ++ xs) = W := by
  unfold dW; rw [getD_app _ _ _ _ _ _ (by omega), getD_app _ _ _ _ _ _ (by omega)]; simp [hdr]; omega
theorem dH_hdr (W H C D : Int) (xs : List Int) : dH (hdr W H C D ++ xs) = H := by
  unfold dH; rw [getD_app _ _ _ _ _ _ (by omega), getD_app _ _ _ _ _ _ (by omega)]; simp [hdr]; omega
theorem dC_hdr (W H C D : Int) (xs : List Int) : dC (hdr W H C D ++ xs) = C := by
  unfold dC; rw [getD_app _ _ _ _ _ _ (by omega)]; rfl
theorem dD_hdr (W H C D : Int) (xs : List Int) : dD (hdr W H C D ++ xs) = D := by
  unfold dD; rw [getD_app _ _ _ _ _ _ (by omega)]; rfl
theorem z_hdr (W H C D : Int) (xs : List Int) : (hdr W H C D ++ xs).getD 0 0 = 82 := by rw [getD_app _ _ _ _ _ _ (by omega)]; rfl
theorem drop_hdr (W H C D : Int) (xs : List Int) : (hdr W H C D ++ xs).drop 7 = xs := rfl
theorem mayR_iff {W H C D : Int} {n : Nat} (h : mayR W H C D n = true) : mayN W H C D = true ∧ (n : Int) = sizeN W H C D := by
  simp [mayR] at h; exact h
theorem hdr_isB {W H C D : Int} {n : Nat} (h : mayR W H C D n = true) : isB (hdr W H C D) := by
  have hb := (mayR_spec h).1
  have hW1 := hb.1; have hW2 := hb.2.1; have hH1 := hb.2.2.1; have hH2 := hb.2.2.2.1; have hC1 := hb.2.2.2.2.1; have hC2 := hb.2.2.2.2.2.1; have hD := hb.2.2.2.2.2.2
  intro z hz
  simp [hdr] at hz
  omega
theorem decErr_enc {W H C D : Int} {xs : List Int} {n : Nat} (hl : xs.length = n) (h : mayR W H C D n = true) : decErr (hdr W H C D ++ xs) = 0 := by
  obtain ⟨h1, h2⟩ := mayR_iff h
  unfold decErr
  rw [dW_hdr, dH_hdr, dC_hdr, dD_hdr, z_hdr, h1]
  simp only [List.length_append, hdr_len, hl]
  rw [if_neg (by omega), if_neg (by simp), if_neg (by omega), if_neg (by omega)]
theorem decErr_long {W H C D : Int} {xs : List Int} {n : Nat} (hl : xs.length = n) (h : mayR W H C D n = true) : decErr (hdr W H C D ++ xs ++ [0]) = 3 := by
  obtain ⟨h1, h2⟩ := mayR_iff h
  rw [List.append_assoc]
  unfold decErr
  rw [dW_hdr, dH_hdr, dC_hdr, dD_hdr, z_hdr, h1]
  simp only [List.length_append, hdr_len, hl, List.length_singleton]
  rw [if_neg (by omega), if_neg (by simp), if_neg (by omega), if_pos (by omega)]
theorem decErr_cut {W H C D : Int} {xs : List Int} {n : Nat} (hl : xs.length = n) (h : mayR W H C D n = true) : decErr ((hdr W H C D ++ xs).take (7 + n - 1)) = 2 := by
  obtain ⟨h1, h2⟩ := mayR_iff h
  have hs := size_bd W H C D (mayR_spec h).1
  have e : (hdr W H C D ++ xs).take (7 + n - 1) = hdr W H C D ++ xs.take (n - 1) := by
    rw [show 7 + n - 1 = (hdr W H C D).length + (n - 1) by rw [hdr_len]; omega, List.take_length_add_append]
  rw [e]
  unfold decErr
  rw [dW_hdr, dH_hdr, dC_hdr, dD_hdr, z_hdr, h1]
  simp only [List.length_append, hdr_len, List.length_take, hl]
  rw [if_neg (by omega), if_neg (by simp), if_pos (by omega)]
/-- Bytes that are a picture are its bytes. -/
theorem enc_dec {xs : List Int} (hx : isB xs) (h : decErr xs = 0) : mayR (dW xs) (dH xs) (dC xs) (dD xs) (xs.drop 7).length = true ∧ hdr (dW xs) (dH xs) (dC xs) (dD xs) ++ xs.drop 7 = xs := by
  obtain ⟨h1, h2, h3, h4⟩ := decErr_zero h
  refine ⟨by rw [mayR, h3]; simp; omega, ?_⟩
  apply ext_getD
  · simp [hdr]; omega
  · intro i hi
    have y1 := hx.get 1 (by omega); have y2 := hx.get 2 (by omega); have y3 := hx.get 3 (by omega); have y4 := hx.get 4 (by omega)
    by_cases h7 : i < 7
    · rw [getD_app _ _ _ _ _ _ h7]
      have hW : dW xs = xs.getD 1 0 * 256 + xs.getD 2 0 := rfl
      have hH : dH xs = xs.getD 3 0 * 256 + xs.getD 4 0 := rfl
      rcases (by omega : i = 0 ∨ i = 1 ∨ i = 2 ∨ i = 3 ∨ i = 4 ∨ i = 5 ∨ i = 6) with rfl | rfl | rfl | rfl | rfl | rfl | rfl
      · rw [h2]; rfl
      · show dW xs / 256 = _; omega
      · show dW xs % 256 = _; omega
      · show dH xs / 256 = _; omega
      · show dH xs % 256 = _; omega
      · rfl
      · rfl
    · simp only [List.getD]
      rw [List.getElem?_append_right (by rw [hdr_len]; omega), List.getElem?_drop, hdr_len]
      congr 2
      omega
end Go.Proofs.Ytdlmcjcdmjkhhaa
