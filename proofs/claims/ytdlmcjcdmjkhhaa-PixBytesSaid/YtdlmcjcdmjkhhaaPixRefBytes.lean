/-
  The document's Encode of chapter 9.
-/
import Derived.Test.YtdlmcjcdmjkhhaaPixRef
import Derived.Test.YtdlmcjcdmjkhhaaPixMore
import Derived.Deep.RegionHeld3
namespace Go.Proofs.Ytdlmcjcdmjkhhaa
open Go.RowKit

def shb (W H C D : Int) : List Int := [W / 256, W % 256, H / 256, H % 256, C, D]
theorem hdr_shb (W H C D : Int) : hdr W H C D = [82] ++ shb W H C D := rfl

set_option maxHeartbeats 400000 in
theorem shapeBytes_any (W H C D : Int) (w : World) (hb : Bnds W H C D) :
    Calls Try.prog 40 #[shp W H C D] w (RetS w (shb W H C D)) := by
  have hW1 := hb.1; have hW2 := hb.2.1; have hH1 := hb.2.2.1; have hH2 := hb.2.2.2.1; have hC1 := hb.2.2.2.2.1; have hC2 := hb.2.2.2.2.2.1; have hD := hb.2.2.2.2.2.2
  have ho := World.ownsRow_made (base := w.heap.size + 1) (e := 5) (size := 1) (w.alloc (.cells #[.int .i64 W, .int .i64 H, .int .i64 C, .int .i64 D] 23)) #[.int .u8 (W / 256), .int .u8 (W % 256), .int .u8 (H / 256), .int .u8 (H % 256), .int .u8 C, .int .u8 D] 6 (by simp) (by unfold maxLen; omega) rfl
  clear hb
  go_enter Try.func40, Try.ntmps40
  go_wp2_with fail
  go_ret
  refine ⟨some ⟨w.heap.size + 1, 0, Option.none⟩, 6, rfl, ?_, ((Below.refl _ _).alloc (Nat.le_refl _) _).alloc (by simp) _⟩
  refine ⟨rfl, .inr ⟨w.heap.size + 1, 6, #[.int .u8 (W / 256), .int .u8 (W % 256), .int .u8 (H / 256), .int .u8 (H % 256), .int .u8 C, .int .u8 D], rfl, by omega, ?_, Nat.le_refl _, by unfold maxLen; omega, rfl, rfl⟩⟩
  have hs : (w.alloc (.cells #[.int .i64 W, .int .i64 H, .int .i64 C, .int .i64 D] 23)).heap.size = w.heap.size + 1 := by simp
  have hn := heap_alloc_new (w.alloc (.cells #[.int .i64 W, .int .i64 H, .int .i64 C, .int .i64 D] 23)) (.cells #[.int .u8 (W / 256), .int .u8 (W % 256), .int .u8 (H / 256), .int .u8 (H % 256), .int .u8 C, .int .u8 D] 5)
  rw [hs] at hn
  exact hn

/-- One byte of the call's own. -/
theorem owns_one (w : World) (x : Int) : (w.alloc (.cells #[.int .u8 x] 5)).ownsRow w.heap.size 5 1 (.slice (some ⟨w.heap.size, 0, Option.none⟩) 1 1) 1 (([x] : List Int).map (Value.int .u8)) := by
  refine ⟨rfl, .inr ⟨w.heap.size, 1, #[.int .u8 x], rfl, Nat.le_refl _, ?_, Nat.le_refl _, by unfold maxLen; omega, rfl, rfl⟩⟩
  show (Array.push _ _)[_]? = _
  simp

set_option maxRecDepth 100000 in
set_option maxHeartbeats 2000000 in
theorem renc_yes (W H C D : Int) (a : Option Addr) (n cap : Nat) (xs : List Int) (w : World) (hr : Reads .u8 w a n cap xs) (hx : isB xs) (hm : mayR W H C D n = true) :
    Calls Try.prog 27 #[ras W H C D a n cap] w (RetBy w (hdr W H C D ++ xs) 0) := by
  have hb := (mayR_spec hm).1
  have hs := (mayR_spec hm).2
  have hH : -9223372036854775808 ≤ H ∧ H ≤ 9223372036854775807 := by have h1 := hb.2.2.1; have h2 := hb.2.2.2.1; omega
  have hn : n ≤ 16384 := by omega
  have hMy := fun w' => rmay_any W H C D a n cap w' hH
  rw [hm] at hMy
  have HMy := Lib.hid hMy
  have HSB := Lib.hid (fun w' => shapeBytes_any W H C D w' hb)
  have hbl : Below w.heap.size w (w.alloc (.cells #[.int .i64 W, .int .i64 H, .int .i64 C, .int .i64 D, .slice a n cap] 26)) := (Below.refl _ _).alloc (Nat.le_refl _) _
  have BX := Lib.hid (rbox_alloc w W H C D a n cap 26)
  have R := Lib.hid (hr.below hbl); have B := Lib.hid hbl
  obtain ⟨i0, hi, hz0, hz1, hz2⟩ := info_parts infoC
  have Hi := Lib.hid hi; have Hz0 := Lib.hid hz0; have Hz1 := Lib.hid hz1; have Hz2 := Lib.hid hz2
  have Hl := Lib.hid hr.len
  clear hMy hb hs hm hbl hr hi hz0 hz1 hz2
  go_enter Try.func27, Try.ntmps27
  go_wp2_with fail
  generalize w.alloc (.cells #[.int .i64 W, .int .i64 H, .int .i64 C, .int .i64 D, .slice a n cap] 26) = v at *
  refine (HMy.out _).mono ?_; rintro e w1 ⟨rfl, bb⟩
  replace B := Lib.hid (below_size B.out bb)
  replace BX := Lib.hid (BX.out.below bb)
  replace R := Lib.hid (R.out.below bb)
  clear bb
  have c0 := BX.out.box.c0; have c1 := BX.out.box.c1; have c2 := BX.out.box.c2; have c3 := BX.out.box.c3; have c4 := BX.out.c4
  go_wp2_with fail
  have HC := Lib.hid (And.intro c0 (And.intro c1 (And.intro c2 (And.intro c3 c4))))
  have hlt := Lib.hid BX.out.lt
  have keep : ∀ w2, Below w1.heap.size w1 w2 → w2.cell? ⟨w.heap.size, 0, Option.none⟩ = some (.int .i64 W) ∧ w2.cell? ⟨w.heap.size, 1, Option.none⟩ = some (.int .i64 H) ∧ w2.cell? ⟨w.heap.size, 2, Option.none⟩ = some (.int .i64 C) ∧ w2.cell? ⟨w.heap.size, 3, Option.none⟩ = some (.int .i64 D) ∧ w2.cell? ⟨w.heap.size, 4, Option.none⟩ = some (.slice a n cap) := fun w2 h2 =>
    ⟨(h2.cell hlt.out).trans HC.out.1, (h2.cell hlt.out).trans HC.out.2.1, (h2.cell hlt.out).trans HC.out.2.2.1, (h2.cell hlt.out).trans HC.out.2.2.2.1, (h2.cell hlt.out).trans HC.out.2.2.2.2⟩
  have Keep := Lib.hid keep
  clear keep
  go_region_held3 (fun w' => w'.cell? ⟨w.heap.size, 0, Option.none⟩ = some (.int .i64 W) ∧ w'.cell? ⟨w.heap.size, 1, Option.none⟩ = some (.int .i64 H) ∧ w'.cell? ⟨w.heap.size, 2, Option.none⟩ = some (.int .i64 C) ∧ w'.cell? ⟨w.heap.size, 3, Option.none⟩ = some (.int .i64 D) ∧ w'.cell? ⟨w.heap.size, 4, Option.none⟩ = some (.slice a n cap))
    (first | exact Keep.out _ (Below.refl _ _) | exact Keep.out _ (Below.refl _ _).drew | exact Keep.out _ ((Below.refl _ _).alloc (Nat.le_refl _) _).drew | exact Keep.out _ bk5 | exact Keep.out _ bk3 | exact Keep.out _ bk | exact Keep.out _ (bk.alloc bk.size _))
    (first
      | (go_at_call 40; refine (HSB.out _).mono ?_; rintro e w2 ⟨a2, k2, rfl, o2, b2⟩; have bk : Below w1.heap.size w1 w2 := by first | exact (Below.refl _ _).drew.trans b2 | exact ((Below.refl _ _).alloc (Nat.le_refl _) _).drew.trans (b2.mono (by simp)))
      | (refine step_append_reads _ (by rfl) _ _ _ (by rfl) w1.heap.size 5 i0 (.int .u8 0) 1 Try.underlying24 Hi.out Hz0.out Hz1.out Hz2.out rfl .u8 _ 1 1 [82] (by rfl) (by first | exact owns_below (World.ownsRow.drew (owns_one w1 82)) b2 | exact owns_base (owns_one w2 82) bk.size) a2 6 k2 (shb W H C D) (by rfl) (by first | exact reads_of_owns o2 | exact (reads_of_owns o2).below ((Below.refl _ _).alloc (Nat.le_refl _) _)) (by unfold maxLen; omega) (by omega) (by first | exact bk.size | exact (bk.alloc bk.size _).size) ?_; intro a3 k3 w3 o3 hg3 _; have bk3 : Below w1.heap.size w1 w3 := by first | exact below_grown bk (owns_below (World.ownsRow.drew (owns_one w1 82)) b2) hg3 (Nat.le_refl _) bk.size | exact below_grown (bk.alloc bk.size _) (owns_base (owns_one w2 82) bk.size) hg3 (Nat.le_refl _) (bk.alloc bk.size _).size)
      | (refine step_append_reads _ (by rfl) _ _ _ (by rfl) w1.heap.size 5 i0 (.int .u8 0) 1 Try.underlying24 Hi.out Hz0.out Hz1.out Hz2.out rfl .u8 a3 (1 + 6) k3 ([82] ++ shb W H C D) (by rfl) o3 a n cap xs (by rfl) (R.out.below bk3) (by unfold maxLen; omega) (by omega) bk3.size ?_; intro a5 k5 w5 o5 hg5 _; have bk5 : Below w1.heap.size w1 w5 := below_grown bk3 o3 hg5 (Nat.le_refl _) bk3.size))
  all_goals
    rename_i hHeld
    have O := Lib.hid o5; have BK := Lib.hid bk5
    clear hHeld o5 bk5 o3 o2 c0 c1 c2 c3 c4 hg3 hg5
    go_wp2_with fail
    go_returns
    have hl : (hdr W H C D ++ xs).length = 1 + 6 + n := by rw [List.length_append, hdr_len, Hl.out]
    unfold RetBy
    rw [hl]
    exact ⟨a5, k5, rfl, owns_base O.out B.out.size, below_size B.out BK.out⟩

set_option maxHeartbeats 400000 in
theorem renc_any (W H C D : Int) (a : Option Addr) (n cap : Nat) (xs : List Int) (w : World) (hr : Reads .u8 w a n cap xs) (hx : isB xs) (hH : -9223372036854775808 ≤ H ∧ H ≤ 9223372036854775807) :
    Calls Try.prog 27 #[ras W H C D a n cap] w (RetBy w (encL W H C D n xs) (encE W H C D n)) := by
  unfold encL encE
  by_cases hm : mayR W H C D n = true
  · rw [if_pos hm, if_pos hm]
    exact renc_yes W H C D a n cap xs w hr hx hm
  · rw [if_neg hm, if_neg hm]
    have hm' : mayR W H C D n = false := by simpa using hm
    go_enter Try.func27, Try.ntmps27
    go_wp2_with fail
    refine (rmay_any W H C D a n cap _ hH).mono ?_; rintro e w1 ⟨rfl, hb1⟩
    rw [hm']
    have hb1' := below_size ((Below.refl _ _).alloc (Nat.le_refl _) _) hb1
    go_wp2
    all_goals go_returns
    exact ⟨Option.none, 0, rfl, World.ownsRow_nil _ _ _ _, hb1'⟩
end Go.Proofs.Ytdlmcjcdmjkhhaa
