/-
  obj.Tree: its bytes; obj.Encode of a tree; join.may.
-/
import Derived.Test.YtbmbelnjgnahhaaTreeA
namespace Go.Proofs.Ytbmbelnjgnahhaa
open Go.RowKit

/-- A tree's bytes. -/
def treeL (W H C D : Int) (ks : List ByteArray) : List Int := [2, W / 256, W % 256, H / 256, H % 256, C, D] ++ keysBy ks
/-- Bytes of new memory where it may be, else none. -/
def RetBytes (ok : Bool) (xs : List Int) (w : World) (e : Ending) (w' : World) : Prop :=
  Below w.heap.size w w' ∧ ((ok = true ∧ ∃ a n cap, 0 < n ∧ n ≤ 40000 ∧ e = .returned (.slice a n cap) ∧ w'.ownsRow w.heap.size 5 1 (.slice a n cap) n (xs.map (Value.int .u8))) ∨ (ok = false ∧ e = .returned (.slice Option.none 0 0)))

set_option maxRecDepth 100000 in
set_option maxHeartbeats 1000000 in
theorem treeBytes_any (W H C D : Int) (a : Option Addr) (n cap : Nat) (ks : List ByteArray) (w : World) (hH : i64In H) (hr : Strs w a n cap ks) (hs : Short ks) :
    Calls Try.prog 54 #[ras W H C D a n cap] w (RetBytes (mayT W H C D ks) (treeL W H C D ks) w) := by
  have HR := Lib.hid hr; have HS := Lib.hid hs; have HL := Lib.hid hr.len
  have hn : n ≤ 300 := by have := hs.1; have := hr.len; omega
  have hb0 := rbox_alloc w W H C D a n cap 26
  have b0 : Below w.heap.size w (w.alloc (.cells #[.int .i64 W, .int .i64 H, .int .i64 C, .int .i64 D, .slice a n cap] 26)) := (Below.refl _ _).alloc (Nat.le_refl _) _
  have HB0 := Lib.hid hb0; have B0 := Lib.hid b0
  clear hr hs hb0 b0
  cases hm : mayT W H C D ks
  · have HM := Lib.hid (fun (w' : World) (h : Strs w' a n cap ks) => by have := treeMay_any W H C D a n cap ks w' hH h HS.out; rw [hm] at this; exact this)
    clear hm
    go_enter Try.func54, Try.ntmps54
    go_upto_region 1 with (fail)
    generalize w.alloc (.cells #[.int .i64 W, .int .i64 H, .int .i64 C, .int .i64 D, .slice a n cap] 26) = w1 at *
    have c0 := HB0.out.box.c0; have c1 := HB0.out.box.c1; have c2 := HB0.out.box.c2; have c3 := HB0.out.box.c3; have c4 := HB0.out.c4
    go_wp2_with fail
    refine (HM.out w1 (HR.out.below B0.out)).mono ?_; rintro e w2 ⟨rfl, b2⟩
    clear c0 c1 c2 c3 c4
    go_wp2_with fail
    go_ret
    exact ⟨below_size B0.out b2, .inr ⟨rfl, rfl⟩⟩
  · have HM := Lib.hid (fun (w' : World) (h : Strs w' a n cap ks) => by have := treeMay_any W H C D a n cap ks w' hH h HS.out; rw [hm] at this; exact this)
    have hk := mayT_keys hm
    have hbn := (bnds_of_may hk.1).1
    have HK := Lib.hid hk
    have hW1 := hbn.1; have hW2 := hbn.2.1; have hH1 := hbn.2.2.1; have hH2 := hbn.2.2.2.1
    have hC1 := hbn.2.2.2.2.1; have hC2 := hbn.2.2.2.2.2.1
    have hD : 0 ≤ D ∧ D ≤ 16 := by have := hbn.2.2.2.2.2.2; omega
    have hD1 := hD.1; have hD2 := hD.2
    clear hm hk hbn hD
    go_enter Try.func54, Try.ntmps54
    go_upto_region 1 with (fail)
    generalize w.alloc (.cells #[.int .i64 W, .int .i64 H, .int .i64 C, .int .i64 D, .slice a n cap] 26) = w1 at *
    have c0 := HB0.out.box.c0; have c1 := HB0.out.box.c1; have c2 := HB0.out.box.c2; have c3 := HB0.out.box.c3; have c4 := HB0.out.c4
    go_wp2_with fail
    refine (HM.out w1 (HR.out.below B0.out)).mono ?_; rintro e w2 ⟨rfl, b2⟩
    clear c0 c1 c2 c3 c4
    have HB2 := Lib.hid (HB0.out.below b2); have B2 := Lib.hid (below_size B0.out b2)
    clear b2
    have c0 := HB2.out.box.c0; have c1 := HB2.out.box.c1; have c2 := HB2.out.box.c2; have c3 := HB2.out.box.c3; have c4 := HB2.out.c4
    go_upto_region 5 with (fail)
    have hsz : (w2.alloc (.cells #[.int .i64 W, .int .i64 H, .int .i64 C, .int .i64 D] 23)).heap.size = w2.heap.size + 1 := by simp
    have hown := World.ownsRow_lit (base := w2.heap.size + 1) (e := 5) (size := 1) (w2.alloc (.cells #[.int .i64 W, .int .i64 H, .int .i64 C, .int .i64 D] 23)) #[.int .u8 2, .int .u8 (W / 256), .int .u8 (W % 256), .int .u8 (H / 256), .int .u8 (H % 256), .int .u8 C, .int .u8 D] 7 (by simp) (by decide) rfl
    rw [hsz] at hown
    have b3 : Below w2.heap.size w2 ((w2.alloc (.cells #[.int .i64 W, .int .i64 H, .int .i64 C, .int .i64 D] 23)).alloc (.cells #[.int .u8 2, .int .u8 (W / 256), .int .u8 (W % 256), .int .u8 (H / 256), .int .u8 (H % 256), .int .u8 C, .int .u8 D] 5)) := ((Below.refl _ _).alloc (Nat.le_refl _) _).alloc (by simp) _
    have hs4 : ((w2.alloc (.cells #[.int .i64 W, .int .i64 H, .int .i64 C, .int .i64 D] 23)).alloc (.cells #[.int .u8 2, .int .u8 (W / 256), .int .u8 (W % 256), .int .u8 (H / 256), .int .u8 (H % 256), .int .u8 C, .int .u8 D] 5)).heap.size = w2.heap.size + 2 := by simp
    have O3 := Lib.hid hown; have BB3 := Lib.hid b3
    have HB3 := Lib.hid (HB2.out.below b3); have B3 := Lib.hid (below_size B2.out b3)
    clear hown b3 hsz c0 c1 c2 c3 c4
    generalize (w2.alloc (.cells #[.int .i64 W, .int .i64 H, .int .i64 C, .int .i64 D] 23)).alloc (.cells #[.int .u8 2, .int .u8 (W / 256), .int .u8 (W % 256), .int .u8 (H / 256), .int .u8 (H % 256), .int .u8 C, .int .u8 D] 5) = w3 at *
    have c4 := HB3.out.c4
    have hws : w.heap.size ≤ w2.heap.size := B2.out.size
    have R3 := Lib.hid (HR.out.below B3.out)
    have HA := Lib.hid (fun (hn0 : 0 < n) (b : Addr) (hb : a = some b) => (show b.block < w2.heap.size + 1 by
      obtain ⟨x, off, e, hl, _⟩ := HR.out.cells hn0
      rw [hb] at e
      obtain rfl : b = ⟨x, off, Option.none⟩ := by simpa using e
      show x < _
      omega))
    go_wp2_with fail
    refine (appendKeys_any (some ⟨w2.heap.size + 1, 0, Option.none⟩) 7 7 [2, W / 256, W % 256, H / 256, H % 256, C, D] a n cap ks w3 (w2.heap.size + 1) (by omega) O3.out (by decide) R3.out HA.out HS.out HK.out.2.2).mono ?_; rintro e w4 ⟨⟨o', co', rfl, o4⟩, b4⟩
    go_wp2_with fail
    go_ret
    refine ⟨B3.out.trans (b4.mono (by omega)), .inl ⟨rfl, o', 7 + 32 * n, co', by omega, by omega, rfl, owns_base o4 (by omega)⟩⟩
end Go.Proofs.Ytbmbelnjgnahhaa
