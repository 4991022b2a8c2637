/-
  pix.Encode.
-/
import Derived.Test.YtdlmcjcdmjkhhaaRaster
import Derived.Deep.DeepCutAuto
import Derived.Deep.RegionWith
namespace Go.Proofs.Ytdlmcjcdmjkhhaa
open Go.RowKit

theorem infoE : (Try.prog.info? 5).map (fun i => (i.zero, i.size, i.bytes)) = some (some (.int .u8 0), 1, 1) := by kernel_rfl
theorem made0_run (m : Nat) (hm : m ≤ 100000) (w : World) : (Instr.makeSlice 24 (.int .i64 0) (.int .i64 (m : Int))).run Try.prog w = .ok (.slice (some ⟨w.heap.size, 0, Option.none⟩) 0 m) (w.alloc (.cells (madeCells #[Value.int .u8 0] m) 5)) := by
  obtain ⟨i0, hi, hz0, hz1, hz2⟩ := info_parts infoE
  have := run_make (P := Try.prog) w 24 5 i0 (.int .u8 0) Try.underlying24 hi hz0 .i64 .i64 0 m (by omega) (by omega) (by rw [hz2]; omega) (by omega)
  rw [this, hz1]
  simp [Value.cells]

/-- The seven bytes ahead. -/
def hdr (W H C D : Int) : List Int := [82, W / 256, W % 256, H / 256, H % 256, C, D]

set_option maxHeartbeats 1000000 in
theorem encode_yes (W H C D : Int) (a : Option Addr) (n cap : Nat) (xs : List Int) (w : World) (hr : Reads .u8 w a n cap xs) (hx : isB xs) (hm : mayR W H C D n = true) :
    Calls Try.prog 26 #[ras W H C D a n cap] w fun e w' => ∃ g c', e = .returned (.tuple #[.slice (some ⟨g, 0, Option.none⟩) (7 + n) c', .int .i64 0]) ∧ w'.ownsRow w.heap.size 5 1 (.slice (some ⟨g, 0, Option.none⟩) (7 + n) c') (7 + n) ((hdr W H C D ++ xs).map (Value.int .u8)) ∧ Below w.heap.size w w' := by
  have hb := (mayR_spec hm).1
  have hs := (mayR_spec hm).2
  have hW1 := hb.1; have hW2 := hb.2.1; have hH1 := hb.2.2.1; have hH2 := hb.2.2.2.1; have hC1 := hb.2.2.2.2.1; have hC2 := hb.2.2.2.2.2.1; have hD := hb.2.2.2.2.2.2
  have hH : -9223372036854775808 ≤ H ∧ H ≤ 9223372036854775807 := by omega
  have hn : n ≤ 16384 := by omega
  obtain ⟨i0, hi, hz0, hz1, hz2⟩ := info_parts infoE
  have Hi := Lib.hid hi; have Hz0 := Lib.hid hz0; have Hz1 := Lib.hid hz1; have Hz2 := Lib.hid hz2
  have Hl := Lib.hid hr.len
  clear hi hz0 hz1 hz2 hs hb
  go_enter Try.func26, Try.ntmps26
  go_wp2_with fail
  refine (may_any W H C D a n cap _ hH).mono ?_; rintro e w1 ⟨rfl, hb1⟩
  rw [hm]
  clear hm
  have hb1' := below_size ((Below.refl _ _).alloc (Nat.le_refl _) _) hb1
  have hbx := (rbox_alloc w W H C D a n cap _).below hb1
  have hl1 := hbx.lt
  have c0 := hbx.box.c0; have c1 := hbx.box.c1; have c2 := hbx.box.c2; have c3 := hbx.box.c3; have c4 := hbx.c4
  clear hb1
  have hmk := fun w => made0_run (7 + n) (by omega) w
  simp only [Int.natCast_add, Int.cast_ofNat_Int] at hmk
  have hbs : isB (hdr W H C D) := by
    intro z hz
    simp [hdr] at hz
    omega
  have ho0 : ((w1.alloc (.cells #[.int .i64 W, .int .i64 H, .int .i64 C, .int .i64 D] 23)).alloc (.cells (madeCells #[Value.int .u8 0] (7 + n)) 5)).ownsRow (w1.heap.size + 1) 5 1 (.slice (some ⟨w1.heap.size + 1, 0, none⟩) 0 (7 + n)) 0 (([] : List Int).map (Value.int .u8)) := by
    have := World.ownsRow_made (base := w1.heap.size + 1) (e := 5) (size := 1) (w1.alloc (.cells #[.int .i64 W, .int .i64 H, .int .i64 C, .int .i64 D] 23)) (madeCells #[Value.int .u8 0] (7 + n)) (7 + n) (by simp) (by unfold maxLen; omega) (by rw [size_madeCells]; simp)
    simpa using this
  have hrl : Reads .u8 (((w1.alloc (.cells #[.int .i64 W, .int .i64 H, .int .i64 C, .int .i64 D] 23)).alloc (.cells (madeCells #[Value.int .u8 0] (7 + n)) 5)).alloc (.cells #[.int .u8 82, .int .u8 (W / 256), .int .u8 (W % 256), .int .u8 (H / 256), .int .u8 (H % 256), .int .u8 C, .int .u8 D] 5)) (some ⟨w1.heap.size + 1 + 1, 0, none⟩) 7 7 (hdr W H C D) := by
    have := reads_alloc (k := .u8) ((w1.alloc (.cells #[.int .i64 W, .int .i64 H, .int .i64 C, .int .i64 D] 23)).alloc (.cells (madeCells #[Value.int .u8 0] (7 + n)) 5)) (hdr W H C D) #[.int .u8 82, .int .u8 (W / 256), .int .u8 (W % 256), .int .u8 (H / 256), .int .u8 (H % 256), .int .u8 C, .int .u8 D] 5 (0, 0) rfl (by unfold maxLen; simp [hdr]) 7 rfl
    simpa only [World.size_alloc] using this
  go_wp2_with (at_builtin; go_loud (refine wpList_append_reads _ rfl _ _ 24 rfl (w1.heap.size + 1) 5 i0 (.int .u8 0) 1 Try.underlying24 Hi.out Hz0.out Hz1.out Hz2.out rfl .u8 (some ⟨w1.heap.size + 1, 0, none⟩) 0 (7 + n) [] rfl (World.ownsRow.alloc ho0 _) _ 7 7 (hdr W H C D) rfl hrl (by unfold maxLen; omega) (by omega) (by simp) ?_))
  intro a2 k2 w2 ho2 hg2 hn2
  have hb2 : Below w1.heap.size w1 w2 := below_grown ((((Below.refl _ _).alloc (Nat.le_refl _) _).alloc (by simp) _).alloc (by simp; omega) _) (World.ownsRow.alloc ho0 _) hg2 (by omega) (by simp; omega)
  clear hg2
  obtain ⟨_, hq | ⟨g2, q2, cur2, hq, _⟩⟩ := id ho2
  · exact absurd hq.2 (by simp)
  obtain ⟨rfl, _⟩ : a2 = some ⟨g2, 0, none⟩ ∧ k2 = q2 := by simpa using hq
  clear hq hn2
  have hb2' := below_size hb1' hb2
  have hbx2 := hbx.below hb2
  clear c0 c1 c2 c3 c4 hmk
  have c4 := hbx2.c4
  have hbz := hb2'.size
  go_wp2_with (at_builtin; go_loud (refine wpList_append_reads _ rfl _ _ 24 rfl (w1.heap.size + 1) 5 i0 (.int .u8 0) 1 Try.underlying24 Hi.out Hz0.out Hz1.out Hz2.out rfl .u8 (some ⟨g2, 0, none⟩) 7 k2 (hdr W H C D) rfl ho2 a n cap xs rfl (hr.below hb2') (by unfold maxLen; omega) (by omega) (by have := hb2.size; have := (ho2.lt g2 rfl).2; have := (ho2.lt g2 rfl).1; omega) ?_))
  intro a3 k3 w3 ho3 hg3 hn3
  have hb3 : Below w1.heap.size w1 w3 := below_grown hb2 ho2 hg3 (by omega) hb2.size
  clear hg3
  obtain ⟨_, hq | ⟨g3, q3, cur3, hq, _⟩⟩ := id ho3
  · exact absurd hq.2 (by omega)
  obtain ⟨rfl, _⟩ : a3 = some ⟨g3, 0, none⟩ ∧ k3 = q3 := by simpa using hq
  clear hq hn3
  go_wp2
  go_returns
  exact ⟨g3, k3, rfl, owns_base ho3 (by have := hb1'.size; omega), below_size hb1' hb3⟩
end Go.Proofs.Ytdlmcjcdmjkhhaa
