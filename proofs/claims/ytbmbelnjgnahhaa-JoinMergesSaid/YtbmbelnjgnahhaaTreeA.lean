/-
  obj.Tree: may it be, its bytes.
-/
import Derived.Test.YtbmbelnjgnahhaaReadsA
import Derived.Test.YtbmbelnjgnahhaaShaValid
import Derived.Test.YtbmbelnjgnahhaaTileGrid
import Derived.Test.YtbmbelnjgnahhaaRasBox
import Derived.Handy
namespace Go.Proofs.Ytbmbelnjgnahhaa
open Go.RowKit

theorem infoStr : (Try.prog.info? 9).map (fun i => (i.zero, i.size, i.bytes)) = some (some (.string ByteArray.empty), 1, 16) := by kernel_rfl

/-- New texts. -/
def RetStrs (w : World) (ks : List ByteArray) (e : Ending) (w' : World) : Prop :=
  ∃ a cap, e = .returned (.slice a ks.length cap) ∧ w'.ownsRow w.heap.size 9 1 (.slice a ks.length cap) ks.length (ks.map Value.string) ∧ Below w.heap.size w w'

set_option maxRecDepth 100000 in
theorem strsClone_any (a : Option Addr) (n cap : Nat) (ks : List ByteArray) (w : World) (hr : Strs w a n cap ks) (hn : n ≤ 100000) :
    Calls Try.prog 24 #[.slice a n cap] w (RetStrs w ks) := by
  have hnil := fun (w : World) (a : Option Addr) (n c : Nat) => Lib.run_eql_slice_nil (P := Try.prog) w 24 9 a n c 0 0 Try.underlying24
  cases a with
  | none =>
    have hl := hr.len
    obtain ⟨rfl, rfl⟩ : n = 0 ∧ cap = 0 := hr.nil rfl
    obtain rfl : ks = [] := List.eq_nil_of_length_eq_zero hl
    go_enter Try.func24, Try.ntmps24
    go_wp2
    go_ret
    exact ⟨Option.none, 0, rfl, ⟨rfl, .inl ⟨rfl, rfl⟩⟩, Below.refl _ _⟩
  | some q =>
    obtain ⟨i0, hi, hz0, hz1, hz2⟩ := info_parts infoStr
    have Hi := Lib.hid hi; have Hz0 := Lib.hid hz0; have Hz1 := Lib.hid hz1; have Hz2 := Lib.hid hz2
    have Hl := Lib.hid hr.len
    clear hi hz0 hz1 hz2
    go_enter Try.func24, Try.ntmps24
    go_wp2_with (at_builtin; refine wpList_append_readsA (f := Value.string) (d := ByteArray.empty) _ str_one rfl _ _ 24 rfl w.heap.size 9 i0 (.string ByteArray.empty) 16 Try.underlying24 Hi.out Hz0.out Hz1.out Hz2.out rfl (some ⟨w.heap.size, 0, none⟩) 0 0 [] rfl (World.ownsRow_made w _ 0 (Nat.le_refl _) (Nat.zero_le _) rfl) _ n cap ks rfl (hr.below ((Below.refl _ _).alloc (Nat.le_refl _) _)) (by unfold maxLen; omega) (by omega) (by simp) ?_)
    intro a' cap' w' hown hgrow
    have hb : Below w.heap.size w w' := below_grown ((Below.refl _ _).alloc (Nat.le_refl _) _) (World.ownsRow_made w _ 0 (Nat.le_refl _) (Nat.zero_le _) rfl) hgrow (Nat.le_refl _) (by simp)
    clear hgrow
    go_wp2
    go_ret
    unfold RetStrs
    rw [Hl.out]
    exact ⟨a', cap', by simp, by simpa using hown, hb⟩

/-- Keys, all of them, and no text long. -/
noncomputable def keysB (ks : List ByteArray) : Bool := ks.all validB
def Short (ks : List ByteArray) : Prop := ks.length ≤ 300 ∧ ∀ k ∈ ks, k.size ≤ 100
theorem keysB_snoc (ks : List ByteArray) (k : ByteArray) : keysB (ks ++ [k]) = (keysB ks && validB k) := by simp [keysB]

set_option maxRecDepth 100000 in
set_option maxHeartbeats 1000000 in
theorem objValid_any (a : Option Addr) (n cap : Nat) (ks : List ByteArray) (w : World) (hr : Strs w a n cap ks) (hs : Short ks) :
    Calls Try.prog 59 #[.slice a n cap] w fun e w' => e = .returned (.bool (keysB ks)) ∧ Below w.heap.size w w' := by
  have HR := Lib.hid hr; have HS := Lib.hid hs; have HL := Lib.hid hr.len
  have hn : n ≤ 300 := by have := hs.1; have := hr.len; omega
  clear hr hs
  go_enter Try.func59, Try.ntmps59
  go_wp2_with fail
  go_loopw [4, 7] (fun _ vi wr => ∃ i : Nat, i ≤ n ∧ vi = .int .i64 i ∧ Hid (keysB (ks.take i) = true) ∧ Hid (Below w.heap.size w wr)) (fun _ vi _ => n - (intOf vi).toNat)
  case atStart => exact ⟨0, Nat.zero_le _, rfl, Lib.hid rfl, Lib.hid (Below.refl _ _)⟩
  case round =>
    obtain ⟨i, hi, rfl, HK, B⟩ := hrel
    by_cases hlt : i < n
    · have i1 : (i : Int) < n := by omega
      obtain ⟨b, off, rfl, hbl, hc⟩ := (HR.out.below B.out).cellAt i hlt
      have hsz : (ks.getD i ByteArray.empty).size ≤ 1000000 := by
        have := HS.out.2 (ks.getD i ByteArray.empty) (by simp [List.getD, HL.out, hlt]); omega
      have hsn := take_getDA ByteArray.empty ks i (by rw [HL.out]; exact hlt)
      have HSN := Lib.hid hsn
      have HKD : Hid (∀ v, validB (ks.getD i ByteArray.empty) = v → keysB (ks.take (i + 1)) = v) := Lib.hid fun v hv => by rw [hsn, keysB_snoc, HK.out, hv]; rfl
      have HALL : Hid (validB (ks.getD i ByteArray.empty) = false → keysB ks = false) := Lib.hid fun hv => by
        have : ks.getD i ByteArray.empty ∈ ks := by simp [List.getD, HL.out, hlt]
        rw [keysB, List.all_eq_false]
        exact ⟨_, this, by rw [hv]; decide⟩
      clear hsn
      generalize ks.getD i ByteArray.empty = s at *
      cases hv : validB s
      · have HV := Lib.hid hv
        have HC := Lib.hid (fun (w' : World) => by have := valid_any s w' hsz; rw [hv] at this; exact this)
        clear hv
        go_wp2_with fail
        refine (HC.out _).mono ?_; rintro e w2 ⟨rfl, b2⟩
        go_wp2_with fail
        go_ret
        exact ⟨by rw [HALL.out HV.out]; rfl, below_size B.out b2⟩
      · have HV := Lib.hid hv
        have HC := Lib.hid (fun (w' : World) => by have := valid_any s w' hsz; rw [hv] at this; exact this)
        clear hv
        go_wp2_with fail
        refine (HC.out _).mono ?_; rintro e w2 ⟨rfl, b2⟩
        go_wp2_with fail
        go_roundw
        case rel => exact ⟨i + 1, by omega, by go_num, Lib.hid (HKD.out _ HV.out), Lib.hid (below_size B.out b2)⟩
        case measure => simp [intOf]; omega
    · have i1 : ¬ (i : Int) < n := by omega
      go_wp2_with fail
      go_ret
      have h1 := HK.out
      rw [List.take_of_length_le (by rw [HL.out]; omega)] at h1
      exact ⟨by rw [h1]; rfl, B.out⟩

/-- May a tree be? -/
noncomputable def mayT (W H C D : Int) (ks : List ByteArray) : Bool := mayN W H C D && (((ks.length : Nat) : Int) == (W + 7) / 8 * ((H + 7) / 8)) && keysB ks
def i64In (x : Int) : Prop := -9223372036854775808 ≤ x ∧ x ≤ 9223372036854775807
theorem grid_bd' {W H C D : Int} (hm : mayN W H C D = true) : 1 ≤ (W + 7) / 8 ∧ (W + 7) / 8 ≤ 32 ∧ 1 ≤ (H + 7) / 8 ∧ (H + 7) / 8 ≤ 32 ∧ 1 ≤ (W + 7) / 8 * ((H + 7) / 8) ∧ (W + 7) / 8 * ((H + 7) / 8) ≤ 1024 := by
  have h := grid_bd hm
  generalize (W + 7) / 8 = x at *
  generalize (H + 7) / 8 = y at *
  obtain ⟨h1, h2, h3, h4⟩ := h
  refine ⟨h1, h2, h3, h4, ?_, ?_⟩
  · have := Int.mul_le_mul h1 h3 (by omega) (by omega); omega
  · have := Int.mul_le_mul h2 h4 (by omega) (by omega); omega

set_option maxRecDepth 100000 in
set_option maxHeartbeats 1000000 in
theorem treeMay_any (W H C D : Int) (a : Option Addr) (n cap : Nat) (ks : List ByteArray) (w : World) (hH : i64In H) (hr : Strs w a n cap ks) (hs : Short ks) :
    Calls Try.prog 56 #[ras W H C D a n cap] w fun e w' => e = .returned (.bool (mayT W H C D ks)) ∧ Below w.heap.size w w' := by
  have HR := Lib.hid hr; have HS := Lib.hid hs; have HL := Lib.hid hr.len
  have hn : n ≤ 300 := by have := hs.1; have := hr.len; omega
  clear hr hs
  have hb0 := rbox_alloc w W H C D a n cap 26
  have b0 : Below w.heap.size w (w.alloc (.cells #[.int .i64 W, .int .i64 H, .int .i64 C, .int .i64 D, .slice a n cap] 26)) := (Below.refl _ _).alloc (Nat.le_refl _) _
  have HB0 := Lib.hid hb0; have B0 := Lib.hid b0
  have HT : Hid (mayT W H C D ks = (mayN W H C D && (((ks.length : Nat) : Int) == (W + 7) / 8 * ((H + 7) / 8)) && keysB ks)) := Lib.hid rfl
  rw [HL.out] at HT
  clear hb0 b0
  cases hm : mayN W H C D
  · rw [hm] at HT
    have HM := Lib.hid hm
    clear hm
    go_enter Try.func56, Try.ntmps56
    go_upto_region 1 with (fail)
    generalize w.alloc (.cells #[.int .i64 W, .int .i64 H, .int .i64 C, .int .i64 D, .slice a n cap] 26) = w1 at *
    have c0 := HB0.out.box.c0; have c1 := HB0.out.box.c1; have c2 := HB0.out.box.c2; have c3 := HB0.out.box.c3; have c4 := HB0.out.c4
    go_wp2_with fail
    refine (grid_not W H C D w1 hH HM.out).mono ?_; rintro e w2 ⟨rfl, b2⟩
    clear c0 c1 c2 c3 c4
    go_wp2_with fail
    go_ret
    exact ⟨by rw [HT.out]; rfl, below_size B0.out b2⟩
  · rw [hm] at HT
    have hg := grid_bd' hm
    have HM := Lib.hid hm
    clear hm
    obtain ⟨x, hx⟩ : ∃ x, (W + 7) / 8 = x := ⟨_, rfl⟩
    obtain ⟨y, hy⟩ : ∃ y, (H + 7) / 8 = y := ⟨_, rfl⟩
    have HG := Lib.hid (fun (w' : World) => by have := grid_may W H C D w' HM.out; rw [hx, hy] at this; exact this)
    rw [hx, hy] at hg HT
    clear hx hy
    obtain ⟨z, hz⟩ : ∃ z, x * y = z := ⟨_, rfl⟩
    rw [hz] at hg HT
    have hzw : IntKind.i64.wrap (x * y) = z := by rw [hz, IntKind.wrap_i64]; omega
    have hx1 : 0 < x := by omega
    have hxx : x ≤ 32 := by omega
    have HZ := Lib.hid hz
    have HZW := Lib.hid hzw
    clear hz hzw
    go_enter Try.func56, Try.ntmps56
    go_upto_region 1 with (fail)
    generalize w.alloc (.cells #[.int .i64 W, .int .i64 H, .int .i64 C, .int .i64 D, .slice a n cap] 26) = w1 at *
    have c0 := HB0.out.box.c0; have c1 := HB0.out.box.c1; have c2 := HB0.out.box.c2; have c3 := HB0.out.box.c3; have c4 := HB0.out.c4
    go_wp2_with fail
    refine (HG.out w1).mono ?_; rintro e w2 ⟨rfl, b2⟩
    clear c0 c1 c2 c3 c4
    have HB2 := Lib.hid (HB0.out.below b2); have B2 := Lib.hid (below_size B0.out b2)
    clear b2
    go_upto_region 2 with (fail)
    have c4 := HB2.out.c4
    have hzw := HZW.out
    by_cases he : (n : Int) = z
    · have hbe : ((n : Int) == z) = true := by simp [he]
      have HBE := Lib.hid hbe
      have HE := Lib.hid he
      clear he
      go_wp2_with fail
      refine (objValid_any a n cap ks w2 (HR.out.below B2.out) HS.out).mono ?_; rintro e w3 ⟨rfl, b3⟩
      go_wp2_with fail
      go_ret
      exact ⟨by rw [HT.out, HBE.out]; rfl, below_size B2.out b3⟩
    · have hbe : ((n : Int) == z) = false := by simp [he]
      have HBE := Lib.hid hbe
      go_wp2_with fail
      go_ret
      exact ⟨by rw [HT.out, HBE.out]; rfl, B2.out⟩

open Classical in
theorem mayT_keys {W H C D : Int} {ks : List ByteArray} (h : mayT W H C D ks = true) : mayN W H C D = true ∧ ((ks.length : Nat) : Int) = (W + 7) / 8 * ((H + 7) / 8) ∧ ∀ k ∈ ks, hexOk k ∧ k.size / 2 = 32 := by
  simp only [mayT, Bool.and_eq_true, beq_iff_eq] at h
  refine ⟨h.1.1, h.1.2, fun k hk => ?_⟩
  have := List.all_eq_true.1 h.2 k hk
  unfold validB at this
  exact of_decide_eq_true this

/-- The keys' bytes. -/
def keysBy (ks : List ByteArray) : List Int := ks.flatMap fun k => pairs k 32
theorem keysBy_snoc (ks : List ByteArray) (k : ByteArray) : keysBy (ks ++ [k]) = keysBy ks ++ pairs k 32 := by simp [keysBy]
set_option maxRecDepth 100000 in
set_option maxHeartbeats 1000000 in
/-- The keys' bytes behind others. -/
theorem appendKeys_any (o : Option Addr) (m co : Nat) (xs : List Int) (a : Option Addr) (n cap : Nat) (ks : List ByteArray) (w : World) (B0 : Nat) (hB : B0 ≤ w.heap.size) (hown : w.ownsRow B0 5 1 (.slice o m co) m (xs.map (Value.int .u8))) (hm : m ≤ 100) (hr : Strs w a n cap ks) (hra : 0 < n → ∀ b, a = some b → b.block < B0) (hs : Short ks) (hk : ∀ k ∈ ks, hexOk k ∧ k.size / 2 = 32) :
    Calls Try.prog 57 #[.slice o m co, .slice a n cap] w fun e w' => (∃ o' co', e = .returned (.slice o' (m + 32 * n) co') ∧ w'.ownsRow B0 5 1 (.slice o' (m + 32 * n) co') (m + 32 * n) ((xs ++ keysBy ks).map (Value.int .u8))) ∧ Below B0 w w' := by
  obtain ⟨i0, hi, hz0, hz1, hz2⟩ := info_parts infoB
  have Hi := Lib.hid hi; have Hz0 := Lib.hid hz0; have Hz1 := Lib.hid hz1; have Hz2 := Lib.hid hz2
  have HR := Lib.hid hr; have HS := Lib.hid hs; have HL := Lib.hid hr.len; have HK := Lib.hid hk; have HO := Lib.hid hown; have HRA := Lib.hid hra
  have hn : n ≤ 300 := by have := hs.1; have := hr.len; omega
  clear hr hs hi hz0 hz1 hz2 hk hown hra
  go_enter Try.func57, Try.ntmps57
  go_wp2_with fail
  go_loopw [0, 6, 7, 8, 11] (fun vo _ _ _ vi wr => ∃ (i : Nat) (o' : Option Addr) (co' : Nat), i ≤ n ∧ vi = .int .i64 i ∧ vo = .slice o' (m + 32 * i) co' ∧ Hid (wr.ownsRow B0 5 1 (.slice o' (m + 32 * i) co') (m + 32 * i) ((xs ++ keysBy (ks.take i)).map (Value.int .u8))) ∧ Hid (Below B0 w wr)) (fun _ _ _ _ vi _ => n - (intOf vi).toNat)
  case atStart => exact ⟨0, o, co, Nat.zero_le _, rfl, rfl, Lib.hid (by simpa [keysBy] using HO.out), Lib.hid (Below.refl _ _)⟩
  case round =>
    obtain ⟨i, o', co', hi, rfl, rfl, O, B⟩ := hrel
    by_cases hlt : i < n
    · have i1 : (i : Int) < n := by omega
      obtain ⟨b, off, rfl, hbl, hc⟩ := HR.out.cellAt i hlt
      have hc2 := (B.out.cell (p := ⟨b, off + i, Option.none⟩) (HRA.out (by omega) ⟨b, off, Option.none⟩ rfl)).trans hc
      have hmem : ks.getD i ByteArray.empty ∈ ks := by simp [List.getD, HL.out, hlt]
      have hsz : (ks.getD i ByteArray.empty).size ≤ 1000000 := by have := HS.out.2 _ hmem; omega
      have HKI := Lib.hid (HK.out _ hmem)
      have HTK : Hid (keysBy (ks.take (i + 1)) = keysBy (ks.take i) ++ pairs (ks.getD i ByteArray.empty) 32) := Lib.hid (by rw [take_getDA ByteArray.empty ks i (by rw [HL.out]; exact hlt), keysBy_snoc])
      clear hmem hc hbl
      generalize ks.getD i ByteArray.empty = s at *
      have hBs := B.out.size
      go_wp2_with fail
      refine (unhex_any s _ hsz).mono ?_; rintro e w2 ⟨hb2, ⟨_, a2, c2, rfl, ho2⟩ | ⟨hno, _⟩⟩
      case inr => exact absurd HKI.out.1 hno
      rw [HKI.out.2] at ho2 ⊢
      have O2 := Lib.hid (owns_below O.out hb2)
      have R2 := Lib.hid (reads_of_owns ho2)
      have hs2 := hb2.size
      have hB2 : Below B0 w w2 := B.out.trans (hb2.mono (by omega))
      have HB2 := Lib.hid hB2
      clear hb2 ho2 hB2
      go_wp2_with (at_builtin; go_loud (refine wpList_append_reads _ rfl _ _ 61 rfl B0 5 i0 (.int .u8 0) 1 Try.underlying61 Hi.out Hz0.out Hz1.out Hz2.out rfl .u8 o' (m + 32 * i) co' _ rfl O2.out a2 32 c2 _ rfl R2.out (by unfold maxLen; omega) (by omega) (by omega) ?_); intro a3 c3 w3 own3 grow3 _)
      have hB3 : Below B0 w w3 := HB2.out.grown grow3 (by omega) (fun k hk => (O2.out.lt k hk).1)
      have O3 := Lib.hid own3; have HB3 := Lib.hid hB3
      clear own3 grow3 hB3
      go_wp2_with fail
      go_roundw
      case rel => exact ⟨i + 1, a3, c3, by omega, by go_num, by rw [show m + 32 * (i + 1) = m + 32 * i + 32 by omega], by rw [show m + 32 * (i + 1) = m + 32 * i + 32 by omega, HTK.out, ← List.append_assoc]; exact O3, HB3⟩
      case measure => simp [intOf]; omega
    · have hin : n = i := by omega
      have i1 : ¬ (i : Int) < n := by omega
      go_wp2_with fail
      go_ret
      have h1 := O.out
      rw [List.take_of_length_le (by rw [HL.out]; omega)] at h1
      exact ⟨⟨o', co', rfl, by simpa using h1⟩, B.out⟩
end Go.Proofs.Ytbmbelnjgnahhaa
