/-
  obj.Encode of a tree; join.may.
-/
import Derived.Test.YtbmbelnjgnahhaaTreeB
namespace Go.Proofs.Ytbmbelnjgnahhaa
open Go.RowKit

abbrev noTile : Value := .agg #[.int .i64 0, .int .i64 0, .int .i64 0, .int .i64 0, .slice Option.none 0 0]
abbrev noCommit : Value := .agg #[.string ByteArray.empty, .slice Option.none 0 0, .int .i64 0, .string ByteArray.empty, .string ByteArray.empty]
/-- Bytes or an error. -/
def RetEnc (ok : Bool) (xs : List Int) (w : World) (e : Ending) (w' : World) : Prop :=
  Below w.heap.size w w' ∧ ((ok = true ∧ ∃ a n cap, 0 < n ∧ n ≤ 40000 ∧ e = .returned (.tuple #[.slice a n cap, .int .i64 0]) ∧ w'.ownsRow w.heap.size 5 1 (.slice a n cap) n (xs.map (Value.int .u8))) ∨ (ok = false ∧ e = .returned (.tuple #[.slice Option.none 0 0, .int .i64 4])))

set_option maxRecDepth 100000 in
set_option maxHeartbeats 1000000 in
theorem encodeTree_any (W H C D : Int) (a : Option Addr) (n cap : Nat) (ks : List ByteArray) (w : World) (hH : i64In H) (hr : Strs w a n cap ks) (hs : Short ks) :
    Calls Try.prog 30 #[.int .i64 2, noTile, ras W H C D a n cap, noCommit] w (RetEnc (mayT W H C D ks) (treeL W H C D ks) w) := by
  have HR := Lib.hid hr; have HS := Lib.hid hs
  have b0 : Below w.heap.size w (((w.alloc (.cells #[.int .i64 0, .int .i64 0, .int .i64 0, .int .i64 0, .slice Option.none 0 0] 67)).alloc (.cells #[.int .i64 W, .int .i64 H, .int .i64 C, .int .i64 D, .slice a n cap] 26)).alloc (.cells #[.string ByteArray.empty, .slice Option.none 0 0, .int .i64 0, .string ByteArray.empty, .string ByteArray.empty] 69)) := (((Below.refl _ _).alloc (Nat.le_refl _) _).alloc (by simp) _).alloc (by simp <;> omega) _
  have hb := rbox_alloc (w.alloc (.cells #[.int .i64 0, .int .i64 0, .int .i64 0, .int .i64 0, .slice Option.none 0 0] 67)) W H C D a n cap 26
  have hb2 := hb.below ((Below.refl _ _).alloc (Nat.le_refl _) (.cells #[.string ByteArray.empty, .slice Option.none 0 0, .int .i64 0, .string ByteArray.empty, .string ByteArray.empty] 69))
  have HT := Lib.hid (fun (w' : World) (h : Strs w' a n cap ks) => treeBytes_any W H C D a n cap ks w' hH h HS.out)
  have B0 := Lib.hid b0; have HB := Lib.hid hb2
  clear hr hs hb b0 hb2
  go_enter Try.func30, Try.ntmps30
  go_upto_region 1 with (fail)
  rw [World.size_alloc] at HB
  generalize ((w.alloc (.cells #[.int .i64 0, .int .i64 0, .int .i64 0, .int .i64 0, .slice Option.none 0 0] 67)).alloc (.cells #[.int .i64 W, .int .i64 H, .int .i64 C, .int .i64 D, .slice a n cap] 26)).alloc (.cells #[.string ByteArray.empty, .slice Option.none 0 0, .int .i64 0, .string ByteArray.empty, .string ByteArray.empty] 69) = w1 at *
  have c0 := HB.out.box.c0; have c1 := HB.out.box.c1; have c2 := HB.out.box.c2; have c3 := HB.out.box.c3; have c4 := HB.out.c4
  cases hm : mayT W H C D ks
  · rw [hm] at HT
    have HM := Lib.hid hm
    clear hm
    go_wp2_with fail
    refine (HT.out w1 (HR.out.below B0.out)).mono ?_; rintro e w2 ⟨b2, ⟨h, _⟩ | ⟨_, rfl⟩⟩
    · exact absurd h (by decide)
    clear c0 c1 c2 c3 c4
    go_wp2_with fail
    go_ret2
    exact ⟨below_size B0.out b2, .inr ⟨HM.out, rfl⟩⟩
  · rw [hm] at HT
    have HM := Lib.hid hm
    clear hm
    go_wp2_with fail
    refine (HT.out w1 (HR.out.below B0.out)).mono ?_; rintro e w2 ⟨b2, ⟨_, a2, n2, cap2, h1, h2, rfl, o2⟩ | ⟨h, _⟩⟩
    case inr => exact absurd h (by decide)
    have O2 := Lib.hid (owns_base o2 B0.out.size)
    clear c0 c1 c2 c3 c4 o2
    have hn2 : ¬ (n2 : Int) = 0 := by omega
    have hn3 : ((n2 : Int) == 0) = false := beq_eq_false_iff_ne.2 hn2
    go_wp2_with fail
    go_ret2
    exact ⟨below_size B0.out b2, .inl ⟨HM.out, a2, n2, cap2, h1, h2, rfl, O2.out⟩⟩

/-- A tree as it is handed about. -/
structure TV where
  W : Int
  H : Int
  C : Int
  D : Int
  a : Option Addr
  n : Nat
  cap : Nat
  ks : List ByteArray
abbrev TV.val (t : TV) : Value := ras t.W t.H t.C t.D t.a t.n t.cap
structure TOk (w : World) (t : TV) : Prop where
  iW : i64In t.W
  iH : i64In t.H
  iC : i64In t.C
  iD : i64In t.D
  strs : Strs w t.a t.n t.cap t.ks
  short : Short t.ks
noncomputable def TV.may (t : TV) : Bool := mayT t.W t.H t.C t.D t.ks
theorem TOk.below {w w' : World} {t : TV} (h : TOk w t) (hb : Below w.heap.size w w') : TOk w' t := ⟨h.iW, h.iH, h.iC, h.iD, h.strs.below hb, h.short⟩
def TV.nul : TV := ⟨0, 0, 0, 0, Option.none, 0, 0, []⟩
/-- A list of trees in block b. -/
structure TList (w : World) (b n : Nat) (ts : List TV) : Prop where
  len : ts.length = n
  lt : b < w.heap.size
  c0 : ∀ i, i < n → w.cell? ⟨b, i * 5, Option.none⟩ = some (.int .i64 (ts.getD i TV.nul).W)
  c1 : ∀ i, i < n → w.cell? ⟨b, i * 5 + 1, Option.none⟩ = some (.int .i64 (ts.getD i TV.nul).H)
  c2 : ∀ i, i < n → w.cell? ⟨b, i * 5 + 2, Option.none⟩ = some (.int .i64 (ts.getD i TV.nul).C)
  c3 : ∀ i, i < n → w.cell? ⟨b, i * 5 + 3, Option.none⟩ = some (.int .i64 (ts.getD i TV.nul).D)
  c4 : ∀ i, i < n → w.cell? ⟨b, i * 5 + 4, Option.none⟩ = some (.slice (ts.getD i TV.nul).a (ts.getD i TV.nul).n (ts.getD i TV.nul).cap)

set_option maxRecDepth 100000 in
set_option maxHeartbeats 1000000 in
theorem joinMay_any (b n : Nat) (ts : List TV) (w : World) (h : TList w b n ts) (hn : n ≤ 10) (hok : ∀ t ∈ ts, TOk w t) :
    Calls Try.prog 23 #[.slice (some ⟨b, 0, Option.none⟩) n n] w fun e w' => e = .returned (.bool (ts.all TV.may)) ∧ Below w.heap.size w w' := by
  have HL := Lib.hid h; have HOK := Lib.hid hok
  clear h hok
  go_enter Try.func23, Try.ntmps23
  go_wp2_with fail
  go_loopw [4, 5, 6, 9] (fun _ _ _ vi wr => ∃ i : Nat, i ≤ n ∧ vi = .int .i64 i ∧ Hid ((ts.take i).all TV.may = true) ∧ Hid (Below w.heap.size w wr)) (fun _ _ _ vi _ => n - (intOf vi).toNat)
  case atStart => exact ⟨0, Nat.zero_le _, rfl, Lib.hid rfl, Lib.hid (Below.refl _ _)⟩
  case round =>
    obtain ⟨i, hi, rfl, HK, B⟩ := hrel
    by_cases hlt : i < n
    · have i1 : (i : Int) < n := by omega
      have hil : i < ts.length := by rw [HL.out.len]; exact hlt
      have hmem : ts.getD i TV.nul ∈ ts := by simp [List.getD, hil]
      have e0 := (B.out.cell (p := ⟨b, i * 5, Option.none⟩) HL.out.lt).trans (HL.out.c0 i hlt)
      have e1 := (B.out.cell (p := ⟨b, i * 5 + 1, Option.none⟩) HL.out.lt).trans (HL.out.c1 i hlt)
      have e2 := (B.out.cell (p := ⟨b, i * 5 + 2, Option.none⟩) HL.out.lt).trans (HL.out.c2 i hlt)
      have e3 := (B.out.cell (p := ⟨b, i * 5 + 3, Option.none⟩) HL.out.lt).trans (HL.out.c3 i hlt)
      have e4 := (B.out.cell (p := ⟨b, i * 5 + 4, Option.none⟩) HL.out.lt).trans (HL.out.c4 i hlt)
      have ht := (HOK.out _ hmem).below B.out
      have hsn := take_getDA TV.nul ts i hil
      have HKD : Hid (∀ v, (ts.getD i TV.nul).may = v → (ts.take (i + 1)).all TV.may = v) := Lib.hid fun v hv => by rw [hsn, List.all_append, HK.out, List.all_cons, hv]; simp
      have HALL : Hid ((ts.getD i TV.nul).may = false → ts.all TV.may = false) := Lib.hid fun hv => by
        rw [List.all_eq_false]; exact ⟨_, hmem, by rw [hv]; decide⟩
      have HT := Lib.hid ht
      clear hsn hmem hil ht
      generalize ts.getD i TV.nul = t at *
      obtain ⟨tW, tH, tC, tD, ta, tn, tcap, tks⟩ := t
      simp only at e0 e1 e2 e3 e4
      go_upto_region 4 with (fail)
      have bal : Below wr.heap.size wr (wr.alloc (.cells #[.int .i64 tW, .int .i64 tH, .int .i64 tC, .int .i64 tD, .slice ta tn tcap] 26)) := (Below.refl _ _).alloc (Nat.le_refl _) _
      have hbx := rbox_alloc wr tW tH tC tD ta tn tcap 26
      have HT2 := Lib.hid (HT.out.below bal); have B2 := Lib.hid (below_size B.out bal)
      have HBX := Lib.hid hbx
      clear e0 e1 e2 e3 e4 bal hbx
      generalize wr.alloc (.cells #[.int .i64 tW, .int .i64 tH, .int .i64 tC, .int .i64 tD, .slice ta tn tcap] 26) = w1 at *
      generalize wr.heap.size = gt at *
      have c0 := HBX.out.box.c0; have c1 := HBX.out.box.c1; have c2 := HBX.out.box.c2; have c3 := HBX.out.box.c3; have c4 := HBX.out.c4
      cases hm : TV.may ⟨tW, tH, tC, tD, ta, tn, tcap, tks⟩
      · have HM := Lib.hid hm
        have HE := Lib.hid (encodeTree_any tW tH tC tD ta tn tcap tks w1 HT2.out.iH HT2.out.strs HT2.out.short)
        clear hm
        go_wp2_with fail
        refine HE.out.mono ?_; rintro e w2 ⟨b2, ⟨h, _⟩ | ⟨_, rfl⟩⟩
        · exact absurd (HM.out.symm.trans h) (by decide)
        clear c0 c1 c2 c3 c4
        go_wp2_with fail
        go_ret
        exact ⟨by rw [HALL.out HM.out]; rfl, below_size B2.out b2⟩
      · have HM := Lib.hid hm
        have HE := Lib.hid (encodeTree_any tW tH tC tD ta tn tcap tks w1 HT2.out.iH HT2.out.strs HT2.out.short)
        clear hm
        go_wp2_with fail
        refine HE.out.mono ?_; rintro e w2 ⟨b2, ⟨_, a2, n2, cap2, h1, h2, rfl, o2⟩ | ⟨h, _⟩⟩
        case inr => exact absurd (HM.out.symm.trans h) (by decide)
        clear c0 c1 c2 c3 c4 o2
        go_wp2_with fail
        go_roundw
        case rel => exact ⟨i + 1, by omega, by go_num, Lib.hid (HKD.out _ HM.out), Lib.hid (below_size B2.out b2)⟩
        case measure => simp [intOf]; omega
    · have i1 : ¬ (i : Int) < n := by omega
      go_wp2_with fail
      go_ret
      have h1 := HK.out
      rw [List.take_of_length_le (by rw [HL.out.len]; omega)] at h1
      exact ⟨by rw [h1]; rfl, B.out⟩
end Go.Proofs.Ytbmbelnjgnahhaa
