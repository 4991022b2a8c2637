/-
  huff.New.
-/
import Derived.Test.YtmdkinhbfndoeaaHuffDecP
import Derived.Test.YtmdkinhbfndoeaaHuffLens
import Derived.ChangeKeysEq
import Derived.StillTailTactics
namespace Go.Proofs.Ytmdkinhbfndoeaa
open Go.RowKit

theorem new_no1 (a : Option Addr) (n cap : Nat) (ls : List Int) (w : World) (hr : Reads .i64 w a n cap ls) (h64 : is64 ls) (hk : ¬ lensOk ls) :
    Calls Try.prog 20 #[.slice a n cap] w fun e w' => e = .returned (.tuple #[.pointer Option.none, .int .i64 1]) ∧ w' = w := by
  go_enter Try.func20, Try.ntmps20
  go_wp2_with fail
  refine (codes_no1 a n cap ls _ hr h64 hk).mono ?_; rintro e w1 ⟨rfl, rfl⟩
  go_wp2_with fail
  go_ret2
  exact ⟨rfl, rfl⟩
theorem new_no4 (a : Option Addr) (n cap : Nat) (ls : List Int) (w : World) (hr : Reads .i64 w a n cap ls) (h64 : is64 ls) (hk : lensOk ls) (hf : 32768 < krS ls) :
    Calls Try.prog 20 #[.slice a n cap] w fun e w' => e = .returned (.tuple #[.pointer Option.none, .int .i64 4]) ∧ w' = w := by
  go_enter Try.func20, Try.ntmps20
  go_wp2_with fail
  refine (codes_no4 a n cap ls _ hr h64 hk hf).mono ?_; rintro e w1 ⟨rfl, rfl⟩
  go_wp2_with fail
  go_ret2
  exact ⟨rfl, rfl⟩


theorem run_index_arrK {P : Program} (t e : TypeId) (n : Nat) (k : IntKind) (xs : List Int) (i : Nat) (h : P.underlying t = some (.array n e)) (hsz : (P.info? e).map (·.size) = some 1) (he : P.plainKey e = true) (hl : xs.length = n) (hi : i < n) (w : World) :
    Sem.run P (Instr.index t (.agg (xs.map (Value.int k)).toArray) (.int .i64 (i : Int))) w = .ok (.int k (xs.getD i 0)) w := by
  obtain ⟨inf, hi', hz⟩ := Option.map_eq_some_iff.1 hsz
  have hp := run_part_plain (P := P) w he (xs := (xs.map (Value.int k)).toArray) (off := i) (v := .int k (xs.getD i 0)) (by simp [hl, hi, List.getD])
  have h2 : (i : Int) < (n : Int) := by omega
  simp [Instr.index, run_underlying h, asIntOf, hi, sizeOf, typeInfo, hi', hz, hp]
/-- A decoder's block: sixteen numbers and a slice. -/
def DBox (w : World) (g : Nat) (T : TypeId) (xs : List Int) (v : Value) : Prop := xs.length = 16 ∧ w.heap[g]? = some (.cells (xs.map (Value.int .i64) ++ [v]).toArray T)
section
variable {w w' : World} {g : Nat} {T : TypeId} {xs : List Int} {v : Value}
theorem DBox.lt (h : DBox w g T xs v) : g < w.heap.size := (Array.getElem?_eq_some_iff.1 h.2).1
theorem DBox.below (h : DBox w g T xs v) (hb : Below w.heap.size w w') : DBox w' g T xs v := ⟨h.1, (hb.block g h.lt).trans h.2⟩
theorem DBox.far (h : DBox w g T xs v) (b i : Nat) (x : Value) (hb : b ≠ g) : DBox (w.setCell ⟨b, i, Option.none⟩ x) g T xs v := ⟨h.1, (Below.heap_setCell w ⟨b, i, Option.none⟩ x g (fun e => hb e.symm)).trans h.2⟩
theorem DBox.keep (h : DBox w g T xs v) (e : w'.heap[g]? = w.heap[g]?) : DBox w' g T xs v := ⟨h.1, e.trans h.2⟩
theorem DBox.cell (h : DBox w g T xs v) (i : Nat) (hi : i < 16) : w.cell? ⟨g, i, Option.none⟩ = some (.int .i64 (xs.getD i 0)) := by
  have hl := h.1
  unfold World.cell?
  rw [show w.heap[(⟨g, i, Option.none⟩ : Addr).block]? = _ from h.2]
  simp [List.getD, hl, hi, List.getElem?_append]
theorem DBox.last (h : DBox w g T xs v) : w.cell? ⟨g, 16, Option.none⟩ = some v := by
  have hl := h.1
  unfold World.cell?
  rw [show w.heap[(⟨g, 16, Option.none⟩ : Addr).block]? = _ from h.2]
  simp [hl, List.getElem?_append]
theorem DBox.frozen (h : DBox w g T xs v) (i : Nat) : w.frozen? ⟨g, i, Option.none⟩ = false := by
  unfold World.frozen?
  rw [show w.heap[(⟨g, i, Option.none⟩ : Addr).block]? = _ from h.2]
  simp
theorem DBox.set (h : DBox w g T xs v) (x : Value) : DBox (w.setCell ⟨g, 16, Option.none⟩ x) g T xs x := by
  refine ⟨h.1, ?_⟩
  have hl := h.1
  have h2 := h.2
  unfold World.setCell
  simp only
  rw [Array.getElem?_modify, if_pos rfl, h2]
  simp [hl, List.set_append]
theorem DBox.range (h : DBox w g T xs v) : w.rangeAt g 0 (xs.map (Value.int .i64)) := by
  intro j x hx
  have hj : j < xs.length := by have := (List.getElem?_eq_some_iff.1 hx).1; simpa using this
  rw [Nat.zero_add, h.cell j (by rw [← h.1]; exact hj)]
  simp [hj] at hx
  simp [List.getD, hj, hx]
end
/-- A decoder: the counts at gd, the symbols at gs. -/
structure Dec (w : World) (gd gs : Nat) (ls : List Int) : Prop where
  dbox : DBox w gd 83 (tallyL ls) (.slice (some ⟨gs, 0, Option.none⟩) (offN ls 16) (offN ls 16))
  syms : ∃ S, KBox .i64 w gs 3 S ∧ SymTo ls S ls.length
theorem Dec.below {w w' : World} {gd gs : Nat} {ls : List Int} (h : Dec w gd gs ls) (hb : Below w.heap.size w w') : Dec w' gd gs ls :=
  ⟨h.dbox.below hb, by obtain ⟨S, k, s⟩ := h.syms; exact ⟨S, k.below hb, s⟩⟩
theorem Dec.keep {w w' : World} {gd gs : Nat} {ls : List Int} (h : Dec w gd gs ls) (e1 : w'.heap[gd]? = w.heap[gd]?) (e2 : w'.heap[gs]? = w.heap[gs]?) : Dec w' gd gs ls :=
  ⟨h.dbox.keep e1, by obtain ⟨S, k, s⟩ := h.syms; exact ⟨S, k.keep e2, s⟩⟩
theorem below_set {b : Nat} {w w' : World} (h : Below b w w') (g i : Nat) (v : Value) (hg : b ≤ g) : Below b w (w'.setCell ⟨g, i, Option.none⟩ v) := h.setCell (by simpa using hg) v
theorem kbox_of_owns0 {w : World} {base T g n : Nat} {xs : List Int} (h : w.ownsRow base T 1 (.slice (some ⟨g, 0, Option.none⟩) n n) n (xs.map (Value.int .i64))) : KBox .i64 w g T xs ∧ base ≤ g := by
  by_cases hn : 0 < n
  · exact kbox_of_owns h hn
  · rcases id h.2 with ⟨e1, h0⟩ | ⟨g', c', cur, e1, hb, hh, hc, hm, hs, ht⟩
    · simp at e1
    · obtain ⟨rfl, rfl⟩ : g = g' ∧ n = c' := by simpa using e1
      refine ⟨?_, hb⟩
      have e : cur = (xs.map (Value.int .i64)).toArray := by
        rw [← ht, List.take_of_length_le (by rw [Array.length_toList, hs]; exact Nat.le_refl _)]
      unfold KBox
      rw [hh, e]
/-- What New answers where there are codes. -/
def NewIs (ls : List Int) (w : World) (e : Ending) (w' : World) : Prop :=
  Below w.heap.size w w' ∧ ((offN ls 16 = 0 ∧ e = .returned (.tuple #[.pointer Option.none, .int .i64 4])) ∨
    (0 < offN ls 16 ∧ ∃ gd gs, w.heap.size ≤ gd ∧ w.heap.size ≤ gs ∧ e = .returned (.tuple #[.pointer (some ⟨gd, 0, Option.none⟩), .int .i64 0]) ∧ Dec w' gd gs ls))
theorem fold16 (f : Nat → Value) : List.foldl (fun (cs : Array Value) (x : Value × Nat) => cs.setIfInBounds x.snd x.fst)
    #[Value.int IntKind.i64 0, Value.int IntKind.i64 0, Value.int IntKind.i64 0, Value.int IntKind.i64 0, Value.int IntKind.i64 0, Value.int IntKind.i64 0, Value.int IntKind.i64 0, Value.int IntKind.i64 0, Value.int IntKind.i64 0, Value.int IntKind.i64 0, Value.int IntKind.i64 0, Value.int IntKind.i64 0, Value.int IntKind.i64 0, Value.int IntKind.i64 0, Value.int IntKind.i64 0, Value.int IntKind.i64 0, Value.slice Option.none 0 0]
    ((List.range 16).map f).zipIdx = ((List.range 16).map f ++ [Value.slice Option.none 0 0]).toArray := by kernel_rfl
theorem fold_tally (ls : List Int) : List.foldl (fun (cs : Array Value) (x : Value × Nat) => cs.setIfInBounds x.snd x.fst)
    #[Value.int IntKind.i64 0, Value.int IntKind.i64 0, Value.int IntKind.i64 0, Value.int IntKind.i64 0, Value.int IntKind.i64 0, Value.int IntKind.i64 0, Value.int IntKind.i64 0, Value.int IntKind.i64 0, Value.int IntKind.i64 0, Value.int IntKind.i64 0, Value.int IntKind.i64 0, Value.int IntKind.i64 0, Value.int IntKind.i64 0, Value.int IntKind.i64 0, Value.int IntKind.i64 0, Value.int IntKind.i64 0, Value.slice Option.none 0 0]
    (List.map (Value.int IntKind.i64) (tallyL ls)).zipIdx = ((tallyL ls).map (Value.int .i64) ++ [Value.slice Option.none 0 0]).toArray := by
  unfold tallyL
  rw [List.map_map]
  exact fold16 _
theorem DBox.new (w : World) (T : TypeId) (ls : List Int) : DBox (w.alloc (.cells ((tallyL ls).map (Value.int .i64) ++ [Value.slice Option.none 0 0]).toArray T)) w.heap.size T (tallyL ls) (.slice Option.none 0 0) :=
  ⟨tallyL_len ls, by show (w.heap.push _)[w.heap.size]? = _; simp⟩

set_option maxRecDepth 100000 in
set_option maxHeartbeats 4000000 in
theorem new_yes (a : Option Addr) (n cap : Nat) (ls : List Int) (w : World) (hr : Reads .i64 w a n cap ls) (h64 : is64 ls) (hk : lensOk ls) (hf : krS ls ≤ 32768) :
    Calls Try.prog 20 #[.slice a n cap] w (NewIs ls w) := by
  have HR := Lib.hid hr; have HK := Lib.hid hk; have HL := Lib.hid hr.len
  have hn : n ≤ 300 := by have := hk.1; have := hr.len; omega
  have htl : (tallyL ls).length = 16 := tallyL_len ls
  clear hr hk
  go_enter Try.func20, Try.ntmps20
  go_wp2_with fail
  refine (codes_yes a n cap ls _ HR.out h64 HK.out hf).mono ?_; rintro e w1 ⟨g, k, rfl, C, b1⟩
  rw [HL.out] at C ⊢
  have HC := Lib.hid C; have B := Lib.hid b1
  replace HR := Lib.hid (HR.out.below b1)
  clear C b1 h64 hf
  go_upto_region 4 with (fail)
  go_upto_region 5 with (go_at_call 35; refine (tally_any a n cap ls _ HR.out HK.out).mono ?_; rintro e w2 ⟨rfl, b2⟩)
  rw [fold_tally]
  have D := Lib.hid (DBox.new w2 83 ls)
  have b3 : Below w1.heap.size w1 (w2.alloc (.cells ((tallyL ls).map (Value.int .i64) ++ [Value.slice Option.none 0 0]).toArray 83)) := b2.alloc b2.size _
  have hgd := b2.size
  have HCl := Lib.hid HC.out.lt.2
  replace HC := Lib.hid (HC.out.below b3); replace HR := Lib.hid (HR.out.below b3); replace B := Lib.hid (below_size B.out b3)
  have hs3 : (w2.alloc (.cells ((tallyL ls).map (Value.int .i64) ++ [Value.slice Option.none 0 0]).toArray 83)).heap.size = w2.heap.size + 1 := by simp
  clear b3 b2
  generalize w2.alloc (.cells ((tallyL ls).map (Value.int .i64) ++ [Value.slice Option.none 0 0]).toArray 83) = w3 at *
  generalize w2.heap.size = gd at *
  go_upto_region 6 with (fail)
  have X := Lib.hid (KBox.new .i64 w3 84 (List.replicate 17 0) #[.int .i64 0, .int .i64 0, .int .i64 0, .int .i64 0, .int .i64 0, .int .i64 0, .int .i64 0, .int .i64 0, .int .i64 0, .int .i64 0, .int .i64 0, .int .i64 0, .int .i64 0, .int .i64 0, .int .i64 0, .int .i64 0, .int .i64 0] rfl)
  have hs4 : (w3.alloc (.cells #[.int .i64 0, .int .i64 0, .int .i64 0, .int .i64 0, .int .i64 0, .int .i64 0, .int .i64 0, .int .i64 0, .int .i64 0, .int .i64 0, .int .i64 0, .int .i64 0, .int .i64 0, .int .i64 0, .int .i64 0, .int .i64 0, .int .i64 0] 84)).heap.size = gd + 1 + 1 := by rw [World.size_alloc, hs3]
  have b4 : Below w3.heap.size w3 (w3.alloc (.cells #[.int .i64 0, .int .i64 0, .int .i64 0, .int .i64 0, .int .i64 0, .int .i64 0, .int .i64 0, .int .i64 0, .int .i64 0, .int .i64 0, .int .i64 0, .int .i64 0, .int .i64 0, .int .i64 0, .int .i64 0, .int .i64 0, .int .i64 0] 84)) := (Below.refl _ _).alloc (Nat.le_refl _) _
  rw [hs3] at X
  replace D := Lib.hid (D.out.below b4); replace HC := Lib.hid (HC.out.below b4); replace HR := Lib.hid (HR.out.below b4); replace B := Lib.hid (below_size B.out b4)
  clear b4 hs3
  generalize w3.alloc (.cells #[.int .i64 0, .int .i64 0, .int .i64 0, .int .i64 0, .int .i64 0, .int .i64 0, .int .i64 0, .int .i64 0, .int .i64 0, .int .i64 0, .int .i64 0, .int .i64 0, .int .i64 0, .int .i64 0, .int .i64 0, .int .i64 0, .int .i64 0] 84) = w4 at *
  rw [← offL_zero ls] at X
  go_wp2_with (refine wpList_load_mid rfl 79 _ rfl gd 0 rfl _ _ D.out.range Try.underlying79 rfl (by rw [List.length_map, tallyL_len]; exact arrI16) ?_)
  have Z : Hid (tallyL ls = tallyL ls) := Lib.hid rfl
  go_loopw [8, 9, 28] (fun vi vj vk wr => ∃ i : Nat, i ≤ 16 ∧ vk = .int .i64 i ∧ Hid (KBox .i64 wr (gd + 1) 84 (offL ls i)) ∧ Hid (DBox wr gd 83 (tallyL ls) (.slice Option.none 0 0)) ∧ Hid (CRow wr w.heap.size 40 g n k (codeAt ls)) ∧ Hid (Below w.heap.size w wr)) (fun _ _ vk _ => 16 - (intOf vk).toNat)
  case atStart => exact ⟨0, by decide, rfl, X, D, HC, B⟩
  case round =>
    obtain ⟨i, hi, rfl, X, D, HC, B⟩ := hrel
    by_cases hlt : i < 16
    · have i1 : (i : Int) < 16 := by omega
      have hidx := fun w => run_index_arrK (P := Try.prog) 79 3 16 .i64 (tallyL ls) i Try.underlying79 (by kernel_rfl) (by kernel_rfl) (tallyL_len ls) hlt w
      have HS := Lib.hid (offL_set ls i (by omega))
      have hx := X.out.cell i (by rw [offL_len]; omega)
      have hf := X.out.frozen (i + 1)
      have hx1 := X.out.cell (i + 1) (by rw [offL_len]; omega)
      rw [offL_getD _ _ _ (by omega), if_neg (by omega)] at hx1
      have hO : offN ls (i + 1) = offN ls i + (if i = 0 then 0 else cnt ls i) := rfl
      rw [offL_getD _ _ _ (by omega), if_pos (Nat.le_refl _)] at hx
      rw [tallyL_getD _ _ hlt, show (if i = 0 then (0 : Int) else ((cnt ls i : Nat) : Int)) = ((if i = 0 then 0 else cnt ls i : Nat) : Int) by split <;> rfl] at hidx
      have hle := offN_len ls (i + 1)
      rw [HL.out] at hle
      have HO := Lib.hid hO
      rw [hO] at hle
      clear hO htl
      generalize (if i = 0 then 0 else cnt ls i) = ct at *
      generalize offN ls i = of at *
      have i2 : (i : Int) + 1 < 17 := by omega
      have i3 : (i : Int) < 17 := by omega
      have i4 : (0 : Int) ≤ i := by omega
      have i5 : (0 : Int) ≤ (i : Int) + 1 := by omega
      have t1 : ((i : Int) + 1).toNat = i + 1 := by omega
      go_wp2_with fail
      go_roundw
      case rel =>
        refine ⟨i + 1, by omega, by go_num, Lib.hid ?_, Lib.hid (D.out.far _ _ _ (by omega)), Lib.hid (HC.out.far _ _ _ (by have := HCl.out; omega)), Lib.hid (B.out.setCell (by have := HCl.out; have := HC.out.lt; show _ ≤ gd + 1; omega) _)⟩
        rw [HS.out, HO.out]
        rw [show ((of + ct : Nat) : Int) = (of : Int) + ct by omega]
        exact X.out.set (i + 1) _
      case measure => simp [intOf]; omega
    · have hi16 : i = 16 := by omega
      have hx := X.out.cell 16 (by rw [offL_len]; decide)
      rw [offL_getD _ _ _ (by decide), if_pos (by omega)] at hx
      rw [hi16, ← nowO_zero] at X
      have hnl : ¬ (i : Int) < 16 := by omega
      have hle := offN_len ls 16
      rw [HL.out] at hle
      have hd := D.out.last
      have hfd := D.out.frozen 16
      obtain ⟨i1, ki, kz0, kz1, kz2⟩ := info_parts infoInt
      have Ki := Lib.hid ki; have Kz0 := Lib.hid kz0; have Kz1 := Lib.hid kz1; have Kz2 := Lib.hid kz2
      have hwr : gd + 1 < wr.heap.size := X.out.lt
      obtain ⟨m, hm⟩ : ∃ m, offN ls 16 = m := ⟨_, rfl⟩
      rw [hm] at hx hle
      have HM := Lib.hid hm
      clear ki kz0 kz1 kz2 hi16 hi hlt htl hm
      go_upto_region 11 with (fail)
      clear hnl
      go_upto_region 12 with (at_make; refine wpList_make_full _ rfl _ _ 22 rfl wr.heap.size 3 i1 _ 1 Try.underlying22 Ki.out Kz0.out Kz1.out _ _ _ _ m rfl rfl (by first | rfl | omega) (by first | rfl | omega) (by rw [Kz2.out]; omega) (by unfold maxLen; omega) (Nat.le_refl _) ?_; intro w5 o5 g5; have b5 : Below wr.heap.size wr w5 := (Below.refl _ _).grown g5 (Nat.le_refl _) (fun k h => nomatch h); have O5 := Lib.hid o5; have hd5 := (D.out.below b5).last; have hf5 := (D.out.below b5).frozen 16; clear o5 g5)
      clear hd hfd hd5 hf5 hx
      have o5 := O5.out
      have hz : (Value.int .i64 0).cells = #[Value.int .i64 0] := rfl
      rw [hz, Nat.mul_one, toList_made] at o5
      obtain ⟨K3, _⟩ := kbox_of_owns0 o5
      have hgd3 : wr.heap.size < w5.heap.size := K3.lt
      replace X := Lib.hid ((X.out.below b5).far gd 16 (.slice (some ⟨wr.heap.size, 0, Option.none⟩) m m) (by omega))
      replace D := Lib.hid ((D.out.below b5).set (.slice (some ⟨wr.heap.size, 0, Option.none⟩) m m))
      have hgne : g ≠ gd := by have := HCl.out; omega
      replace HC := Lib.hid ((HC.out.below b5).far gd 16 (.slice (some ⟨wr.heap.size, 0, Option.none⟩) m m) (by omega))
      have hwgd : w.heap.size ≤ gd := by have := HC.out.lt; have := HCl.out; omega
      replace B := Lib.hid ((below_size B.out b5).setCell (p := ⟨gd, 16, Option.none⟩) (by simp; exact hwgd) (.slice (some ⟨wr.heap.size, 0, Option.none⟩) m m))
      have K := Lib.hid (K3.far gd 16 (.slice (some ⟨wr.heap.size, 0, Option.none⟩) m m) (by omega))
      have hs5 : wr.heap.size < (w5.setCell ⟨gd, 16, Option.none⟩ (.slice (some ⟨wr.heap.size, 0, Option.none⟩) m m)).heap.size := by simpa using hgd3
      have HY : Hid (SymTo ls (List.replicate m 0) 0) := Lib.hid (symTo_zero ls _ (by rw [List.length_replicate, HM.out]))
      clear O5 o5 hz K3 b5 hgd3
      generalize w5.setCell ⟨gd, 16, Option.none⟩ (.slice (some ⟨wr.heap.size, 0, Option.none⟩) m m) = w6 at *
      generalize wr.heap.size = gs at *
      go_wp2_with fail
      go_loopw [10, 11, 49] (fun v10 v11 vk wr => ∃ i S, i ≤ n ∧ vk = .int .i64 (i : Nat) ∧ Hid (KBox .i64 wr (gd + 1) 84 (nowO ls i)) ∧ Hid (KBox .i64 wr gs 3 S) ∧ Hid (SymTo ls S i) ∧ Hid (DBox wr gd 83 (tallyL ls) (.slice (some ⟨gs, 0, Option.none⟩) m m)) ∧ Hid (CRow wr w.heap.size 40 g n k (codeAt ls)) ∧ Hid (Below w.heap.size w wr)) (fun _ _ vk _ => n - (intOf vk).toNat)
      case atStart => exact ⟨0, _, Nat.zero_le _, rfl, X, K, HY, D, HC, B⟩
      case round =>
        clear X K HY D HC B
        obtain ⟨i, S, hi, rfl, X, K, HY, D, HC, B⟩ := hrel
        by_cases hlt : i < n
        · have i1 : (i : Int) < n := by omega
          have e0 := HC.out.c0 i hlt; have e1 := HC.out.c1 i hlt
          generalize hc0 : (codeAt ls i).1 = c0 at *
          generalize hc1 : (codeAt ls i).2 = c1 at *
          have HC0 := Lib.hid hc0; have HC1 := Lib.hid hc1
          clear hc0 hc1
          have b7 : Below wr.heap.size wr (wr.alloc (.cells #[.int .u32 c0, .int .i64 c1] 40)) := (Below.refl _ _).alloc (Nat.le_refl _) _
          have hcl := HC.out.lt.2
          have hgsc := K.out.lt
          go_upto_region 15 with (fail)
          have z1 : (wr.alloc (.cells #[.int .u32 c0, .int .i64 c1] 40)).cell? ⟨wr.heap.size, 1, Option.none⟩ = some (.int .i64 c1) := by
            unfold World.cell?
            have e : (wr.alloc (.cells #[.int .u32 c0, .int .i64 c1] 40)).heap[wr.heap.size]? = some (.cells #[.int .u32 c0, .int .i64 c1] 40) := by show (wr.heap.push _)[wr.heap.size]? = _; simp
            rw [show (wr.alloc (.cells #[.int .u32 c0, .int .i64 c1] 40)).heap[(⟨wr.heap.size, 1, Option.none⟩ : Addr).block]? = _ from e]
            rfl
          replace X := Lib.hid (X.out.below b7); replace K := Lib.hid (K.out.below b7); replace D := Lib.hid (D.out.below b7); replace HC := Lib.hid (HC.out.below b7); replace B := Lib.hid (below_size B.out b7)
          have hgc := hcl
          clear b7 e0 e1 hcl
          generalize wr.alloc (.cells #[.int .u32 c0, .int .i64 c1] 40) = w8 at *
          generalize wr.heap.size = gc at *
          have hil : i < ls.length := by rw [HL.out]; exact hlt
          have hx := HK.out.2 (ls.getD i 0) (by simp [List.getD, hil])
          have HIL := Lib.hid hil
          by_cases hp : 0 < ls.getD i 0
          · obtain ⟨y, hy⟩ := Int.eq_ofNat_of_zero_le hx.1
            have hcy : c1 = (y : Int) := by rw [← HC1.out]; unfold codeAt; rw [if_pos hp, hy]
            subst hcy
            have hy1 : 0 < y := by omega
            have hy15 : y < 16 := by omega
            have hpos := posN_lt ls i y hil hy hy1 (by omega)
            rw [HM.out] at hpos
            have hn0 := X.out.cell y (by rw [nowO_len]; omega)
            rw [nowO_at ls i y hy1 hy15] at hn0
            have hf0 := X.out.frozen y
            have hsy := K.out.cell (posN ls i y) (by rw [HY.out.1, HM.out]; exact hpos)
            have hfy := K.out.frozen (posN ls i y)
            have hdl := D.out.last
            have HNO := Lib.hid (nowO_set ls i y hil hy hy1 hy15)
            have HSY := Lib.hid (symTo_yes ls S i y HY.out hil hy hy1 (by omega))
            have y1 : (0 : Int) < y := by omega
            have y2 : (y : Int) < 17 := by omega
            have y3 : (0 : Int) ≤ y := by omega
            generalize S.getD (posN ls i y) 0 = sv at *
            generalize posN ls i y = ps at *
            have p1 : (ps : Int) < m := by omega
            have p2 : (0 : Int) ≤ ps := by omega
            clear hx hp hy hil
            go_upto_region 16 with (fail)
            refine wp_region_still_tail 10 (by kernel_rfl) (by kernel_rfl) ?_
            simp only [List.take_succ_cons, List.take_zero, List.drop_succ_cons, List.drop_zero]
            repeat still_step
            refine wpStill_nil ?_
            change wpList _ _ _ _ _ w8.drew
            clear hdl
            have n1 : ¬ gs = gc := by omega
            have n2 : ¬ gc = gs := by omega
            have n3 : ¬ gs = gd + 1 := by omega
            have n4 : ¬ gd + 1 = gs := by omega
            go_wp2_with fail
            go_roundw
            case rel =>
              have hs1 := HC.out.lt; have hs2 := HCl.out
              refine ⟨i + 1, S.set ps i, by omega, by go_num, Lib.hid ?_, Lib.hid ((K.out.set ps i).far _ _ _ (by omega)), HSY, Lib.hid ((D.out.far _ _ _ (by omega)).far _ _ _ (by omega)), Lib.hid ((HC.out.far _ _ _ (by omega)).far _ _ _ (by omega)), Lib.hid (Below.drew (below_set (below_set B.out gs ps _ (by omega)) (gd + 1) y _ (by omega)))⟩
              rw [HNO.out]
              exact (X.out.far gs ps _ (by omega)).set y ((ps : Int) + 1)
            case measure => simp [intOf]; omega
          · have hcz : c1 = 0 := by rw [← HC1.out]; unfold codeAt; rw [if_neg hp]
            subst hcz
            have HNO := Lib.hid (nowO_no ls i hil hp)
            have HSY := Lib.hid (symTo_no ls S i HY.out hp)
            clear hx hp hil
            go_wp2_with fail
            go_roundw
            case rel => exact ⟨i + 1, S, by omega, by go_num, by rw [HNO.out]; exact X, K, HSY, D, HC, B⟩
            case measure => simp [intOf]; omega
        · have hin : i = n := by omega
          have hnl : ¬ (i : Int) < n := by omega
          have hdl := D.out.last
          by_cases hm0 : m = 0
          · subst hm0
            go_wp2_with fail
            go_ret2
            exact ⟨B.out, .inl ⟨HM.out, rfl⟩⟩
          · have hm1 : ((m : Int) == 0) = false := by simp; omega
            have hm2 : ¬ (m : Int) = 0 := by omega
            go_wp2_with fail
            go_ret2
            refine ⟨B.out, .inr ⟨by rw [HM.out]; omega, gd, gs, hwgd, by omega, rfl, ⟨?_, S, K.out, ?_⟩⟩⟩
            · rw [HM.out]; exact D.out
            · rw [HL.out, ← hin]; exact HY.out
end Go.Proofs.Ytmdkinhbfndoeaa
