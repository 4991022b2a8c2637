/-
  dag's Log: the walk.
-/
import Derived.Test.YtdjbmjkfpmchgaaDagLog
namespace Go.Proofs.Ytdjbmjkfpmchgaa
open Go.RowKit Go.Maps
open Go.Sort (grow putRow mapBlock)

theorem sortFunc_own (bx g gm : Nat) (M : ByteArray → Option Value) (ns : List Nd) (base gg n cap : Nat) (l : List ByteArray) (w0 w : World) (hg : Gr w0 g gm M ns) (hbx : w0.cell? ⟨bx, 0, Option.none⟩ = some (gp g)) (hbl : bx < w0.heap.size)
    (hb : Below w0.heap.size w0 w) (hB : w0.heap.size ≤ base) (hB2 : base ≤ w.heap.size) (hK : ∀ x ∈ l, x.size ≤ maxLen) (hn : n ≤ 1000000) (k : ByteArray) (hl : IsAnc ns k l)
    (ho : w.ownsRow base 9 1 (.slice (some ⟨gg, 0, Option.none⟩) n cap) n (l.map Value.string)) :
    Calls Try.prog 31 #[.slice (some ⟨gg, 0, Option.none⟩) n cap, .func (.func 32) #[] #[.pointer (some ⟨bx, 0, Option.none⟩)]] w fun e w' =>
      e = .returned (.tuple #[]) ∧ ∃ m, IsLog ns k m ∧ m.length = n ∧ w'.ownsRow base 9 1 (.slice (some ⟨gg, 0, Option.none⟩) n cap) n (m.map Value.string) ∧ Below base w w' := by
  obtain ⟨ks, hks⟩ := lift_keys l hK
  have ho' : w.ownsRow base 9 1 (.slice (some ⟨gg, 0, Option.none⟩) n cap) n (ks.map encK) := by
    have : ks.map encK = l.map Value.string := by rw [← hks, List.map_map]; rfl
    rw [this]; exact ho
  obtain ⟨g', cap', e, hbg, hlt, hnc, hcm, hlen, hH⟩ := Lib.holds_of_ownsRow ho' (by intro h; cases h)
  injection e with e1 e2 e3
  injection e1 with e1
  injection e1 with e1
  subst e1; subst e3
  have hcmp : Go.Proofs.CmpLays1 Try.prog 32 #[.pointer (some ⟨bx, 0, Option.none⟩)] encK (cfK ns) gg 0 ks.toArray.size w := by
    intro m os dk _ x y
    have hs : w0.heap.size ≤ (putRow encK (Sort.ahead w m) gg 0 dk).heap.size := by have := hb.size; simpa [putRow, mapBlock, Sort.ahead] using this
    have hw : Below w0.heap.size w0 (Go.Proofs.sortWorld encK w gg 0 m dk os) := below_grow' (Lib.below_putRow (enc := encK) (q := m) (d := dk) hb (Nat.le_trans hB hbg)) hs os
    generalize Go.Proofs.sortWorld encK w gg 0 m dk os = x0 at *
    refine (log1_any bx g gm M ns x.1 y.1 x0 (hg.below hw) ((hw.cell (p := ⟨bx, 0, Option.none⟩) hbl).trans hbx) x.2 y.2).mono ?_
    rintro e w' ⟨rfl, q, rfl⟩
    exact ⟨rfl, q, #[], by simp⟩
  have C := Try.slices_SortFunc_total encK (fun _ => rfl) (cfK ns) (swoK ns) 32 #[.pointer (some ⟨bx, 0, Option.none⟩)] gg 0 cap ks.toArray w (enters_of Try.func32 (by kernel_rfl) rfl) hcmp hH hlt (by simp; omega) (totK ns)
  rw [List.size_toArray, hlen] at C
  refine C.mono ?_
  rintro e w' ⟨rfl, q, os, rfl⟩
  have hlog := logK_is hl hks
  have hy : (logK ns ks).length = n := by rw [(logK_perm ns ks).length_eq, hlen]
  change _ ∧ ∃ m, _ ∧ _ ∧ (grow (putRow encK (Sort.ahead w q) gg 0 (logK ns ks).toArray) os).ownsRow _ _ _ _ _ _ ∧ Below base w (grow (putRow encK (Sort.ahead w q) gg 0 (logK ns ks).toArray) os)
  have h2 := Lib.ownsRow_putRow (q := q) (k := n) ho' hy (Nat.le_refl n)
  have e4 : ((logK ns ks).take n).map encK = ((logK ns ks).map Subtype.val).map Value.string := by rw [← hy, List.take_length, List.map_map]; rfl
  rw [e4] at h2
  have hs : base ≤ (putRow encK (Sort.ahead w q) gg 0 (logK ns ks).toArray).heap.size := by simpa [putRow, mapBlock, Sort.ahead] using hB2
  have hbl := Lib.below_putRow (enc := encK) (q := q) (d := (logK ns ks).toArray) (Go.RowKit.Below.refl base w) hbg
  generalize putRow encK (Sort.ahead w q) gg 0 (logK ns ks).toArray = w1 at *
  exact ⟨rfl, _, hlog, by rw [List.length_map]; exact hy, h2.kept (grow_grown w1 os Option.none) (.inr (by simp [Value.ownBlock])), below_grow' hbl hs os⟩

set_option maxHeartbeats 2000000 in
theorem log_any (g gm : Nat) (M : ByteArray → Option Value) (ns : List Nd) (k : ByteArray) (w : World) (hg : Gr w g gm M ns) (G : Good ns) (hK : Keyable ns) (hk : k.size ≤ maxLen) :
    Calls Try.prog 21 #[gp g, .string k] w fun e w' => ∃ l, IsLog ns k l ∧ RetT w l e w' := by
  have GR := Lib.hid hg; have GD := Lib.hid G; have HK := Lib.hid hK
  clear hg G hK
  go_enter Try.func21, Try.ntmps21
  go_wp2_with fail
  have c0 := cell_alloc w #[gp g] 25 (0, 0) 0 (gp g) rfl
  have hb1 := (Below.refl w.heap.size w).alloc (Nat.le_refl _) (.cells #[gp g] 25)
  have hl1 : w.heap.size < (w.alloc (.cells #[gp g] 25)).heap.size := by simp
  generalize w.alloc (.cells #[gp g] 25) = w1 at *
  replace GR := Lib.hid (GR.out.below hb1)
  refine (anc_any g gm M ns k _ GR.out GD.out HK.out hk).mono ?_; rintro e w2 ⟨l, hl, aa, cap, rfl, ho, b2⟩
  have hle := hl.le GD.out
  have hfew := GD.out.few
  have hsz : ∀ x ∈ l, x.size ≤ maxLen := fun x hx => keys_small HK.out (((hl.mem x).1 hx).2.there GD.out ((hl.mem x).1 hx).1)
  go_wp2_with fail
  by_cases h0 : 0 < l.length
  · obtain ⟨gg, rfl, hgg⟩ := owns_addr ho h0
    refine (sortFunc_own w.heap.size g gm M ns w1.heap.size gg l.length cap l w1 w2 GR.out c0 hl1 b2 (Nat.le_refl _) b2.size hsz (by omega) k hl ho).mono ?_
    rintro e w3 ⟨rfl, m, hm, hlen, o3, b3⟩
    go_wp2_with fail
    go_ret
    rw [← hlen] at o3
    exact ⟨m, hm, _, cap, by rw [hlen]; rfl, owns_base o3 (Nat.le_of_lt hl1), hb1.trans ((b2.trans b3).mono (Nat.le_of_lt hl1))⟩
  · have h0' : l.length = 0 := by omega
    obtain rfl : l = [] := List.eq_nil_of_length_eq_zero h0'
    refine (Try.slices_SortFunc_none _ _ _ _).mono ?_
    rintro e w3 ⟨rfl, rfl⟩
    go_wp2_with fail
    go_ret
    exact ⟨[], ⟨List.Pairwise.nil, hl.mem⟩, _, cap, rfl, owns_base ho (Nat.le_of_lt hl1), hb1.trans (b2.mono (Nat.le_of_lt hl1))⟩
end Go.Proofs.Ytdjbmjkfpmchgaa
