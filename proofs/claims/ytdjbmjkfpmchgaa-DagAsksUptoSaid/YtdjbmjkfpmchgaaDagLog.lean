/-
  dag's Log.
-/
import Derived.Test.YtdjbmjkfpmchgaaDagIs
import Derived.Test.YtdjbmjkfpmchgaaDagShelf2
import Derived.Laws.Cover1
namespace Go.Proofs.Ytdjbmjkfpmchgaa
open Go.RowKit Go.Maps
open Go.Sort (grow putRow mapBlock SWO)

/-- cmp.Compare of texts. -/
def cmpB (a b : ByteArray) : Int := if ltB a b then -1 else if ltB b a then 1 else 0
set_option maxHeartbeats 1000000 in
theorem cmpB_any (a b : ByteArray) (w : World) : Calls Try.prog 34 #[.string a, .string b] w fun e w' => e = .returned (.int .i64 (cmpB a b)) ∧ w' = w := by
  cases h : ltB a b with
  | true =>
    have h1 : Op.bytesLess a.toList b.toList = true := h
    have e : cmpB a b = -1 := by rw [cmpB, h]; rfl
    rw [e]
    clear h e
    go_enter Try.func34, Try.ntmps34
    go_wp2
    go_ret
    exact ⟨rfl, rfl⟩
  | false =>
    have h1 : Op.bytesLess a.toList b.toList = false := h
    cases h' : ltB b a with
    | true =>
      have h3 : (a.toList == b.toList) = false := str_ne (ltB_ne h').symm
      have e : cmpB a b = 1 := by rw [cmpB, h, h']; rfl
      rw [e]
      clear h e h'
      go_enter Try.func34, Try.ntmps34
      go_wp2
      go_ret
      exact ⟨rfl, rfl⟩
    | false =>
      have e : cmpB a b = 0 := by rw [cmpB, h, h']; rfl
      rw [e]
      obtain rfl := ltB_tri h h'
      have h3 : (a.toList == a.toList) = true := str_eq a
      clear h e h'
      go_enter Try.func34, Try.ntmps34
      go_wp2
      go_ret
      exact ⟨rfl, rfl⟩

def cfN (ns : List Nd) (x y : ByteArray) : Int := if Lib.compareInt (stOf ns y) (stOf ns x) ≠ 0 then Lib.compareInt (stOf ns y) (stOf ns x) else cmpB x y
theorem cfN_lt (ns : List Nd) (x y : ByteArray) : cfN ns x y < 0 ↔ newer ns x y := by
  unfold cfN newer Lib.compareInt cmpB
  rcases Int.lt_trichotomy (stOf ns y) (stOf ns x) with h | h | h
  · rw [if_pos h]; simp [h]
  · rw [h]
    simp
    by_cases h1 : ltB x y = true
    · simp [h1]
    · simp [h1]; split <;> simp
  · have h1 : ¬ stOf ns y < stOf ns x := by omega
    rw [if_neg h1, if_pos h]
    simp
    omega

theorem Gr.drewN {w : World} {g gm : Nat} {M : ByteArray → Option Value} {ns : List Nd} (h : Gr w g gm M ns) (q : Nat) : Gr (w.drewN q) g gm M ns :=
  ⟨h.cell, h.lt, h.map.drewN q, fun k => ⟨(h.nd k).1, fun hk => by
    obtain ⟨a, cap, e, s⟩ := (h.nd k).2 hk
    exact ⟨a, cap, e, s.drewN q⟩⟩⟩

set_option maxHeartbeats 2000000 in
theorem log1_any (bx g gm : Nat) (M : ByteArray → Option Value) (ns : List Nd) (a b : ByteArray) (w : World) (hg : Gr w g gm M ns) (hbx : w.cell? ⟨bx, 0, Option.none⟩ = some (gp g)) (ha : a.size ≤ maxLen) (hb : b.size ≤ maxLen) :
    Calls Try.prog 32 #[.string a, .string b, .pointer (some ⟨bx, 0, Option.none⟩)] w fun e w' => e = .returned (.int .i64 (cfN ns a b)) ∧ ∃ q, w' = w.drewN q := by
  obtain ⟨ka, aa, ca, hla, _⟩ := hg.look a ha
  obtain ⟨kb, ab, cb, hlb, _⟩ := hg.look b hb
  have hfa := field2 ka aa (psOf ns a).length ca (stOf ns a)
  have hfb := field2 kb ab (psOf ns b).length cb (stOf ns b)
  have gc : ∀ q, (w.drewN q).cell? ⟨g, 0, Option.none⟩ = some (.map (some gm)) := fun q => hg.cell
  have bc : ∀ q, (w.drewN q).cell? ⟨bx, 0, Option.none⟩ = some (.pointer (some ⟨g, 0, Option.none⟩)) := fun q => hbx
  generalize hsa : stOf ns a = sa at *
  generalize hsb : stOf ns b = sb at *
  have hcf : cfN ns a b = if Lib.compareInt sb sa ≠ 0 then Lib.compareInt sb sa else cmpB a b := by rw [cfN, hsa, hsb]
  rw [hcf]
  clear hcf hsa hsb hg hbx
  by_cases hz : Lib.compareInt sb sa = 0
  · have hz' : ¬ (Lib.compareInt sb sa ≠ 0) := fun h => h hz
    rw [if_neg hz']
    have HZ := Lib.hid hz
    clear hz hz'
    go_enter Try.func32, Try.ntmps32
    go_wp2_with fail
    go_quiet ((go_at_call 33; exact Calls.quiet_of_same (Try.cmp_Compare_int _ _ _)))
    rw [HZ.out]
    go_wp2_with fail
    refine (cmpB_any a b _).mono ?_; rintro e w2 ⟨rfl, rfl⟩
    go_wp2_with fail
    go_ret
    exact ⟨rfl, nq, rfl⟩
  · rw [if_pos hz]
    have CC := fun w => Try.cmp_Compare_int sb sa w
    generalize Lib.compareInt sb sa = c at *
    go_enter Try.func32, Try.ntmps32
    go_wp2_with fail
    go_quiet ((go_at_call 33; exact Calls.quiet_of_same (CC _)))
    go_wp2_with fail
    go_ret
    exact ⟨rfl, nq, rfl⟩

/-- Texts short enough for a key. -/
abbrev KS := { s : ByteArray // s.size ≤ maxLen }
instance : Inhabited KS := ⟨⟨ByteArray.empty, by decide⟩⟩
abbrev encK (s : KS) : Value := .string s.1
def cfK (ns : List Nd) (x y : KS) : Int := cfN ns x.1 y.1
theorem ltK (ns : List Nd) (x y : KS) : Go.Proofs.ltOf (cfK ns) x y = true ↔ newer ns x.1 y.1 := by
  unfold Go.Proofs.ltOf cfK
  rw [decide_eq_true_eq, cfN_lt]
theorem newer_trans {ns : List Nd} {x y z : ByteArray} (h1 : newer ns x y) (h2 : newer ns y z) : newer ns x z := by
  unfold newer at *
  rcases h1 with h1 | ⟨h1, h1'⟩ <;> rcases h2 with h2 | ⟨h2, h2'⟩
  · exact .inl (by omega)
  · exact .inl (by omega)
  · exact .inl (by omega)
  · exact .inr ⟨by omega, ltB_trans h1' h2'⟩
theorem ltK_f (ns : List Nd) (x y : KS) : Go.Proofs.ltOf (cfK ns) x y = false ↔ ¬ newer ns x.1 y.1 := by
  rw [← ltK, Bool.not_eq_true]
theorem newer_ntrans {ns : List Nd} {x y z : ByteArray} (h1 : ¬ newer ns x y) (h2 : ¬ newer ns y z) : ¬ newer ns x z := by
  intro h
  rcases newer_tri ns x y with h3 | rfl | h3
  · exact h1 h3
  · exact h2 h
  · exact h2 (newer_trans h3 h)
theorem swoK (ns : List Nd) : SWO (Go.Proofs.ltOf (cfK ns)) where
  irrefl x := (ltK_f ns x x).2 (newer_irr ns _)
  trans x y z h1 h2 := (ltK ns x z).2 (newer_trans ((ltK ns x y).1 h1) ((ltK ns y z).1 h2))
  ntrans x y z h1 h2 := (ltK_f ns x z).2 (newer_ntrans ((ltK_f ns x y).1 h1) ((ltK_f ns y z).1 h2))
theorem totK (ns : List Nd) (x y : KS) (h1 : Go.Proofs.ltOf (cfK ns) x y = false) (h2 : Go.Proofs.ltOf (cfK ns) y x = false) : x = y := by
  rw [ltK_f] at h1 h2
  rcases newer_tri ns x.1 y.1 with h | h | h
  · exact absurd h h1
  · exact Subtype.ext h
  · exact absurd h h2
/-- The log, as the sort leaves it. -/
def logK (ns : List Nd) (ks : List KS) : List KS := ks.mergeSort fun x y => !(Go.Proofs.ltOf (cfK ns)) y x
theorem logK_perm (ns : List Nd) (ks : List KS) : (logK ns ks).Perm ks := List.mergeSort_perm _ _
theorem logK_falls (ns : List Nd) {ks : List KS} (h : ks.Nodup) : ((logK ns ks).map Subtype.val).Pairwise (newer ns) := by
  have hs := List.pairwise_mergeSort (le := fun (x y : KS) => !(Go.Proofs.ltOf (cfK ns)) y x) (fun a b c h1 h2 => by
    rw [Bool.not_eq_true'] at *
    exact (swoK ns).ntrans _ _ _ h2 h1) (fun a b => by
    cases h1 : Go.Proofs.ltOf (cfK ns) b a
    · rfl
    · have : ¬ newer ns a.1 b.1 := newer_asy ns _ _ ((ltK ns b a).1 h1)
      rw [(ltK_f ns a b).2 this]; rfl) ks
  have hn := ((logK_perm ns ks).nodup_iff).2 h
  rw [List.pairwise_map]
  refine List.Pairwise.imp ?_ (hs.and hn)
  rintro a b ⟨h1, h2⟩
  rw [Bool.not_eq_true', ltK_f] at h1
  rcases newer_tri ns a.1 b.1 with h3 | h3 | h3
  · exact h3
  · exact absurd (Subtype.ext h3) h2
  · exact absurd h3 h1
theorem logK_is {ns : List Nd} {k : ByteArray} {l : List ByteArray} (h : IsAnc ns k l) {ks : List KS} (hk : ks.map Subtype.val = l) : IsLog ns k ((logK ns ks).map Subtype.val) := by
  have hn : ks.Nodup := by
    have := rises_nodup h.rises
    rw [← hk] at this
    unfold List.Nodup at this
    rw [List.pairwise_map] at this
    exact this.imp fun {a b} h e => h (by rw [e])
  refine ⟨logK_falls ns hn, fun x => ?_⟩
  rw [← h.mem x, ← hk]
  simp only [List.mem_map]
  constructor
  · rintro ⟨a, ha, e⟩; exact ⟨a, (logK_perm ns ks).mem_iff.1 ha, e⟩
  · rintro ⟨a, ha, e⟩; exact ⟨a, (logK_perm ns ks).mem_iff.2 ha, e⟩
theorem lift_keys : ∀ (l : List ByteArray), (∀ x ∈ l, x.size ≤ maxLen) → ∃ ks : List KS, ks.map Subtype.val = l
  | [], _ => ⟨[], rfl⟩
  | x :: l, h => by
    obtain ⟨ks, e⟩ := lift_keys l (fun y hy => h y (List.mem_cons_of_mem _ hy))
    exact ⟨⟨x, h x (by simp)⟩ :: ks, by rw [List.map_cons, e]⟩
end Go.Proofs.Ytdjbmjkfpmchgaa
