/-
  huff.Lengths of weights that rise already (2 to 19 of them above 0), most 15.
-/
import Derived.Test.YtmdkinhbfndoeaaHuffCount
namespace Go.Proofs.Ytmdkinhbfndoeaa
open Go.RowKit

/-- The items of the first i weights. -/
def itemsN (xs : List Int) : Nat → List (Int × Int)
  | 0 => []
  | i + 1 => if 0 < xs.getD i 0 then itemsN xs i ++ [(xs.getD i 0, (i : Int))] else itemsN xs i
def flatI : List (Int × Int) → List Value
  | [] => []
  | m :: ms => .int .i64 m.1 :: .int .i64 m.2 :: flatI ms
theorem flatI_append (xs ys : List (Int × Int)) : flatI (xs ++ ys) = flatI xs ++ flatI ys := by
  induction xs with
  | nil => rfl
  | cons x xs ih => simp [flatI, ih]
theorem flatI_get (ms : List (Int × Int)) (i : Nat) (h : i < ms.length) : (flatI ms)[i * 2]? = some (.int .i64 (ms.getD i (0, 0)).1) ∧ (flatI ms)[i * 2 + 1]? = some (.int .i64 (ms.getD i (0, 0)).2) := by
  induction ms generalizing i with
  | nil => simp at h
  | cons d ds ih =>
    cases i with
    | zero => simp [flatI]
    | succ i =>
      have := ih i (by simpa using h)
      rw [show (i + 1) * 2 = i * 2 + 2 by omega, List.getD_cons_succ]
      simpa [flatI] using this
theorem itemsN_len (xs : List Int) : ∀ i, (itemsN xs i).length ≤ i
  | 0 => by simp [itemsN]
  | i + 1 => by
    have := itemsN_len xs i
    unfold itemsN
    split
    · simp; omega
    · omega
theorem itemsN_le (xs : List Int) : ∀ i k, (itemsN xs i).length ≤ (itemsN xs (i + k)).length
  | i, 0 => Nat.le_refl _
  | i, k + 1 => by
    have := itemsN_le xs i k
    rw [show i + (k + 1) = (i + k) + 1 from rfl]
    rw [itemsN]
    split
    · simp; omega
    · exact this
theorem itemsN_mem (xs : List Int) (B : Int) (hb : ∀ x ∈ xs, 0 ≤ x ∧ x ≤ B) : ∀ i, i ≤ xs.length → ∀ p ∈ itemsN xs i, (0 ≤ p.1 ∧ p.1 ≤ B) ∧ 0 ≤ p.2 ∧ p.2 < (i : Int)
  | 0, _ => by simp [itemsN]
  | i + 1, h => by
    intro p hp
    have ih := itemsN_mem xs B hb i (by omega) p
    have hx := hb (xs.getD i 0) (by simp [List.getD, show i < xs.length by omega])
    unfold itemsN at hp
    split at hp
    · simp only [List.mem_append, List.mem_singleton] at hp
      rcases hp with hp | rfl
      · have := ih hp; omega
      · simp only; omega
    · have := ih hp; omega
theorem items_addr {w : World} {base T : Nat} {a : Option Addr} {n cap : Nat} {ms : List (Int × Int)} (h : w.ownsRow base T 2 (.slice a n cap) n (flatI ms)) (hl : ms.length = n) (hn : 0 < n) : ∃ g, a = some ⟨g, 0, Option.none⟩ ∧ base ≤ g ∧ ItemsAt w g n ms ∧ n ≤ cap ∧ cap ≤ maxLen := by
  rcases id h.2 with ⟨e1, h0⟩ | ⟨g, c', cur, e1, hb, hh, hc, hm, _⟩
  · omega
  · obtain ⟨rfl, rfl⟩ : a = some ⟨g, 0, Option.none⟩ ∧ cap = c' := by simpa using e1
    refine ⟨g, rfl, hb, ⟨hl, (h.lt g rfl).2, fun j hj => ?_, fun j hj => ?_⟩, hc, hm⟩
    · have := h.cells (g := g) rfl _ _ (flatI_get ms j (by omega)).1
      simpa [Addr.add_lit] using this
    · have := h.cells (g := g) rfl _ _ (flatI_get ms j (by omega)).2
      simpa [Addr.add_lit] using this
theorem kbox_of_owns {w : World} {base T g n : Nat} {xs : List Int} (h : w.ownsRow base T 1 (.slice (some ⟨g, 0, Option.none⟩) n n) n (xs.map (Value.int .i64))) (hn : 0 < n) : KBox .i64 w g T xs ∧ base ≤ g := by
  rcases id h.2 with ⟨e1, h0⟩ | ⟨g', c', cur, e1, hb, hh, hc, hm, hs, ht⟩
  · omega
  · obtain ⟨rfl, rfl⟩ : g = g' ∧ n = c' := by simpa using e1
    refine ⟨?_, hb⟩
    have e : cur = (xs.map (Value.int .i64)).toArray := by
      rw [← ht, List.take_of_length_le (by rw [Array.length_toList, hs]; exact Nat.le_refl _)]
    unfold KBox
    rw [hh, e]
theorem infoItem : (Try.prog.info? 68).map (fun i => (i.zero, i.size, i.bytes)) = some (some (.agg #[.int .i64 0, .int .i64 0]), 2, 16) := by kernel_rfl
theorem infoInt : (Try.prog.info? 3).map (fun i => (i.zero, i.size, i.bytes)) = some (some (.int .i64 0), 1, 8) := by kernel_rfl

set_option maxRecDepth 100000 in
set_option maxHeartbeats 4000000 in
theorem lengths_rise (a : Option Addr) (m cap : Nat) (xs : List Int) (w : World) (hr : Reads .i64 w a m cap xs) (hm : m ≤ 300) (hm1 : 1 ≤ m) (hb : ∀ x ∈ xs, 0 ≤ x ∧ x ≤ 1073741824)
    (hn : (itemsN xs m).length < 20) (hn2 : 2 ≤ (itemsN xs m).length) (hrise : risesI (itemsN xs m)) (hok : countOk (itemsN xs m) 15 (2 * (itemsN xs m).length - 2) = true) :
    Calls Try.prog 13 #[.slice a m cap, .int .i64 15] w fun e w' =>
      ∃ gl, e = .returned (.tuple #[.slice (some ⟨gl, 0, Option.none⟩) m m, .int .i64 0]) ∧ KBox .i64 w' gl 3 (countP (itemsN xs m) 15 (2 * (itemsN xs m).length - 2) (List.replicate m 0)) ∧ w.heap.size ≤ gl ∧ Below w.heap.size w w' := by
  obtain ⟨i0, hi, hz0, hz1, hz2⟩ := info_parts infoItem
  have Hi := Lib.hid hi; have Hz0 := Lib.hid hz0; have Hz1 := Lib.hid hz1; have Hz2 := Lib.hid hz2
  obtain ⟨i1, ki, kz0, kz1, kz2⟩ := info_parts infoInt
  have Ki := Lib.hid ki; have Kz0 := Lib.hid kz0; have Kz1 := Lib.hid kz1; have Kz2 := Lib.hid kz2
  have HR := Lib.hid hr; have HL := Lib.hid hr.len; have HB := Lib.hid hb; have HRI := Lib.hid hrise; have HOK := Lib.hid hok; have HN := Lib.hid hn; have HN2 := Lib.hid hn2
  have hm0 : ¬ (m : Int) = 0 := by omega
  have hm3 : ¬ (300 : Int) < m := by omega
  clear hi hz0 hz1 hz2 ki kz0 kz1 kz2 hr hb hrise hok hn hn2
  go_enter Try.func13, Try.ntmps13
  go_wp2_with fail
  go_loopw [6, 28] (fun vi vk wr => ∃ (i : Nat) (ai : Option Addr) (ci : Nat), i ≤ m ∧ vk = .int .i64 i ∧ vi = .slice ai (itemsN xs i).length ci ∧ wr.ownsRow w.heap.size 68 2 (.slice ai (itemsN xs i).length ci) (itemsN xs i).length (flatI (itemsN xs i)) ∧ Hid (Below w.heap.size w wr)) (fun _ vk _ => m - (intOf vk).toNat)
  case atStart => exact ⟨0, Option.none, 0, Nat.zero_le _, rfl, rfl, World.ownsRow_nil _ _ _ _, Lib.hid (Below.refl _ _)⟩
  case round =>
    obtain ⟨i, ai, ci, hi, rfl, rfl, own, HW⟩ := hrel
    have HO := Lib.hid own
    clear own
    by_cases hlt : i < m
    · obtain ⟨b, off, rfl, hc⟩ := (HR.out.below HW.out).cellAt i hlt
      have hx := HB.out (xs.getD i 0) (by simp [List.getD, show i < xs.length by rw [HL.out]; exact hlt])
      have hle := itemsN_le xs i (m - i)
      rw [show i + (m - i) = m by omega] at hle
      have hlen : (itemsN xs i).length < 20 := Nat.lt_of_le_of_lt hle HN.out
      have HE := Lib.hid (show itemsN xs (i + 1) = if 0 < xs.getD i 0 then itemsN xs i ++ [(xs.getD i 0, (i : Int))] else itemsN xs i from rfl)
      generalize itemsN xs i = its at *
      generalize xs.getD i 0 = x at *
      have hlt' : (i : Int) < m := by omega
      have hneg : ¬ x < 0 := by omega
      have hbig : ¬ (1073741824 : Int) < x := by omega
      by_cases hx0 : 0 < x
      · rw [if_pos hx0] at HE
        go_wp2_with (at_builtin; go_loud (refine wpList_append_any _ rfl _ _ 66 rfl w.heap.size 68 i0 _ 2 16 Try.underlying66 Hi.out Hz0.out Hz1.out Hz2.out rfl (by decide) ai its.length ci (flatI its) rfl (World.ownsRow.alloc HO.out _) _ 1 1 _ rfl rfl (cells_alloc2 _ _ _ _ _) (by simp [Value.oneCell']) (by decide) (by unfold maxLen; omega) (by omega) (by have := HW.out.size; simp; omega) ?_); intro a2 c2 w5 r5 g5 f5)
        have B5 := (HW.out.alloc HW.out.size (.cells #[.int .i64 x, .int .i64 i] 68)).grown g5 (by have := HW.out.size; simp; omega) (fun k hk => (HO.out.lt k hk).1)
        have e1 : (itemsN xs (i + 1)).length = its.length + 1 := by rw [HE.out]; simp
        refine ⟨⟨i + 1, a2, c2, by omega, by go_num, by rw [e1], ?_, Lib.hid B5⟩, ?_⟩
        · rw [e1, HE.out, flatI_append]; exact r5
        · simp [intOf]; omega
      · rw [if_neg hx0] at HE
        go_wp2_with fail
        refine ⟨⟨i + 1, ai, ci, by omega, by go_num, by rw [HE.out], by rw [HE.out]; exact HO.out, HW⟩, ?_⟩
        simp [intOf]; omega
    · obtain rfl : i = m := by omega
      have hlt' : ¬ (i : Int) < i := by omega
      have hle := itemsN_len xs i
      have hmem := itemsN_mem xs 1073741824 HB.out i (by rw [HL.out]; exact Nat.le_refl _)
      have HMEM := Lib.hid hmem
      clear hmem
      generalize hits : itemsN xs i = its at *
      have HITS := Lib.hid hits
      clear hits
      obtain ⟨gi, rfl, hgi, I, hc1, hc2⟩ := items_addr HO.out rfl (by have := HN2.out; omega)
      have hn1 := HN.out
      have hn2 := HN2.out
      have h15 : ¬ (32768 : Int) < its.length := by omega
      have h1 : ¬ (its.length : Int) = 1 := by omega
      have h11 : (1 : Int) < its.length := by omega
      have HI := Lib.hid I
      clear I HO
      go_wp2_with fail
      refine (sort_sorted gi its.length ci its wr HI.out HRI.out hn1 (by omega)).mono ?_; rintro e w2 ⟨⟨v, rfl⟩, b2⟩
      replace HI := Lib.hid (HI.out.below b2)
      replace HW := Lib.hid (below_size HW.out b2)
      have hgiw := HW.out.size
      have hgi3 := HI.out.lt
      clear b2
      go_wp2_with (at_make; go_loud (refine wpList_make_full _ rfl _ _ 22 rfl w2.heap.size 3 i1 _ 1 Try.underlying22 Ki.out Kz0.out Kz1.out _ _ _ _ i rfl rfl (by first | rfl | omega) (by first | rfl | omega) (by rw [Kz2.out]; omega) (by unfold maxLen; omega) (Nat.le_refl _) ?_); intro w3 o3 g3)
      have b3 : Below w2.heap.size w2 w3 := (Below.refl _ _).grown g3 (Nat.le_refl _) (fun k h => nomatch h)
      have hz : (Value.int .i64 0).cells = #[Value.int .i64 0] := rfl
      rw [hz, Nat.mul_one, toList_made] at o3
      obtain ⟨K3, _⟩ := kbox_of_owns o3 (by omega)
      have hsz := K3.lt
      replace HI := Lib.hid (HI.out.below b3)
      replace HW := Lib.hid (below_size HW.out b3)
      have HK := Lib.hid K3
      have hgl := hgiw
      have hgi2 : gi < w2.heap.size := hgi3
      clear b3 o3 g3 hz K3
      generalize w2.heap.size = gl at *
      go_wp2_with fail
      have HLI := lists_any gi its.length ci its 15 w3 HI.out (by omega) (by omega) ⟨hc1, hc2⟩ (by omega) (fun x hx => (HMEM.out x hx).1)
      refine HLI.mono ?_; rintro e w4 ⟨a4, c4, vs, rfl, o4, hv4, b4⟩
      replace HI := Lib.hid (HI.out.below b4); replace HW := Lib.hid (below_size HW.out b4); replace HK := Lib.hid (HK.out.below b4)
      have hB4 : w.heap.size ≤ w3.heap.size := Nat.le_trans hgl (Nat.le_of_lt hsz)
      clear HLI b4
      go_wp2_with fail
      refine (count_any gl i i (List.replicate i 0) gi its.length ci its a4 15 c4 vs w3.heap.size w4 HK.out List.length_replicate HI.out (by omega) (by omega) (by omega) ⟨hc1, hc2⟩ ⟨Nat.le_refl _, by unfold maxLen; omega⟩ (by omega) o4 hv4 hsz (fun x hx => (HMEM.out x hx).2) HOK.out).mono ?_
      rintro e w5 ⟨⟨v5, rfl⟩, K5, g5⟩
      have B5 : Below w.heap.size w w5 := HW.out.grown g5 HW.out.size (fun k hk => by simp at hk; omega)
      clear o4 hv4 g5
      have HK5 := Lib.hid K5
      clear K5
      go_wp2_with fail
      go_ret2
      rw [HITS.out]
      exact ⟨gl, rfl, HK5.out, hgl, B5⟩
end Go.Proofs.Ytmdkinhbfndoeaa
