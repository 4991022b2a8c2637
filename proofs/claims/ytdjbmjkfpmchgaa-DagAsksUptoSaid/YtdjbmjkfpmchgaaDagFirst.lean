/-
  The statements' first: the chapter's example.
-/
import Derived.Test.YtdjbmjkfpmchgaaDagFew
namespace Go.Proofs.Ytdjbmjkfpmchgaa
open Go.RowKit Go.Maps

def kA : ByteArray := ⟨#[65]⟩
def kB : ByteArray := ⟨#[66]⟩
def kC : ByteArray := ⟨#[67]⟩
def ns0 : List Nd := [⟨kC, [kA], 2⟩, ⟨kA, [], 1⟩, ⟨kB, [kA], 2⟩]
theorem keys0 : keysOf ns0 = [kC, kA, kB] := rfl
theorem ps0C : psOf ns0 kC = [kA] := by decide +kernel
theorem ps0A : psOf ns0 kA = [] := by decide +kernel
theorem ps0B : psOf ns0 kB = [kA] := by decide +kernel
theorem st0A : stOf ns0 kA = 1 := by decide +kernel
theorem good0 : Good ns0 where
  few := by decide
  nodup := by rw [keys0]; decide +kernel
  there := fun n hn p hp => by
    simp only [ns0, List.mem_cons, List.mem_nil_iff, or_false] at hn
    rcases hn with rfl | rfl | rfl <;> simp at hp <;> (subst hp; rw [keys0]; simp)
  above := fun n hn p hp => by
    simp only [ns0, List.mem_cons, List.mem_nil_iff, or_false] at hn
    rcases hn with rfl | rfl | rfl <;> simp at hp <;> (subst hp; rw [st0A]; decide)
theorem new0 {c : Int} (h : NewIs ns0 c) : c = 0 := by
  rcases h with ⟨h, _⟩ | ⟨_, h, _⟩ | ⟨_, _, h, _⟩ | ⟨_, _, _, h, _⟩ | ⟨_, h⟩
  · exact absurd h (by decide)
  · exact absurd good0.nodup h
  · exact absurd good0.there h
  · exact absurd good0.above h
  · exact h
theorem reach0 {k : ByteArray} (hk : psOf ns0 k = [kA]) {y : ByteArray} (h : Reach ns0 k y) : y = k ∨ y = kA := by
  induction h with
  | refl => exact .inl rfl
  | step _ hx ih =>
    rcases ih with e | e
    · rw [e, hk] at hx; exact .inr (List.mem_singleton.1 hx)
    · rw [e, ps0A] at hx; cases hx
theorem reachA {y : ByteArray} (h : Reach ns0 kA y) : y = kA := by
  induction h with
  | refl => rfl
  | step _ hx ih => rw [ih, ps0A] at hx; cases hx
theorem ne0 : kA ≠ kB ∧ kA ≠ kC ∧ kB ≠ kC := by decide +kernel
theorem mem0 : kA ∈ keysOf ns0 ∧ kB ∈ keysOf ns0 ∧ kC ∈ keysOf ns0 := by rw [keys0]; simp
theorem base0BC : IsBase ns0 kB kC kA :=
  ⟨⟨⟨mem0.2.1, .step .refl (by rw [ps0B]; simp)⟩, ⟨mem0.2.2, .step .refl (by rw [ps0C]; simp)⟩⟩, fun y hy => by
    rcases reach0 ps0B hy.1.2 with e | e
    · rcases reach0 ps0C hy.2.2 with e2 | e2
      · exact absurd (e.symm.trans e2) ne0.2.2
      · exact .inl e2
    · exact .inl e⟩
theorem base0AC : IsBase ns0 kA kC kA := isBase_elder good0 mem0.1 mem0.2.2 (.step .refl (by rw [ps0C]; simp))
theorem baseIs0 {a b x : ByteArray} {c : Int} (h : IsBase ns0 a b kA) (h2 : BaseIs ns0 a b x c) : x = kA ∧ c = 0 :=
  BaseIs.uniq h2 (.inr (.inr ⟨⟨h.both.1.1, h.both.2.1⟩, h, rfl⟩))
theorem keyable0 : Keyable ns0 := fun n hn => by
  simp only [ns0, List.mem_cons, List.mem_nil_iff, or_false] at hn
  rcases hn with rfl | rfl | rfl
  · exact ⟨by decide, by decide, fun p hp => by rw [List.mem_singleton] at hp; subst hp; decide⟩
  · exact ⟨by decide, by decide, fun p hp => nomatch hp⟩
  · exact ⟨by decide, by decide, fun p hp => by rw [List.mem_singleton] at hp; subst hp; decide⟩

theorem lies0 (w : World) (a1 a2 : Option Addr) (c1 c2 : Nat) (h1 : Strs w a1 1 c1 [kA]) (h2 : Strs w a2 1 c2 [kA]) (T : TypeId) :
    NdL (w.alloc (.cells #[.string kC, .slice a1 1 c1, .int .i64 2, .string kA, .slice Option.none 0 0, .int .i64 1, .string kB, .slice a2 1 c2, .int .i64 2] T)) (some ⟨w.heap.size, 0, Option.none⟩) 3 3 ns0 := by
  have hb := (Below.refl w.heap.size w).alloc (Nat.le_refl _) (.cells #[.string kC, .slice a1 1 c1, .int .i64 2, .string kA, .slice Option.none 0 0, .int .i64 1, .string kB, .slice a2 1 c2, .int .i64 2] T)
  have hc := fun (i : Nat) (v : Value) => cell_alloc w #[.string kC, .slice a1 1 c1, .int .i64 2, .string kA, .slice Option.none 0 0, .int .i64 1, .string kB, .slice a2 1 c2, .int .i64 2] T (0, 0) i v
  have hs : w.heap.size < (w.alloc (.cells #[.string kC, .slice a1 1 c1, .int .i64 2, .string kA, .slice Option.none 0 0, .int .i64 1, .string kB, .slice a2 1 c2, .int .i64 2] T)).heap.size := by simp
  replace h1 := h1.below hb
  replace h2 := h2.below hb
  clear hb
  generalize w.alloc (.cells #[.string kC, .slice a1 1 c1, .int .i64 2, .string kA, .slice Option.none 0 0, .int .i64 1, .string kB, .slice a2 1 c2, .int .i64 2] T) = w1 at *
  refine ⟨rfl, Nat.le_refl _, by decide, (fun h => nomatch h), fun _ => ⟨w.heap.size, 0, rfl, hs, fun j hj => ?_⟩⟩
  match j, hj with
  | 0, _ => exact ⟨a1, c1, hc 0 _ rfl, hc 1 _ rfl, hc 2 _ rfl, h1⟩
  | 1, _ => exact ⟨Option.none, 0, hc 3 _ rfl, hc 4 _ rfl, hc 5 _ rfl, ReadsA.none _ _ _⟩
  | 2, _ => exact ⟨a2, c2, hc 6 _ rfl, hc 7 _ rfl, hc 8 _ rfl, h2⟩

set_option maxRecDepth 100000 in
set_option maxHeartbeats 4000000 in
theorem first_any (w : World) : Calls Try.prog 7 #[] w fun e w' => e = .returned (.bool true) ∧ Below w.heap.size w w' := by
  go_enter Try.func7, Try.ntmps7
  go_wp2_with fail
  have b1 := (Below.refl w.heap.size w).alloc (Nat.le_refl _) (.cells #[.string kA] 9)
  have s1 : Strs (w.alloc (.cells #[.string kA] 9)) (some ⟨w.heap.size, 0, Option.none⟩) 1 1 [kA] := readsA_alloc ByteArray.empty w [kA] #[.string kA] _ _ rfl (show 1 ≤ maxLen by decide) 1 rfl
  have hz : (w.alloc (.cells #[.string kA] 9)).heap.size = w.heap.size + 1 := by simp
  change Calls _ _ _ (((w.alloc (.cells #[.string kA] 9)).alloc (.cells #[.string kA] 9)).alloc (.cells #[.string kC, .slice (some ⟨w.heap.size, 0, Option.none⟩) 1 1, .int .i64 2, .string kA, .slice Option.none 0 0, .int .i64 1, .string kB, .slice (some ⟨w.heap.size + 1, 0, Option.none⟩) 1 1, .int .i64 2] 44)) _
  rw [← hz]
  generalize w.alloc (.cells #[.string kA] 9) = w1 at *
  have b2 := (Below.refl w1.heap.size w1).alloc (Nat.le_refl _) (.cells #[.string kA] 9)
  have s2 : Strs (w1.alloc (.cells #[.string kA] 9)) (some ⟨w1.heap.size, 0, Option.none⟩) 1 1 [kA] := readsA_alloc ByteArray.empty w1 [kA] #[.string kA] _ _ rfl (show 1 ≤ maxLen by decide) 1 rfl
  have hz2 : (w1.alloc (.cells #[.string kA] 9)).heap.size = w1.heap.size + 1 := by simp
  rw [← hz2]
  replace s1 := s1.below b2
  replace b1 := below_size b1 b2
  generalize w1.alloc (.cells #[.string kA] 9) = w2 at *
  generalize w1.heap.size = g1 at *
  have L0 := lies0 w2 (some ⟨w.heap.size, 0, Option.none⟩) (some ⟨g1, 0, Option.none⟩) 1 1 s1 s2 44
  have b3 := below_size b1 ((Below.refl w2.heap.size w2).alloc (Nat.le_refl _) (.cells #[.string kC, .slice (some ⟨w.heap.size, 0, Option.none⟩) 1 1, .int .i64 2, .string kA, .slice Option.none 0 0, .int .i64 1, .string kB, .slice (some ⟨g1, 0, Option.none⟩) 1 1, .int .i64 2] 44))
  generalize w2.alloc (.cells #[.string kC, .slice (some ⟨w.heap.size, 0, Option.none⟩) 1 1, .int .i64 2, .string kA, .slice Option.none 0 0, .int .i64 1, .string kB, .slice (some ⟨g1, 0, Option.none⟩) 1 1, .int .i64 2] 44) = w3 at *
  have B3 := Lib.hid b3
  clear s1 s2 b1 b2 b3 hz hz2
  refine (new_any _ 3 3 ns0 w3 L0 keyable0).mono ?_
  rintro e w4 ⟨v, c, rfl, hn, _, hv, b4⟩
  obtain rfl := new0 hn
  obtain ⟨g, gm, M, rfl, gr⟩ := hv rfl
  have GR := Lib.hid gr
  have B4 := Lib.hid (below_size B3.out b4)
  clear hn hv gr b4 L0 B3
  go_wp2_with fail
  refine (base_any g gm M ns0 kB kC _ GR.out good0 keyable0 (by decide) (by decide)).mono ?_
  rintro e w5 ⟨x, c, rfl, hb, b5⟩
  obtain ⟨rfl, rfl⟩ := baseIs0 base0BC hb
  replace GR := Lib.hid (GR.out.below b5); replace B4 := Lib.hid (below_size B4.out b5)
  clear hb b5
  go_wp2_with fail
  refine (base_any g gm M ns0 kA kC _ GR.out good0 keyable0 (by decide) (by decide)).mono ?_
  rintro e w6 ⟨x, c, rfl, hb, b6⟩
  obtain ⟨rfl, rfl⟩ := baseIs0 base0AC hb
  replace B4 := Lib.hid (below_size B4.out b6)
  clear hb b6
  have hA : kA.toList = [65] := by rw [ByteArray.toList_eq]; rfl
  go_wp2_with fail
  go_ret
  exact ⟨rfl, B4.out⟩
end Go.Proofs.Ytdjbmjkfpmchgaa
