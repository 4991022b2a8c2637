/-
  The statements' own first function of chapter 2: it answers true and changes nothing that was there.
-/
import Derived.Test.YtmajdgmbcgkelaaDoorWordS
import Derived.Test.YtmajdgmbcgkelaaDoorWordN
import Derived.Test.YtmajdgmbcgkelaaDoorTexts
namespace Go.Proofs.YtmajdgmbcgkelaaDoor
open Go.RowKit
open Go.Lib (decodeL validD encodeRune decodeL_width)

theorem owns_strs {w : World} {B : Nat} {a : Option Addr} {cap : Nat} {ws : List (List UInt8)} (h : w.ownsRow B 9 1 (.slice a ws.length cap) ws.length ((ws.map mkS).map Value.string)) : Strs w a ws.length cap (ws.map mkS) :=
  readsA_of_owns ByteArray.empty h

set_option maxRecDepth 100000 in
set_option maxHeartbeats 1000000 in
theorem first_any (w : World) (hT : Tabs w) :
    Calls Tryd.prog 10 #[] w fun e w' => e = .returned (.bool true) ∧ Below w.heap.size w w' := by
  have v1 : validD (⟨#[103, 114, 195, 182, 195, 159, 101]⟩ : ByteArray).data.toList = true := by kernel_rfl
  have l1 : (runes (⟨#[103, 114, 195, 182, 195, 159, 101]⟩ : ByteArray).data.toList).length = 5 := by kernel_rfl
  have l2 : wordsL (⟨#[97, 32, 34, 98, 32, 99, 34, 32, 92, 117, 123, 101, 57, 125]⟩ : ByteArray).data.toList = .ok [[97], [98, 32, 99], [92, 117, 123, 101, 57, 125]] := by kernel_rfl
  have l3 : nameL (⟨#[109, 97, 105, 110, 47, 195, 164]⟩ : ByteArray).data.toList = true := by kernel_rfl
  have c1 := count_any ⟨#[103, 114, 195, 182, 195, 159, 101]⟩ w (by decide) hT
  have c2 := fun (w1 : World) (h : Tabs w1) => words_any ⟨#[97, 32, 34, 98, 32, 99, 34, 32, 92, 117, 123, 101, 57, 125]⟩ w1 (by decide) h
  have c3 := fun (w1 : World) => name_any ⟨#[109, 97, 105, 110, 47, 195, 164]⟩ w1
  rw [l1] at c1
  simp only [l2, ansWs] at c2
  simp only [l3] at c3
  have c1' : Calls Tryd.prog 11 #[.string ⟨#[103, 114, 195, 182, 195, 159, 101]⟩] w fun e w' => e = .returned (.tuple #[.int .i64 (5 : Nat), .int .i64 0]) ∧ Below w.heap.size w w' := c1.mono fun e w' h => ⟨h.1.elim (fun x => x.2) (fun x => by rw [v1] at x; exact absurd x.1 (by simp)), h.2⟩
  clear c1 v1 l1 l2 l3
  go_enter Tryd.func10, Tryd.ntmps10
  go_wp2_with fail
  refine c1'.mono ?_; rintro e w1 ⟨rfl, hb1⟩
  go_wp2_with fail
  refine (c2 w1 (hT.below hb1)).mono ?_; rintro e w2 ⟨⟨a, cap, rfl, ho⟩, hb2⟩
  have hS := owns_strs ho
  simp only [List.length_cons, List.length_nil, List.map_cons, List.map_nil, Nat.zero_add, Nat.reduceAdd] at hS ⊢
  clear ho
  go_wp2_with fail
  have bA : Below w2.heap.size w2 (w2.alloc (.cells #[.string ⟨#[97]⟩, .string ⟨#[98, 32, 99]⟩, .string ⟨#[92, 117, 123, 101, 57, 125]⟩] 9)) := (Below.refl _ _).alloc (Nat.le_refl _) _
  have hY : Strs (w2.alloc (.cells #[.string ⟨#[97]⟩, .string ⟨#[98, 32, 99]⟩, .string ⟨#[92, 117, 123, 101, 57, 125]⟩] 9)) (some ⟨w2.heap.size, 0, none⟩) 3 3 [mkS [97], mkS [98, 32, 99], mkS [92, 117, 123, 101, 57, 125]] :=
    readsA_alloc ByteArray.empty w2 [mkS [97], mkS [98, 32, 99], mkS [92, 117, 123, 101, 57, 125]] _ _ _ rfl (by decide) 3 rfl
  refine (texts_any _ _ _ _ _ _ _ _ _ (hS.below bA) hY).mono ?_; rintro e w3 ⟨rfl, hb3⟩
  rw [decide_eq_true rfl]
  have hb4 := below_size (below_size hb1 hb2) (below_size bA hb3)
  clear bA hY hS
  go_wp2_with fail
  refine (c3 w3).mono ?_; rintro e w4 ⟨rfl, hb5⟩
  go_wp2
  go_ret
  exact ⟨rfl, below_size hb4 hb5⟩
end Go.Proofs.YtmajdgmbcgkelaaDoor
