/-
  A text cut at its signs. Plain lemmas.
-/
import Derived.Test.YtmajdgmbcgkelaaDoorWordNamesP
namespace Go.Proofs.YtmajdgmbcgkelaaDoor
open Go.RowKit
open Go.Lib (decodeL validD encodeRune decodeL_width)

theorem name_bad (l : List UInt8) (hv : validD l = false) : nameL l = false := nameGo_bad (runes l) 0 47 (has_bad l hv)
theorem text_bad (l : List UInt8) (hv : validD l = false) : textL l = false := by unfold textL; rw [hv]; rfl

theorem signs_law (l : List UInt8) (q : Nat) (hv : validD l = true) : ∃ m p r, (runes l).length = m ∧ validD (l.take (clipL (q : Int) l)) = true ∧ (runes (l.take (clipL (q : Int) l))).length = p ∧ validD (l.drop (clipL (q : Int) l)) = true ∧ (runes (l.drop (clipL (q : Int) l))).length = r ∧ p + r = m ∧ p = min q m ∧ clipL (q : Int) l ≤ l.length ∧ (nameL l = true → 1 ≤ m ∧ m ≤ 40) ∧ (textL l = true → m ≤ 200) := by
  obtain ⟨rs, hok, rfl⟩ := signs_of l hv
  have hN := clip_enc rs (q : Int) hok
  rw [Int.toNat_natCast] at hN
  have e : enc rs = enc (rs.take q) ++ enc (rs.drop q) := by rw [← enc_append, List.take_append_drop]
  have ht : (enc rs).take (clipL (q : Int) (enc rs)) = enc (rs.take q) := by rw [hN]; conv => lhs; rw [e]; rw [List.take_left]
  have hd : (enc rs).drop (clipL (q : Int) (enc rs)) = enc (rs.drop q) := by rw [hN]; conv => lhs; rw [e]; rw [List.drop_left]
  have o1 : ∀ r ∈ rs.take q, okR r := fun r hr => hok r (List.mem_of_mem_take hr)
  have o2 : ∀ r ∈ rs.drop q, okR r := fun r hr => hok r (List.mem_of_mem_drop hr)
  refine ⟨rs.length, (rs.take q).length, (rs.drop q).length, by rw [runes_enc rs hok], by rw [ht]; exact valid_enc _ o1, by rw [ht, runes_enc _ o1], by rw [hd]; exact valid_enc _ o2, by rw [hd, runes_enc _ o2], by rw [List.length_take, List.length_drop]; omega, by rw [List.length_take], ?_, fun h => ?_, fun h => ?_⟩
  · rw [hN, e, List.length_append]; omega
  · unfold nameL at h
    rw [runes_enc rs hok] at h
    obtain ⟨a, b, _⟩ := nameGo_parts rs 0 47 h (by omega)
    omega
  · unfold textL at h
    rw [runes_enc rs hok, Bool.and_eq_true] at h
    have := textGo_le rs 0 h.2 (by omega)
    omega
end Go.Proofs.YtmajdgmbcgkelaaDoor
