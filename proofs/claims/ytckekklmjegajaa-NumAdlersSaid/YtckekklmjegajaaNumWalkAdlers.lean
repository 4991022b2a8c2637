/-
  The walk of the statement NumAdlers.
-/
import Derived.Test.YtckekklmjegajaaNumFirst
namespace Go.Proofs.Ytckekklmjegajaa
open Go.RowKit

theorem adl_two : ∀ (xs : List Int) (p q p0 q0 : Int),
    xs.foldl adl (p, q) = (p, q) ∧ xs = [] ∨ xs.foldl adl (p, q) = (((xs.foldl adl (p0, q0)).1 + (p - p0)) % 65521, ((xs.foldl adl (p0, q0)).2 + (q - q0) + (xs.length : Int) * (p - p0)) % 65521) := by
  intro xs
  induction xs with
  | nil => intro p q p0 q0; exact .inl ⟨rfl, rfl⟩
  | cons x xs ih =>
    intro p q p0 q0
    refine .inr ?_
    simp only [List.foldl_cons, List.length_cons]
    have h1 : adl (p, q) x = ((p + x) % 65521, (q + (p + x) % 65521) % 65521) := rfl
    have h2 : adl (p0, q0) x = ((p0 + x) % 65521, (q0 + (p0 + x) % 65521) % 65521) := rfl
    rw [h1, h2]
    obtain ⟨k, hk⟩ : ∃ k, (p + x) % 65521 - (p0 + x) % 65521 = (p - p0) + 65521 * k := ⟨(p0 + x) / 65521 - (p + x) / 65521, by omega⟩
    obtain ⟨l, hl⟩ : ∃ l, (q + (p + x) % 65521) % 65521 - (q0 + (p0 + x) % 65521) % 65521 = (q - q0) + (p - p0) + 65521 * l := ⟨k + (q0 + (p0 + x) % 65521) / 65521 - (q + (p + x) % 65521) / 65521, by omega⟩
    rcases ih ((p + x) % 65521) ((q + (p + x) % 65521) % 65521) ((p0 + x) % 65521) ((q0 + (p0 + x) % 65521) % 65521) with ⟨h, rfl⟩ | h
    · simp only [List.foldl_nil, List.length_nil]
      rw [Prod.mk.injEq]
      constructor <;> simp <;> omega
    · rw [h, hk, hl]
      generalize (xs.foldl adl ((p0 + x) % 65521, (q0 + (p0 + x) % 65521) % 65521)).1 = r
      generalize (xs.foldl adl ((p0 + x) % 65521, (q0 + (p0 + x) % 65521) % 65521)).2 = s
      rw [Prod.mk.injEq]
      refine ⟨by omega, ?_⟩
      have e : s + (q - q0 + (p - p0) + 65521 * l) + (xs.length : Int) * (p - p0 + 65521 * k) = s + (q - q0) + ((xs.length + 1 : Nat) : Int) * (p - p0) + 65521 * (l + xs.length * k) := by
        rw [Int.natCast_add, Int.mul_add, Int.mul_add, Int.add_mul, Int.mul_left_comm]; simp; omega
      rw [e, Int.add_mul_emod_self_left]

theorem adl_lin (xs : List Int) (p q r s : Int) (hp0 : 0 ≤ p) (hp1 : p < 65521) (hq0 : 0 ≤ q) (hq1 : q < 65521) (h : (xs.foldl adl (1, 0)) = (r, s)) :
    xs.foldl adl (p, q) = ((p + r + 65520) % 65521, (q + s + (xs.length : Int) % 65521 * ((p + 65520) % 65521)) % 65521) := by
  rcases adl_two xs p q 1 0 with ⟨h1, rfl⟩ | h1
  · simp at h
    obtain ⟨rfl, rfl⟩ := h
    rw [h1, Prod.mk.injEq]
    simp; omega
  · rw [h1, h, Prod.mk.injEq]
    refine ⟨by simp only; omega, ?_⟩
    simp only
    obtain ⟨k, hk⟩ : ∃ k, (xs.length : Int) % 65521 = xs.length + 65521 * k := ⟨- (xs.length / 65521), by omega⟩
    obtain ⟨l, hl⟩ : ∃ l, (p + 65520) % 65521 = (p - 1) + 65521 * l := ⟨1 - (p + 65520) / 65521, by omega⟩
    rw [hk, hl]
    generalize (xs.length : Int) = n
    have e : q + s + (n + 65521 * k) * (p - 1 + 65521 * l) = s + (q - 0) + n * (p - 1) + 65521 * (k * (p - 1) + (n + 65521 * k) * l) := by
      generalize p - 1 = A
      have e1 : (n + 65521 * k) * (A + 65521 * l) = n * A + 65521 * (k * A) + 65521 * ((n + 65521 * k) * l) := by
        rw [Int.mul_add, Int.add_mul, Int.mul_assoc, Int.mul_left_comm (n + 65521 * k)]
      rw [e1]
      generalize (n + 65521 * k) * l = u
      generalize n * A = v
      generalize k * A = t
      omega
    rw [e, Int.add_mul_emod_self_left]

set_option maxHeartbeats 1000000 in
theorem walk_NumAdlers (a : Option Addr) (n cap : Nat) (xs : List Int) (b : Option Addr) (m cap' : Nat) (ys : List Int) (w : World) (hx : Reads .u8 w a n cap xs) (bx : isB xs) (hy : Reads .u8 w b m cap' ys) (by_ : isB ys) :
    Calls Try.prog 7 #[.slice a n cap, .slice b m cap'] w fun e w' => e = .returned (.bool true) ∧ Below w.heap.size w w' := by
  have hn := hx.n63.1
  have hm := hy.n63.1
  by_cases hs : 8000 < n ∨ 8000 < m
  · by_cases hs1 : (8000 : Int) < n
    · go_enter Try.func7, Try.ntmps7
      go_wp2_with fail
      refine (first_any w).mono ?_; rintro e w1 ⟨rfl, hb1⟩
      go_wp2_with fail
      refine (first_any w1).mono ?_; rintro e w2 ⟨rfl, hb2⟩
      go_wp2_with fail
      go_ret
      exact ⟨rfl, below_size hb1 hb2⟩
    · have hs2 : (8000 : Int) < m := by omega
      clear hs
      go_enter Try.func7, Try.ntmps7
      go_wp2_with fail
      refine (first_any w).mono ?_; rintro e w1 ⟨rfl, hb1⟩
      go_wp2_with fail
      refine (first_any w1).mono ?_; rintro e w2 ⟨rfl, hb2⟩
      go_wp2_with fail
      go_ret
      exact ⟨rfl, below_size hb1 hb2⟩
  · have hs1 : ¬ (8000 : Int) < n := by omega
    have hs2 : ¬ (8000 : Int) < m := by omega
    clear hs
    go_enter Try.func7, Try.ntmps7
    go_wp2_with fail
    refine (first_any w).mono ?_; rintro e w1 ⟨rfl, hb1⟩
    go_wp2_with fail
    refine (adler_any a n cap xs w1 (hx.below hb1) bx).mono ?_; rintro e w2 ⟨rfl, rfl⟩
    go_wp2_with fail
    refine (adler_any b m cap' ys w2 (hy.below hb1) by_).mono ?_; rintro e w3 ⟨rfl, rfl⟩
    go_wp2_with fail
    refine (copyBytes_any a n cap xs w3 (hx.below hb1) (by omega)).mono ?_; rintro e w4 ⟨a4, c4, rfl, ho4, hb4⟩
    rw [hx.len] at ho4 ⊢
    obtain ⟨i0, hi, hz0, hz1, hz2⟩ := info_parts infoB
    have Hi := Lib.hid hi; have Hz0 := Lib.hid hz0; have Hz1 := Lib.hid hz1; have Hz2 := Lib.hid hz2
    clear hi hz0 hz1 hz2
    go_wp2_with (at_builtin; refine wpList_append_reads _ rfl _ _ 22 rfl w3.heap.size 5 i0 (.int .u8 0) 1 Try.underlying22 Hi.out Hz0.out Hz1.out Hz2.out rfl .u8 a4 n c4 xs rfl ho4 b m cap' ys rfl ((hy.below hb1).below hb4) (by unfold maxLen; omega) (by omega) hb4.size ?_)
    intro a5 c5 w5 ho5 hg5 hn5
    rw [← List.map_append] at ho5
    have hb5 : Below w3.heap.size w3 w5 := below_grown hb4 ho4 hg5 (Nat.le_refl _) hb4.size
    clear hg5 hn5 ho4 hb4
    have hb6 := below_size hb1 hb5
    go_wp2_with fail
    refine (adler_any a5 _ c5 (xs ++ ys) w5 (reads_of_owns ho5) (bx.append by_)).mono ?_; rintro e w6 ⟨rfl, rfl⟩
    have d1 := adls_bd xs
    have d2 := adls_bd ys
    have d3 := adls_bd (xs ++ ys)
    have e1 : adler xs = (adls xs).2 * 65536 + (adls xs).1 := rfl
    have e2 : adler ys = (adls ys).2 * 65536 + (adls ys).1 := rfl
    have e3 : adler (xs ++ ys) = (adls (xs ++ ys)).2 * 65536 + (adls (xs ++ ys)).1 := rfl
    have e4 : adls (xs ++ ys) = (((adls xs).1 + (adls ys).1 + 65520) % 65521, ((adls xs).2 + (adls ys).2 + (m : Int) % 65521 * (((adls xs).1 + 65520) % 65521)) % 65521) := by
      rw [← hy.len]
      have : adls (xs ++ ys) = ys.foldl adl ((adls xs).1, (adls xs).2) := by simp [adls]
      rw [this]
      exact adl_lin ys _ _ _ _ d1.1 d1.2.1 d1.2.2.1 d1.2.2.2 rfl
    rw [e4] at e3 d3
    clear e4 ho5 hb5 hb1 bx by_ hx hy
    generalize adler xs = x at *
    generalize adler ys = y at *
    generalize adler (xs ++ ys) = z at *
    generalize (adls xs).1 = x1 at *
    generalize (adls xs).2 = x2 at *
    generalize (adls ys).1 = y1 at *
    generalize (adls ys).2 = y2 at *
    simp only at e3 d3
    obtain ⟨d1a, d1b, d1c, d1d⟩ := d1
    obtain ⟨d2a, d2b, d2c, d2d⟩ := d2
    have hp0 : 0 ≤ (m : Int) % 65521 * ((x1 + 65520) % 65521) := Int.mul_nonneg (by omega) (by omega)
    have hp1 : (m : Int) % 65521 * ((x1 + 65520) % 65521) ≤ 65521 * 65521 := Int.mul_le_mul (by omega) (by omega) (by omega) (by omega)
    have q1 : bits BinOp.and IntKind.u32 x 65535 = x1 := by rw [show (65535 : Int) = 2 ^ 16 - 1 from rfl, mask_u32 16 (by decide) x (by omega) (by omega)]; omega
    have q2 : bits BinOp.and IntKind.u32 y 65535 = y1 := by rw [show (65535 : Int) = 2 ^ 16 - 1 from rfl, mask_u32 16 (by decide) y (by omega) (by omega)]; omega
    have q3 : bits BinOp.and IntKind.u32 z 65535 = (x1 + y1 + 65520) % 65521 := by rw [show (65535 : Int) = 2 ^ 16 - 1 from rfl, mask_u32 16 (by decide) z (by omega) (by omega)]; omega
    have r1 : x / 65536 = x2 := by omega
    have r2 : y / 65536 = y2 := by omega
    have r3 : z / 65536 = (x2 + y2 + (m : Int) % 65521 * ((x1 + 65520) % 65521)) % 65521 := by omega
    clear e1 e2 e3 d3
    go_wp2_with fail
    refine (first_any w6).mono ?_; rintro e w7 ⟨rfl, hb7⟩
    have hb8 := below_size hb6 hb7
    go_wp2_with fail
    go_ret
    exact ⟨rfl, hb8⟩
end Go.Proofs.Ytckekklmjegajaa
