/-
  bits.Writer's Put.
-/
import Derived.Test.YtmdkinhbfndoeaaBits
import Derived.Test.YtmdkinhbfndoeaaFresh
namespace Go.Proofs.Ytmdkinhbfndoeaa
open Go.RowKit

/-- What is left and what may have moved. -/
def Moved (g : Nat) (o o' : Option Nat) (w w' : World) : Prop := Apart (fun b => b = g ∨ some b = o) w w' ∧ ∀ b, o' = some b → o = some b ∨ w.heap.size ≤ b

theorem Moved.refl (g : Nat) (o : Option Nat) (w : World) : Moved g o o w w := ⟨⟨rfl, rfl, rfl, Nat.le_refl _, fun _ _ _ => rfl⟩, fun b h => .inl h⟩
theorem Moved.trans {g : Nat} {o o' o'' : Option Nat} {w w1 w2 : World} (h : Moved g o o' w w1) (k : Moved g o' o'' w1 w2) : Moved g o o'' w w2 := by
  obtain ⟨⟨a1, a2, a3, a4, a5⟩, a6⟩ := h
  obtain ⟨⟨b1, b2, b3, b4, b5⟩, b6⟩ := k
  refine ⟨⟨b1.trans a1, b2.trans a2, b3.trans a3, Nat.le_trans a4 b4, fun q hq hn => (b5 q (by omega) (fun e => ?_)).trans (a5 q hq hn)⟩, fun b hb => ?_⟩
  · rcases e with e | e
    · exact hn (.inl e)
    · rcases a6 q e.symm with e' | e'
      · exact hn (.inr e'.symm)
      · omega
  · rcases b6 b hb with e | e
    · exact a6 b e
    · exact .inr (by omega)
theorem Moved.drew {g : Nat} {o o' : Option Nat} {w w1 : World} (h : Moved g o o' w w1) : Moved g o o' w w1.drew := ⟨⟨h.1.os, h.1.tape, h.1.output, h.1.size, h.1.block⟩, h.2⟩
theorem Moved.setCell {g : Nat} {o o' : Option Nat} {w w1 : World} (h : Moved g o o' w w1) (p : Addr) (v : Value) (hp : p.block = g ∨ o' = some p.block) : Moved g o o' w (w1.setCell p v) := by
  refine ⟨⟨h.1.os, h.1.tape, h.1.output, by simpa using h.1.size, fun k hk hn => (Below.heap_setCell _ _ _ _ (fun e => ?_)).trans (h.1.block k hk hn)⟩, h.2⟩
  rcases hp with e' | e'
  · exact hn (.inl (by omega))
  · rcases h.2 _ e' with e2 | e2
    · exact hn (.inr (by rw [e2, e]))
    · omega
theorem Moved.grown {g : Nat} {o o' : Option Nat} {w w2 : World} {ob : Obj} (hg : (w.alloc ob).grownBy w2 o) (hf : ∀ r, o' = some r → o = some r ∨ (w.alloc ob).heap.size ≤ r) : Moved g o o' w w2 :=
  ⟨⟨hg.os, hg.tape, hg.output, by have := hg.size; simp at this; omega, fun k hk hn => (hg.block k (by simp; omega) (fun e => hn (.inr e))).trans (Below.heap_alloc _ _ _ hk)⟩, fun b hb => (hf b hb).imp id (fun h => by simp at h; omega)⟩

def Put (g : Nat) (o : Option Nat) (N c : Nat) (w : World) (e : Ending) (w' : World) : Prop := e = .returned (.int .i64 0) ∧ ∃ o', Wrt w' g o' N c ∧ Moved g o o' w w'

/-- The round's end. -/
theorem wrt_close {W : World} {g b m cap : Nat} {ys : List Int} {N u t x c : Nat} {y : Int} (hg : g < W.heap.size) (c0 : W.cell? ⟨g, 0, Option.none⟩ = some (.slice (some ⟨b, 0, Option.none⟩) (m + 1) cap)) (c1 : W.cell? ⟨g, 1, Option.none⟩ = some (.int .i64 c))
    (f0 : W.frozen? ⟨g, 0, Option.none⟩ = false) (f1 : W.frozen? ⟨g, 1, Option.none⟩ = false) (own : W.ownsRow (g + 1) 5 1 (.slice (some ⟨b, 0, Option.none⟩) (m + 1) cap) (m + 1) (ys.map (Value.int .u8)))
    (hb : isB ys) (hN : rlit ys = (N : Int)) (hF : N < 2 ^ c) (hc : c = 8 * m + u) (hx : x < 2 ^ t) (hut : u + t ≤ 8) (ht : 1 ≤ t) (hy : y = ys.getD m 0 + x * 2 ^ u) {z : Int} (hz : z = ((c + t : Nat) : Int)) :
    Wrt ((W.setCell ⟨b, m, Option.none⟩ (.int .u8 y)).setCell ⟨g, 1, Option.none⟩ (.int .i64 z)) g (some b) (N + x * 2 ^ c) (c + t) := by
  have hbg := (own.lt b rfl).1
  have hl : ys.length = m + 1 := by have := own.1; simpa using this
  subst hc hy hz
  obtain ⟨_, _, s1, s2, s3, s4⟩ := byte_step ys m u t x N hb hl hN hF hx hut
  refine ⟨some ⟨b, 0, Option.none⟩, m + 1, cap, _, rfl, by simpa using hg, ?_, ?_, ?_, ?_, World.ownsRow.kept (owns_set own m _) (grownBy_setCell _ _ _) (.inr fun e => ?_), by omega, s3, s4, ?_⟩
  · rw [World.cell?_setCell_other _ _ _ _ (by simp), World.cell?_setCell_other _ _ _ _ (by simp <;> omega), c0]
  · exact World.cell?_setCell_same _ _ _ ((World.cell?_setCell_other _ _ _ _ (by simp <;> omega)).trans c1)
  · simpa [World.frozen?_setCell] using f0
  · simpa [World.frozen?_setCell] using f1
  · simp [Value.ownBlock] at e; omega
  · have h2 : (x + 1) * 2 ^ (8 * m + u) ≤ 2 ^ t * 2 ^ (8 * m + u) := Nat.mul_le_mul_right _ hx
    rw [← Nat.pow_add, Nat.add_mul, Nat.add_comm t] at h2
    omega

theorem Wrt.drew {w : World} {g : Nat} {o : Option Nat} {N c : Nat} (h : Wrt w g o N c) : Wrt w.drew g o N c := h

/-- The byte that is stored. -/
theorem or_byte (z : Int) (q t u : Nat) (hq : q < 4294967296) (hz : 0 ≤ z) (hz1 : z < 2 ^ u) (ht : u + t ≤ 8) :
    bits .or .u8 z (bits .and .u32 (q : Int) ((2 ^ t - 1) % 4294967296) % 256 * 2 ^ u % 256) = z + (q % 2 ^ t : Nat) * 2 ^ u := by
  have h1 : ((2 : Int) ^ t - 1) % 4294967296 = 2 ^ t - 1 := by
    have : (t = 0 ∨ t = 1 ∨ t = 2 ∨ t = 3 ∨ t = 4 ∨ t = 5 ∨ t = 6 ∨ t = 7 ∨ t = 8) := by omega
    rcases this with rfl | rfl | rfl | rfl | rfl | rfl | rfl | rfl | rfl <;> rfl
  rw [h1, mask_u32 t (by omega) q (by omega) (by omega)]
  have h2 : (q : Int) % 2 ^ t = ((q % 2 ^ t : Nat) : Int) := by simp
  rw [h2]
  have h3 : q % 2 ^ t < 2 ^ t := Nat.mod_lt _ (Nat.pow_pos (by decide))
  generalize q % 2 ^ t = x at *
  have h4 : (x + 1) * 2 ^ u ≤ 2 ^ t * 2 ^ u := Nat.mul_le_mul_right _ h3
  rw [← Nat.pow_add, Nat.add_mul] at h4
  have h5 : 2 ^ (t + u) ≤ 2 ^ 8 := Nat.pow_le_pow_right (by decide) (by omega)
  have h6 : 2 ^ t ≤ 2 ^ 8 := Nat.pow_le_pow_right (by decide) (by omega)
  have h7 : 0 < 2 ^ u := Nat.pow_pos (by decide)
  have h8 : x * 2 ^ u < 256 := by omega
  have h9 : x < 256 := by omega
  have e1 : (x : Int) % 256 = x := by omega
  have e2 : ((x * 2 ^ u : Nat) : Int) = (x : Int) * 2 ^ u := by simp
  have e3 : ((x * 2 ^ u : Nat) : Int) % 256 = ((x * 2 ^ u : Nat) : Int) := by omega
  rw [e1, ← e2, e3, bits_or_comm]
  have h10 : z < 256 := by
    have : (2 : Nat) ^ u ≤ 2 ^ 8 := Nat.pow_le_pow_right (by decide) (by omega)
    have : ((2 ^ u : Nat) : Int) ≤ ((2 ^ 8 : Nat) : Int) := by exact_mod_cast this
    simp at this; omega
  rw [bits_join .u8 8 (by decide) wraps_u8 u ((x * 2 ^ u : Nat) : Int) z (by omega) (by rw [e2]; exact Int.mul_emod_left _ _) (by omega) hz hz1 (by omega), Int.add_comm]

set_option maxRecDepth 100000 in
set_option maxHeartbeats 8000000 in
theorem put_yes (g : Nat) (o : Option Nat) (N c n k : Nat) (w : World) (hw : Wrt w g o N c) (hn : n < 2 ^ k) (hk : k ≤ 24) (hc : c ≤ 1000000) :
    Calls Try.prog 40 #[.pointer (some ⟨g, 0, Option.none⟩), .int .u32 n, .int .i64 k] w (Put g o (N + n * 2 ^ c) (c + k) w) := by
  have hfit : fitB n k = true := by
    unfold fitB
    rw [decide_eq_true_iff]
    refine ⟨by omega, by omega, ?_⟩
    have : n / 2 ^ k = 0 := Nat.div_eq_of_lt hn
    have h2 : ((n / 2 ^ k : Nat) : Int) = 0 := by rw [this]; rfl
    simpa using h2
  have hn32 : n < 4294967296 := Nat.lt_of_lt_of_le hn (Nat.le_trans (Nat.pow_le_pow_right (by decide) hk) (by decide))
  obtain ⟨i0, hi, hz0, hz1, hz2⟩ := info_parts infoC
  have Hi := Lib.hid hi; have Hz0 := Lib.hid hz0; have Hz1 := Lib.hid hz1; have Hz2 := Lib.hid hz2
  have Hn := Lib.hid hn
  clear hi hz0 hz1 hz2 hn
  go_enter Try.func40, Try.ntmps40
  go_wp2_with fail
  refine (fits_any n k w hn32 (by omega)).mono ?_; rintro e w1 ⟨rfl, rfl⟩
  rw [hfit]
  clear hfit
  go_wp2
  go_loopw [1, 2] (fun vn vk wr => ∃ (j : Nat) (o' : Option Nat), j ≤ k ∧ vn = .int .u32 ((n / 2 ^ j : Nat) : Int) ∧ vk = .int .i64 ((k - j : Nat) : Int) ∧ Wrt wr g o' (N + (n % 2 ^ j) * 2 ^ c) (c + j) ∧ Moved g o o' w1 wr) (fun _ vk _ => (intOf vk).toNat)
  case atStart => exact ⟨0, o, Nat.zero_le _, by simp, by simp, by simpa [Nat.mod_one] using hw, Moved.refl _ _ _⟩
  case round =>
    obtain ⟨j, o', hj, rfl, rfl, hw', hm⟩ := hrel
    by_cases hlt : j < k
    · obtain ⟨a, len, cap, xs, ho, hg, c0, c1, f0, f1, own, hlen, hb, hN, hfit⟩ := hw'
      have hM : Hid (n / 2 ^ j ≤ n) := Nat.div_le_self _ _
      generalize hq : n / 2 ^ j = q at *
      have Hq := Lib.hid hq; clear hq
      have hq32 : q < 4294967296 := by have := hM.out; omega
      obtain ⟨r, hr⟩ : ∃ r, k - j = r := ⟨_, rfl⟩
      rw [hr]
      have hr0 : 0 < r := by omega
      have hr24 : r ≤ 24 := by omega
      have HR := Lib.hid hr
      clear hr
      have HM := Lib.hid hm
      obtain ⟨m, hm8⟩ : ∃ m : Nat, m = (c + j) / 8 := ⟨_, rfl⟩
      obtain ⟨u, hu8⟩ : ∃ u : Nat, u = (c + j) % 8 := ⟨_, rfl⟩
      have hcj : Hid (c + j = 8 * m + u) := by show c + j = 8 * m + u; omega
      have hu : u < 8 := by omega
      have hrem : ((c : Int) + (j : Int)) % 8 = u := by omega
      have hmk : m ≤ 200000 := by omega
      have hlen' : Hid (len = if u = 0 then m else m + 1) := by show len = _; split <;> omega
      clear hlen hm8 hu8 hlt hm hw
      have HN := Lib.hid hN; have HF := Lib.hid hfit; have Hb := Lib.hid hb; have HO := Lib.hid ho
      clear hN hfit hb ho
      obtain ⟨t, ht1, ht2, ht3, hcase⟩ : ∃ t : Nat, 1 ≤ t ∧ u + t ≤ 8 ∧ t ≤ r ∧ ((t = r ∧ (r : Int) < 8 - (u : Int)) ∨ ((8 : Int) - (u : Int) = t ∧ ¬ (r : Int) < t)) := by
        by_cases h : r + u < 8
        · exact ⟨r, by omega, by omega, by omega, .inl ⟨rfl, by omega⟩⟩
        · exact ⟨8 - u, by omega, by omega, by omega, .inr ⟨by omega, by omega⟩⟩
      rcases hcase with ⟨rfl, hmn⟩ | ⟨ht8, hmn⟩
      all_goals
        by_cases hz : u = 0
        · have hz' : ((u : Int) == 0) = true := by simp; omega
          obtain rfl : len = m := by have := hlen'.out; rw [if_pos hz] at this; exact this
          have hrd := reads_alloc (k := .u8) wr [0] #[.int .u8 0] 5 (0, 0) rfl (by unfold maxLen; simp) 1 rfl
          clear hlen'
          have Hz := Lib.hid hz; clear hz
          go_wp2_with (at_builtin; refine wpList_append_fresh _ rfl _ _ 43 rfl (g + 1) 5 i0 (.int .u8 0) 1 Try.underlying43 Hi.out Hz0.out Hz1.out Hz2.out rfl .u8 a len cap xs rfl (World.ownsRow.alloc own _) _ 1 1 [0] rfl hrd (by omega) (by unfold maxLen; omega) (by omega) (by simp; omega) ?_)
          intro a' cap' w2 own2 hg2 hfr
          have hne := owns_ne own
          have hB := grown_block hg2 hg hne
          have hsz := hg2.size
          have d1 := (World.cell?_of_block (a := ⟨g, 1, Option.none⟩) hB).trans c1
          have d0 := (World.cell?_of_block (a := ⟨g, 0, Option.none⟩) hB).trans c0
          have k0 := (World.frozen?_of_block (a := ⟨g, 0, Option.none⟩) hB).trans f0
          have k1 := (World.frozen?_of_block (a := ⟨g, 1, Option.none⟩) hB).trans f1
          have own3 : (w2.setCell ⟨g, 0, Option.none⟩ (.slice a' (len + 1) cap')).ownsRow (g + 1) 5 1 (.slice a' (len + 1) cap') (len + 1) ((xs ++ [0]).map (Value.int .u8)) :=
            World.ownsRow.kept (by simpa using own2) (grownBy_setCell w2 ⟨g, 0, Option.none⟩ _) (.inr (owns_ne own2).symm)
          have HG := Lib.hid hg2; have HFr := Lib.hid hfr
          have hsz2 : wr.heap.size < w2.heap.size := by have := hg2.size; simp at this; omega
          clear hB hsz c0 c1 f0 f1 own2 own hg2 hfr hrd
          go_wp2_with fail
          try rw [hrem]
          obtain ⟨b, rfl⟩ : ∃ b, a' = some ⟨b, 0, Option.none⟩ := by
            obtain ⟨b, e, _⟩ := owns_addr own3 (by omega)
            exact ⟨b, e⟩
          have hbg := (own3.lt b rfl).1
          have e0 : (w2.setCell ⟨g, 0, Option.none⟩ (.slice (some ⟨b, 0, Option.none⟩) (len + 1) cap')).cell? ⟨g, 0, Option.none⟩ = some (.slice (some ⟨b, 0, Option.none⟩) (len + 1) cap') := World.cell?_setCell_same _ _ _ d0
          have e1 : (w2.setCell ⟨g, 0, Option.none⟩ (.slice (some ⟨b, 0, Option.none⟩) (len + 1) cap')).cell? ⟨g, 1, Option.none⟩ = some (.int .i64 (c + j : Nat)) := (World.cell?_setCell_other _ _ _ _ (by simp)).trans d1
          have l0 : (w2.setCell ⟨g, 0, Option.none⟩ (.slice (some ⟨b, 0, Option.none⟩) (len + 1) cap')).frozen? ⟨g, 0, Option.none⟩ = false := by simpa [World.frozen?_setCell] using k0
          have l1 : (w2.setCell ⟨g, 0, Option.none⟩ (.slice (some ⟨b, 0, Option.none⟩) (len + 1) cap')).frozen? ⟨g, 1, Option.none⟩ = false := by simpa [World.frozen?_setCell] using k1
          have hgW : g < (w2.setCell ⟨g, 0, Option.none⟩ (.slice (some ⟨b, 0, Option.none⟩) (len + 1) cap')).heap.size := by simp; omega
          have hMv : Hid (Moved g o (some b) w1 (w2.setCell ⟨g, 0, Option.none⟩ (.slice (some ⟨b, 0, Option.none⟩) (len + 1) cap'))) :=
            HM.out.trans ((Moved.grown (by rw [← HO.out]; exact HG.out) (by rw [← HO.out]; simpa [Value.ownBlock] using HFr.out)).setCell _ _ (.inl rfl))
          have hys : Hid (isB (xs ++ [0]) ∧ rlit (xs ++ [0]) = ((N + n % 2 ^ j * 2 ^ c : Nat) : Int)) := ⟨Hb.out.append (isB.one (by omega) (by omega)), by rw [rlit_append, ← HN.out]; simp [rlit]⟩
          clear d0 d1 k0 k1 HG HFr HO HM HN Hb hne
          generalize w2.setCell ⟨g, 0, Option.none⟩ (.slice (some ⟨b, 0, Option.none⟩) (len + 1) cap') = W at *
          generalize xs ++ [0] = ys at *
          have x0 := owns_cell own3 len (by omega)
          have y0 := own3.frozenAt len
          have hz0 := hys.out.1.get len (by have := own3.1; simp at this; omega)
          have hz1 := rlit_top ys len u hys.out.1 (by have := own3.1; simpa using this) (by rw [hys.out.2, ← hcj.out]; exact_mod_cast HF.out)
          generalize hzz : ys.getD len 0 = z at *
          have Hzz := Lib.hid hzz; clear hzz
          have Hz1 := Lib.hid hz1; clear hz1
          have hl1 : (len : Int) < len + 1 := by omega
          have hw1 : IntKind.i64.wrap (len : Int) = len := Go.IntWalk.i64_in _ (by omega)
          refine wp_region_still_tail 22 (by kernel_rfl) (by kernel_rfl) ?_
          simp only [List.take_succ_cons, List.take_zero, List.drop_succ_cons, List.drop_zero]
          repeat still_step
          refine wpStill_nil ?_
          change wpList _ _ _ _ _ W.drew
          clear hw1 hl1
          go_wp2_with fail
          go_roundw
          case rel =>
            have hx := Nat.mod_lt q (show 0 < 2 ^ t from Nat.pow_pos (by decide))
            have hps := put_step N n c j t
            have hq := Hq.out
            rw [hq] at hps
            refine ⟨j + t, some b, by have := HR.out; omega, ?_, ?_, ?_, ?_⟩
            · rw [Nat.pow_add, ← Nat.div_div_eq_div_mul, hq]; simp
            · have := HR.out
              congr 1
              omega
            · rw [← hps, ← Nat.add_assoc c j t]
              exact (wrt_close (x := q % 2 ^ t) (u := u) hgW e0 e1 l0 l1 own3 hys.out.1 hys.out.2 HF.out hcj.out hx (by omega) (by omega) (by rw [or_byte z q t u hq32 hz0.1 Hz1.out (by omega), Hzz.out]) (by simp)).drew
            · exact ((hMv.out.setCell _ _ (.inr rfl)).setCell _ _ (.inl rfl)).drew
          case measure => simp [intOf]; omega
        · have hz' : ((u : Int) == 0) = false := by simp; omega
          obtain rfl : len = m + 1 := by have := hlen'.out; rw [if_neg hz] at this; exact this
          clear hlen'
          have Hz := Lib.hid hz; clear hz
          obtain ⟨b, rfl⟩ : ∃ b, a = some ⟨b, 0, Option.none⟩ := by
            obtain ⟨b, e, _⟩ := owns_addr own (by omega)
            exact ⟨b, e⟩
          have hbg := (own.lt b rfl).1
          have e0 := c0; have e1 := c1; have l0 := f0; have l1 := f1; have own3 := own; have hgW := hg
          clear c0 c1 f0 f1 own hg
          have hMv : Hid (Moved g o (some b) w1 wr) := by rw [show some b = o' from HO.out]; exact HM.out
          have hys : Hid (isB xs ∧ rlit xs = ((N + n % 2 ^ j * 2 ^ c : Nat) : Int)) := ⟨Hb.out, HN.out⟩
          clear HO HM HN Hb
          go_wp2_with fail
          try rw [hrem]
          have x0 := owns_cell own3 m (by omega)
          have y0 := own3.frozenAt m
          have hz0 := hys.out.1.get m (by have := own3.1; simp at this; omega)
          have hz1 := rlit_top xs m u hys.out.1 (by have := own3.1; simpa using this) (by rw [hys.out.2, ← hcj.out]; exact_mod_cast HF.out)
          generalize hzz : xs.getD m 0 = z at *
          have Hzz := Lib.hid hzz; clear hzz
          have Hz1 := Lib.hid hz1; clear hz1
          have hl1 : (m : Int) < m + 1 := by omega
          have hw1 : IntKind.i64.wrap (m : Int) = m := Go.IntWalk.i64_in _ (by omega)
          refine wp_region_still_tail 22 (by kernel_rfl) (by kernel_rfl) ?_
          simp only [List.take_succ_cons, List.take_zero, List.drop_succ_cons, List.drop_zero]
          repeat still_step
          refine wpStill_nil ?_
          change wpList _ _ _ _ _ wr.drew
          clear hw1 hl1
          go_wp2_with fail
          go_roundw
          case rel =>
            have hx := Nat.mod_lt q (show 0 < 2 ^ t from Nat.pow_pos (by decide))
            have hps := put_step N n c j t
            have hq := Hq.out
            rw [hq] at hps
            refine ⟨j + t, some b, by have := HR.out; omega, ?_, ?_, ?_, ?_⟩
            · rw [Nat.pow_add, ← Nat.div_div_eq_div_mul, hq]; simp
            · have := HR.out
              congr 1
              omega
            · rw [← hps, ← Nat.add_assoc c j t]
              exact (wrt_close (x := q % 2 ^ t) (u := u) hgW e0 e1 l0 l1 own3 hys.out.1 hys.out.2 HF.out hcj.out hx (by omega) (by omega) (by rw [or_byte z q t u hq32 hz0.1 Hz1.out (by omega), Hzz.out]) (by simp)).drew
            · exact ((hMv.out.setCell _ _ (.inr rfl)).setCell _ _ (.inl rfl)).drew
          case measure => simp [intOf]; omega
    · obtain rfl : j = k := by omega
      go_wp2
      go_ret
      refine ⟨rfl, o', ?_, hm⟩
      rw [Nat.mod_eq_of_lt Hn.out] at hw'
      exact hw'

end Go.Proofs.Ytmdkinhbfndoeaa
