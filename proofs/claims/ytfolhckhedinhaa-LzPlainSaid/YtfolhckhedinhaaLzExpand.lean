/-
  lz.Expand: the bytes that tokens tell.
-/
import Derived.Test.YtfolhckhedinhaaLzFirst
namespace Go.Proofs.Ytfolhckhedinhaa
open Go.RowKit

def mayT (t : Tok) : Bool := decide ((t.1 = 0 ∧ t.2.1 = 0 ∧ 0 ≤ t.2.2 ∧ t.2.2 ≤ 255) ∨ (t.1 ≠ 0 ∧ 3 ≤ t.1 ∧ t.1 ≤ 258 ∧ 1 ≤ t.2.1 ∧ t.2.1 ≤ 32768 ∧ t.2.2 = 0))
/-- So many copies of what stands d back. -/
def copyN (out : List Int) (d : Nat) : Nat → List Int
  | 0 => out
  | k + 1 => copyN out d k ++ [(copyN out d k).getD ((copyN out d k).length - d) 0]
def errT (out : List Int) (t : Tok) : Int := if mayT t = false then 4 else if t.2.1 > out.length then 1 else if (out.length : Int) + max 1 t.1 > 40000 then 10 else 0
def stepT (out : List Int) (t : Tok) : List Int := if t.1 = 0 then out ++ [t.2.2] else copyN out t.2.1.toNat t.1.toNat
def expT : List Tok → List Int → List Int × Int
  | [], out => (out, 0)
  | t :: ts, out => if errT out t ≠ 0 then ([], errT out t) else expT ts (stepT out t)
theorem copyN_len (out : List Int) (d k : Nat) : (copyN out d k).length = out.length + k := by
  induction k with
  | zero => rfl
  | succ k ih => rw [copyN, List.length_append, ih]; simp; omega

theorem may_t (t0 t1 t2 : Int) (w : World) :
    Calls Try.prog 21 #[.agg #[.int .i64 t0, .int .i64 t1, .int .i64 t2]] w fun e w' => e = .returned (.bool (mayT (t0, t1, t2))) ∧ Below w.heap.size w w' := by
  have HB := fun b h => Lib.hid (show b = mayT (t0, t1, t2) from (Bool.eq_iff_iff.2 (by rw [mayT, decide_eq_true_iff]; exact h)))
  generalize mayT (t0, t1, t2) = r at *
  by_cases z0 : t0 = 0
  · subst z0
    go_enter Try.func21, Try.ntmps21
    go_wp2
    all_goals
      go_ret
      refine ⟨ret_bool ((HB _ ?_).out), (Below.refl _ _).alloc (Nat.le_refl _) _⟩
      try simp
      first | omega | (constructor <;> intro hh <;> omega)
  · have z1 : (t0 == 0) = false := by simp [z0]
    go_enter Try.func21, Try.ntmps21
    go_wp2
    all_goals
      go_ret
      refine ⟨ret_bool ((HB _ ?_).out), (Below.refl _ _).alloc (Nat.le_refl _) _⟩
      try simp
      first | omega | (constructor <;> intro hh <;> omega)

theorem alloc3_cells (w : World) (x y z : Value) (t : TypeId) : (w.alloc (.cells #[x, y, z] t)).cell? ⟨w.heap.size, 0, Option.none⟩ = some x ∧ (w.alloc (.cells #[x, y, z] t)).cell? ⟨w.heap.size, 1, Option.none⟩ = some y ∧ (w.alloc (.cells #[x, y, z] t)).cell? ⟨w.heap.size, 2, Option.none⟩ = some z := by
  have hh : (w.alloc (.cells #[x, y, z] t)).heap[w.heap.size]? = some (.cells #[x, y, z] t) := by
    show (w.heap.push _)[w.heap.size]? = _
    simp
  refine ⟨?_, ?_, ?_⟩ <;> (unfold World.cell?; rw [hh]; rfl)

theorem byteV (x : Int) (h : 0 ≤ x ∧ x ≤ 255) : x % 256 = x := by omega

/-- New bytes and an error's number. -/
def RetBy (w : World) (ys : List Int) (E : Int) (e : Ending) (w' : World) : Prop :=
  ∃ (a : Option Addr) (k : Nat), e = .returned (.tuple #[.slice a ys.length k, .int .i64 E]) ∧ w'.ownsRow w.heap.size 5 1 (.slice a ys.length k) ys.length (ys.map (Value.int .u8)) ∧ Below w.heap.size w w'

set_option maxRecDepth 100000 in
set_option maxHeartbeats 1000000 in
theorem expand_any (a : Option Addr) (n cap : Nat) (ts : List Tok) (w : World) (ht : Toks w a n cap ts) :
    Calls Try.prog 16 #[.slice a n cap] w (RetBy w (expT ts []).1 (expT ts []).2) := by
  obtain ⟨i0, hi, hz0, hz1, hz2⟩ := info_parts infoC
  have Hi := Lib.hid hi; have Hz0 := Lib.hid hz0; have Hz1 := Lib.hid hz1; have Hz2 := Lib.hid hz2
  have HT := Lib.hid ht; have HL := Lib.hid ht.len
  have n63 := ht.n63
  clear hi hz0 hz1 hz2 ht
  generalize hR : expT ts [] = R at *
  have HR0 := Lib.hid hR
  clear hR
  go_enter Try.func16, Try.ntmps16
  go_wp2_with fail
  go_loopw [4, 9] (fun vo vi wr => ∃ (i : Nat) (o : Option Addr) (ca : Nat) (out : List Int), i ≤ n ∧ vo = .slice o out.length ca ∧ vi = .int .i64 i ∧ wr.ownsRow w.heap.size 5 1 (.slice o out.length ca) out.length (out.map (Value.int .u8)) ∧ out.length ≤ 40000 ∧ Below w.heap.size w wr ∧ Hid (expT (ts.drop i) out = R)) (fun _ vi _ => n - (intOf vi).toNat)
  case atStart => exact ⟨0, _, _, [], Nat.zero_le _, rfl, rfl, World.ownsRow_nil _ _ _ _, Nat.zero_le _, Below.refl _ _, HR0⟩
  case round =>
    obtain ⟨i, o, ca, out, hi, rfl, rfl, ho, hol, hbel, HE⟩ := hrel
    have HO := Lib.hid ho; have HB := Lib.hid hbel
    clear ho hbel HR0
    by_cases hlt : i < n
    · obtain ⟨ga, off, t, rfl, hg, htt, k0, k1, k2⟩ := (HT.out.below HB.out).at i hlt
      have hdr : ts.drop i = t :: ts.drop (i + 1) := by
        have hi' : i < ts.length := by rw [HL.out]; exact hlt
        rw [List.drop_eq_getElem_cons hi']
        rw [List.getElem?_eq_getElem hi'] at htt
        cases htt
        rfl
      have HEX := Lib.hid (show (if errT out t ≠ 0 then ([], errT out t) else expT (ts.drop (i + 1)) (stepT out t)) = R by rw [← HE.out, hdr]; rfl)
      obtain ⟨t0, t1, t2⟩ := t
      dsimp only at k0 k1 k2
      clear htt hdr HE hg
      go_wp2_with fail
      have hc3 := alloc3_cells wr (.int .i64 t0) (.int .i64 t1) (.int .i64 t2) 41
      have hbl : Below wr.heap.size wr (wr.alloc (.cells #[.int .i64 t0, .int .i64 t1, .int .i64 t2] 41)) := (Below.refl _ _).alloc (Nat.le_refl _) _
      have hgo : ∀ r, (Value.slice o out.length ca).ownBlock = some r → r ≠ wr.heap.size := fun r e => by have := (HO.out.lt r e).2; omega
      have hgw : w.heap.size ≤ wr.heap.size := HB.out.size
      refine (may_t t0 t1 t2 _).mono ?_; rintro e w2 ⟨rfl, b2⟩
      have hlt2 : wr.heap.size < (wr.alloc (.cells #[.int .i64 t0, .int .i64 t1, .int .i64 t2] 41)).heap.size := by simp
      have c0 := (b2.cell (p := ⟨wr.heap.size, 0, Option.none⟩) hlt2).trans hc3.1
      have c1 := (b2.cell (p := ⟨wr.heap.size, 1, Option.none⟩) hlt2).trans hc3.2.1
      have c2 := (b2.cell (p := ⟨wr.heap.size, 2, Option.none⟩) hlt2).trans hc3.2.2
      have hgl : wr.heap.size < w2.heap.size := Nat.lt_of_lt_of_le hlt2 b2.size
      replace HO := Lib.hid (owns_below (World.ownsRow.alloc HO.out (.cells #[.int .i64 t0, .int .i64 t1, .int .i64 t2] 41)) b2)
      replace HB := Lib.hid (below_size (below_size HB.out hbl) b2)
      have HGO := Lib.hid hgo
      generalize wr.heap.size = gt at *
      clear k0 k1 k2 b2 hbl hc3 hlt2 hgo
      by_cases hm : mayT (t0, t1, t2) = true
      · have hmm := hm
        rw [mayT, decide_eq_true_iff] at hmm
        dsimp only at hmm
        rcases hmm with ⟨rfl, rfl, h2a, h2b⟩ | ⟨hn0, h0a, h0b, h1a, h1b, rfl⟩
        · have hmx : max (1 : Int) 0 = 1 := rfl
          rw [hm]
          by_cases hbig : out.length = 40000
          · have g1 : (40000 : Int) < (out.length : Int) + 1 := by omega
            have hE : errT out (0, 0, t2) = 10 := by simp [errT, hm, hmx, hbig]
            have hR : R = ([], 10) := by rw [← HEX.out, hE]; rfl
            subst hR
            go_wp2_with fail
            go_ret2
            exact ⟨Option.none, 0, rfl, World.ownsRow_nil _ _ _ _, HB.out⟩
          · have g1 : decide ((40000 : Int) < (out.length : Int) + 1) = false := by simp; omega
            have hE : errT out (0, 0, t2) = 0 := by simp [errT, hm, hmx]; omega
            have hst : stepT out (0, 0, t2) = out ++ [t2] := by simp [stepT]
            have HNX := Lib.hid (show expT (ts.drop (i + 1)) (out ++ [t2]) = R by rw [← HEX.out, if_neg (by rw [hE]; decide), hst])
            have hb8 : t2 % 256 = t2 := by omega
            clear hE hst HEX
            go_wp2_with (at_builtin; refine wpList_append_any _ rfl _ _ 22 rfl w.heap.size 5 i0 (.int .u8 0) 1 1 Try.underlying22 Hi.out Hz0.out Hz1.out Hz2.out rfl (by decide) o out.length ca (out.map (Value.int .u8)) rfl (World.ownsRow.alloc HO.out _) _ 1 1 _ rfl rfl (cell_one_new _ _ _) (by simp [Value.oneCell']) (by decide) (by unfold maxLen; omega) (by omega) (by have := HB.out.size; simp; omega) ?_)
            intro a5 c5 w5 r5 g5 f5
            have HB5 := Lib.hid ((HB.out.alloc HB.out.size (.cells #[.int .u8 t2] 5)).grown g5 (by have := HB.out.size; simp; omega) (fun k hk => (HO.out.lt k hk).1))
            have HO5 := Lib.hid (show w5.ownsRow w.heap.size 5 1 (.slice a5 (out ++ [t2]).length c5) (out ++ [t2]).length ((out ++ [t2]).map (Value.int .u8)) by simpa using r5)
            have hb5 : w5.heap[gt]? = w2.heap[gt]? := (g5.block gt (by simp; omega) (fun e => HGO.out gt e.symm rfl)).trans (Below.heap_alloc _ _ _ hgl)
            have d0 := (World.cell?_of_block (a := ⟨gt, 0, Option.none⟩) hb5).trans c0
            have d1 := (World.cell?_of_block (a := ⟨gt, 1, Option.none⟩) hb5).trans c1
            clear r5 g5 f5 hb5 c0 c1 c2
            go_wp2_with fail
            go_loopw [4, 42] (fun vo vk wz => vo = .slice a5 (out.length + 1) c5 ∧ vk = .int .i64 0 ∧ wz = w5) (fun _ _ _ => 0)
            case atStart => exact ⟨rfl, rfl, rfl⟩
            case round =>
              obtain ⟨rfl, rfl, rfl⟩ := hrel
              go_wp2_with fail
              go_roundw
              case rel => exact ⟨i + 1, a5, c5, out ++ [t2], by omega, by simp, by go_num, HO5.out, by simp; omega, HB5.out, HNX⟩
              case measure => simp [intOf]; omega
        · obtain ⟨L, rfl⟩ := Int.eq_ofNat_of_zero_le (show 0 ≤ t0 by omega)
          obtain ⟨D, rfl⟩ := Int.eq_ofNat_of_zero_le (show 0 ≤ t1 by omega)
          rw [hm]
          by_cases hdd : out.length < D
          · have g0 : (out.length : Int) < D := by omega
            have hE : errT out ((L : Int), (D : Int), 0) = 1 := by simp [errT, hm, hdd]
            have hR : R = ([], 1) := by rw [← HEX.out, hE]; rfl
            subst hR
            go_wp2_with fail
            go_ret2
            exact ⟨Option.none, 0, rfl, World.ownsRow_nil _ _ _ _, HB.out⟩
          · have g0 : decide ((out.length : Int) < D) = false := by simp; omega
            have hmx : max (1 : Int) (L : Int) = L := by omega
            by_cases hbig : 40000 < out.length + L
            · have g1 : (40000 : Int) < (out.length : Int) + L := by omega
              have hE : errT out ((L : Int), (D : Int), 0) = 10 := by simp [errT, hm, hdd, hmx, g1]
              have hR : R = ([], 10) := by rw [← HEX.out, hE]; rfl
              subst hR
              go_wp2_with fail
              go_ret2
              exact ⟨Option.none, 0, rfl, World.ownsRow_nil _ _ _ _, HB.out⟩
            · have g1 : decide ((40000 : Int) < (out.length : Int) + L) = false := by simp; omega
              have hE : errT out ((L : Int), (D : Int), 0) = 0 := by simp [errT, hm, hmx]; omega
              have hst : stepT out ((L : Int), (D : Int), 0) = copyN out D L := by simp [stepT]; omega
              have HNX := Lib.hid (show expT (ts.drop (i + 1)) (copyN out D L) = R by rw [← HEX.out, if_neg (by rw [hE]; decide), hst])
              have hl0 : ((L : Int) == 0) = false := by simp; omega
              have C0 := Lib.hid c0; have C1 := Lib.hid c1
              clear hE hst HEX hm c2
              go_wp2_with fail
              clear c0 c1
              go_loopw [4, 42] (fun vo vk wz => ∃ (k : Nat) (q : Option Addr) (cq : Nat), k ≤ L ∧ vo = .slice q (out.length + k) cq ∧ vk = .int .i64 k ∧ wz.ownsRow w.heap.size 5 1 (.slice q (out.length + k) cq) (out.length + k) ((copyN out D k).map (Value.int .u8)) ∧ Below w.heap.size w wz ∧ gt < wz.heap.size ∧ (∀ r, (Value.slice q (out.length + k) cq).ownBlock = some r → r ≠ gt) ∧ wz.cell? ⟨gt, 0, Option.none⟩ = some (.int .i64 L) ∧ wz.cell? ⟨gt, 1, Option.none⟩ = some (.int .i64 D)) (fun _ vk _ => L - (intOf vk).toNat)
              case atStart => exact ⟨0, o, ca, Nat.zero_le _, rfl, rfl, HO.out, HB.out, hgl, HGO.out, C0.out, C1.out⟩
              case round =>
                obtain ⟨k, q, cq, hkL, rfl, rfl, ho, hb, hgz, hgo, c0, c1⟩ := hrel
                clear HO HB HGO C0 C1 hgl
                have HO := Lib.hid ho; have HB := Lib.hid hb; have HGO := Lib.hid hgo
                have hcl := copyN_len out D k
                clear ho hb hgo
                by_cases hkl : k < L
                · have HCN := Lib.hid (show copyN out D (k + 1) = copyN out D k ++ [(copyN out D k).getD (out.length + k - D) 0] by rw [copyN, hcl])
                  obtain ⟨gq, rfl, _⟩ := owns_addr HO.out (by omega)
                  obtain ⟨P, hP⟩ : ∃ P : Nat, out.length + k - D = P := ⟨_, rfl⟩
                  have x0 := owns_cell HO.out P (by omega)
                  have hPi : (out.length : Int) + k - D = P := by omega
                  have hPl : (P : Int) < (out.length : Int) + k := by omega
                  rw [hP] at HCN
                  generalize (copyN out D k).getD P 0 = x at *
                  clear hP
                  go_wp2_with (at_builtin; refine wpList_append_any _ rfl _ _ 22 rfl w.heap.size 5 i0 (.int .u8 0) 1 1 Try.underlying22 Hi.out Hz0.out Hz1.out Hz2.out rfl (by decide) (some ⟨gq, 0, Option.none⟩) (out.length + k) cq ((copyN out D k).map (Value.int .u8)) rfl (World.ownsRow.alloc HO.out _) _ 1 1 _ rfl rfl (cell_one_new _ _ _) (by simp [Value.oneCell']) (by decide) (by unfold maxLen; omega) (by omega) (by have := HB.out.size; simp; omega) ?_)
                  intro a5 c5 w5 r5 g5 f5
                  have HB5 := Lib.hid ((HB.out.alloc HB.out.size (.cells #[.int .u8 x] 5)).grown g5 (by have := HB.out.size; simp; omega) (fun k hk => (HO.out.lt k hk).1))
                  have HO5 := Lib.hid (show w5.ownsRow w.heap.size 5 1 (.slice a5 (out.length + (k + 1)) c5) (out.length + (k + 1)) ((copyN out D (k + 1)).map (Value.int .u8)) by rw [HCN.out]; simpa [← Nat.add_assoc] using r5)
                  have hb5 : w5.heap[gt]? = wr.heap[gt]? := (g5.block gt (by simp; omega) (fun e => HGO.out gt e.symm rfl)).trans (Below.heap_alloc _ _ _ hgz)
                  have d0 := (World.cell?_of_block (a := ⟨gt, 0, Option.none⟩) hb5).trans c0
                  have d1 := (World.cell?_of_block (a := ⟨gt, 1, Option.none⟩) hb5).trans c1
                  have hgf : ∀ r, (Value.slice a5 (out.length + (k + 1)) c5).ownBlock = some r → r ≠ gt := fun r e => by
                    rcases f5 r (by rw [Nat.add_assoc]; exact e) with e1 | e1
                    · exact HGO.out r e1
                    · omega
                  have hgz5 : gt < w5.heap.size := by have := g5.size; simp at this; omega
                  have HGF := Lib.hid hgf
                  clear r5 g5 f5 hb5 c0 c1 hgf x0
                  go_wp2_with fail
                  go_roundw
                  case rel => exact ⟨k + 1, a5, c5, by omega, by rw [Nat.add_assoc], by go_num, HO5.out, HB5.out, hgz5, HGF.out, d0, d1⟩
                  case measure => simp [intOf]; omega
                · obtain rfl : k = L := by omega
                  have g9 : decide ((k : Int) < k) = false := by simp
                  go_wp2_with fail
                  go_roundw
                  case rel => exact ⟨i + 1, q, cq, copyN out D k, by omega, by rw [hcl], by go_num, by rw [hcl]; exact HO.out, by omega, HB.out, HNX⟩
                  case measure => simp [intOf]; omega
      · have hm' : mayT (t0, t1, t2) = false := by simpa using hm
        rw [hm']
        have hE : errT out (t0, t1, t2) = 4 := by simp [errT, hm']
        have hR : R = ([], 4) := by rw [← HEX.out, hE]; rfl
        subst hR
        go_wp2_with fail
        go_ret2
        exact ⟨Option.none, 0, rfl, World.ownsRow_nil _ _ _ _, HB.out⟩
    · obtain rfl : i = n := by omega
      have e : ts.drop i = [] := List.drop_eq_nil_of_le (by have := HL.out; omega)
      have hR : R = (out, 0) := by rw [← HE.out, e]; rfl
      subst hR
      go_wp2
      go_ret2
      exact ⟨o, ca, rfl, HO.out, HB.out⟩
end Go.Proofs.Ytfolhckhedinhaa
