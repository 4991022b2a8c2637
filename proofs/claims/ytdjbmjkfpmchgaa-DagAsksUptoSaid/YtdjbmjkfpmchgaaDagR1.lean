/-
  The reference's NewGraph.
-/
import Derived.Test.YtdjbmjkfpmchgaaDagR0
namespace Go.Proofs.Ytdjbmjkfpmchgaa
open Go.RowKit Go.Maps

theorem atIs_upto (ns : List Nd) (k : ByteArray) : ∀ m, m ≤ ns.length → (∃ i : Nat, i < m ∧ (ns.getD i default).key = k ∧ ∀ j, j < i → (ns.getD j default).key ≠ k) ∨ ∀ j, j < m → (ns.getD j default).key ≠ k
  | 0, _ => .inr fun j h => absurd h (by omega)
  | m + 1, hm => by
    rcases atIs_upto ns k m (by omega) with ⟨i, hi, e, hf⟩ | hn
    · exact .inl ⟨i, by omega, e, hf⟩
    · by_cases e : (ns.getD m default).key = k
      · exact .inl ⟨m, by omega, e, hn⟩
      · exact .inr fun j hj => by
          by_cases h : j = m
          · subst h; exact e
          · exact hn j (by omega)
theorem atIs_ex (ns : List Nd) (k : ByteArray) : ∃ r, AtIs ns k r := by
  rcases atIs_upto ns k ns.length (Nat.le_refl _) with ⟨i, hi, e, hf⟩ | hn
  · exact ⟨i, .inr ⟨i, hi, rfl, e, hf⟩⟩
  · exact ⟨-1, .inl ⟨fun hk => by
      obtain ⟨j, hj, e⟩ := keys_getD hk
      exact hn j hj e, rfl⟩⟩
theorem AtIs.uniq {ns : List Nd} {k : ByteArray} {r s : Int} (h : AtIs ns k r) (h2 : AtIs ns k s) : r = s := by
  rcases h with ⟨h, rfl⟩ | ⟨i, hi, rfl, e, hf⟩ <;> rcases h2 with ⟨h2, rfl⟩ | ⟨j, hj, rfl, e2, hf2⟩
  · rfl
  · exact absurd (by rw [← e2]; exact List.mem_map_of_mem (getDN_mem hj)) h
  · exact absurd (by rw [← e]; exact List.mem_map_of_mem (getDN_mem hi)) h2
  · by_cases h1 : i < j
    · exact absurd e (hf2 i h1)
    · by_cases h3 : j < i
      · exact absurd e2 (hf j h3)
      · have : i = j := by omega
        rw [this]
/-- A key that is there: its place. -/
theorem at_in (h n cap : Nat) (a : Option Addr) (ns : List Nd) (k : ByteArray) (hk : k ∈ keysOf ns) :
    ∃ i : Nat, i < ns.length ∧ ns.getD i default = ndOf ns k ∧ ∀ w, RG w h a n cap ns → Calls Try.prog 29 #[gp h, .string k] w fun e w' => e = .returned (.int .i64 (i : Int)) ∧ Below w.heap.size w w' := by
  obtain ⟨r, hr⟩ := atIs_ex ns k
  obtain ⟨i, hi, rfl, e⟩ := hr.in hk
  refine ⟨i, hi, e, fun w hg => (at_any h n cap a ns k w hg).mono ?_⟩
  rintro e w' ⟨⟨r, rfl, hr2⟩, rfl⟩
  exact ⟨by rw [hr.uniq hr2], Below.refl _ _⟩

theorem at_in2 (h n cap : Nat) (a : Option Addr) (ns : List Nd) (k : ByteArray) (hk : k ∈ keysOf ns) :
    ∃ i : Nat, i < ns.length ∧ ns.getD i default = ndOf ns k ∧ ∀ w, RG w h a n cap ns → Calls Try.prog 29 #[gp h, .string k] w fun e w' => e = .returned (.int .i64 (i : Int)) ∧ w' = w := by
  obtain ⟨r, hr⟩ := atIs_ex ns k
  obtain ⟨i, hi, rfl, e⟩ := hr.in hk
  refine ⟨i, hi, e, fun w hg => (at_any h n cap a ns k w hg).mono ?_⟩
  rintro e w' ⟨⟨r, rfl, hr2⟩, rfl⟩
  exact ⟨by rw [hr.uniq hr2], rfl⟩

theorem NewIs.uniq {ns : List Nd} {c d : Int} (h : NewIs ns c) (h2 : NewIs ns d) : c = d := by
  have n5 : ∀ {c : Int}, NewIs ns c → (500 < ns.length ∧ c = 17) ∨ (ns.length ≤ 500 ∧ ¬ (keysOf ns).Nodup ∧ c = 7) ∨ (ns.length ≤ 500 ∧ (keysOf ns).Nodup ∧ ¬ There ns ∧ c = 6) ∨ (ns.length ≤ 500 ∧ (keysOf ns).Nodup ∧ There ns ∧ ¬ Above ns ∧ c = 1) ∨ (ns.length ≤ 500 ∧ (keysOf ns).Nodup ∧ There ns ∧ Above ns ∧ c = 0) := fun h => by
    rcases h with h | h | h | h | ⟨G, e⟩
    · exact .inl h
    · exact .inr (.inl h)
    · exact .inr (.inr (.inl h))
    · exact .inr (.inr (.inr (.inl h)))
    · exact .inr (.inr (.inr (.inr ⟨G.few, G.nodup, G.there, G.above, e⟩)))
  rcases n5 h with ⟨a1, rfl⟩ | ⟨a1, a2, rfl⟩ | ⟨a1, a2, a3, rfl⟩ | ⟨a1, a2, a3, a4, rfl⟩ | ⟨a1, a2, a3, a4, rfl⟩ <;> rcases n5 h2 with ⟨b1, rfl⟩ | ⟨b1, b2, rfl⟩ | ⟨b1, b2, b3, rfl⟩ | ⟨b1, b2, b3, b4, rfl⟩ | ⟨b1, b2, b3, b4, rfl⟩ <;> first | rfl | omega | contradiction

def RetNG (w : World) (a : Option Addr) (n cap : Nat) (ns : List Nd) (e : Ending) (w' : World) : Prop :=
  ∃ (v : Value) (c : Int), e = .returned (.tuple #[v, .int .i64 c]) ∧ NewIs ns c ∧ (c ≠ 0 → v = .pointer Option.none) ∧ (c = 0 → ∃ h, v = gp h ∧ RG w' h a n cap ns) ∧ Below w.heap.size w w'

set_option maxRecDepth 100000 in
set_option maxHeartbeats 4000000 in
theorem newGraph_any (a : Option Addr) (n cap : Nat) (ns : List Nd) (w : World) (hr : NdL w a n cap ns) :
    Calls Try.prog 27 #[.slice a n cap] w (RetNG w a n cap ns) := by
  have h63 := hr.n63
  have HR := Lib.hid hr; have HL := Lib.hid hr.len
  clear hr
  go_enter Try.func27, Try.ntmps27
  by_cases h500 : 500 < n
  · have h1 : (500 : Int) < (n : Int) := by omega
    go_wp2_with fail
    go_ret2
    exact ⟨_, 17, rfl, .inl ⟨by have := HL.out; omega, rfl⟩, fun _ => rfl, fun h => absurd h (by decide), Below.refl _ _⟩
  have h1 : ¬ (500 : Int) < (n : Int) := by omega
  go_wp2_with fail
  have hb1 := (Below.refl w.heap.size w).alloc (Nat.le_refl _) (.cells #[.slice a n cap] 57)
  have G1 : Hid (RG (w.alloc (.cells #[.slice a n cap] 57)) w.heap.size a n cap ns) := Lib.hid ⟨cell_alloc w #[.slice a n cap] 57 (0, 0) 0 _ rfl, by simp, HR.out.below hb1⟩
  have B1 := Lib.hid hb1
  clear hb1
  generalize w.alloc (.cells #[.slice a n cap] 57) = w1 at *
  go_loop [5] (fun vi => ∃ (i : Nat), i ≤ n ∧ vi = .int .i64 i ∧ Hid ((keysOf (ns.take i)).Nodup)) (fun vi => n - (intOf vi).toNat)
  case atStart => exact ⟨0, Nat.zero_le _, rfl, Lib.hid (by simp [keysOf])⟩
  case round =>
    obtain ⟨i, hi, rfl, ND⟩ := hrel
    by_cases hlt : i < n
    · have i1 : (i : Int) < n := by omega
      have i2 : (0 : Int) ≤ i := by omega
      obtain ⟨b0, off, rfl, hb0, hcs⟩ := G1.out.nd.cells (by omega)
      obtain ⟨pa, pc, c0, c1, c2, st⟩ := hcs i hlt
      have hil : i < ns.length := by rw [HL.out]; exact hlt
      have HIL := Lib.hid hil
      obtain ⟨k, hk⟩ : ∃ k, k = (ns.getD i default).key := ⟨_, rfl⟩
      rw [← hk] at c0
      have HK := Lib.hid hk
      clear hk hil hcs c1 c2 st hb0
      go_wp2_with fail
      refine (at_any w.heap.size n cap _ ns k _ G1.out).mono ?_; rintro e w2 ⟨⟨r, rfl, hr⟩, rfl⟩
      have hrr := hr.range
      have HRR := Lib.hid hr
      clear hr
      by_cases hri : r = i
      · subst hri
        have hnk : (ns.getD i default).key ∉ keysOf (ns.take i) := fun hin => by
          rcases HRR.out with ⟨_, e⟩ | ⟨i', hi', e, _, hf⟩
          · omega
          · obtain rfl : i = i' := by omega
            obtain ⟨j, hj, e2⟩ := keys_getD hin
            have hj' : j < i := by rw [List.length_take] at hj; omega
            have := hf j hj'
            rw [HK.out, ← e2] at this
            simp [List.getD, List.getElem?_take, hj'] at this
        have ND2 := Lib.hid (keys_more HIL.out ND.out hnk)
        clear hnk
        go_wp2_with fail
        go_round
        case rel => exact ⟨i + 1, by omega, by go_num, ND2⟩
        case measure => simp [intOf]; omega
      · go_wp2_with fail
        go_ret2
        refine ⟨_, 7, rfl, .inr (.inl ⟨by have := HL.out; omega, fun hnd => ?_, rfl⟩), fun _ => rfl, fun h => absurd h (by decide), B1.out⟩
        rcases HRR.out with ⟨hno, _⟩ | ⟨i', hi', e, ek, hf⟩
        · exact hno (by rw [HK.out]; exact List.mem_map_of_mem (getDN_mem HIL.out))
        · have hlt' : i' < i := by
            by_cases h1 : i < i'
            · exact absurd HK.out.symm (hf i h1)
            · have : i ≠ i' := fun h => hri (by rw [e, h])
              omega
          refine keys_dup HIL.out ?_ hnd
          rw [← HK.out, ← ek]
          have hmem : ns.getD i' default ∈ ns.take i := by
            rw [List.getD_eq_getElem?_getD, List.getElem?_eq_getElem hi', Option.getD_some]
            exact List.mem_take_iff_getElem.2 ⟨i', by have := HIL.out; omega, rfl⟩
          exact List.mem_map_of_mem hmem
    · obtain rfl : i = n := by omega
      have et : ns.take i = ns := by rw [← HL.out, List.take_length]
      rw [et] at ND
      clear et
      have HI := Lib.hid (show i = i from rfl)
      clear hlt hi
      go_wp2_with fail
      go_loop [6] (fun vi => ∃ (j : Nat), j ≤ i ∧ vi = .int .i64 j ∧ Hid (∀ q, q < j → ∀ p ∈ (ns.getD q default).ps, p ∈ keysOf ns)) (fun vi => i - (intOf vi).toNat)
      case atStart => exact ⟨0, Nat.zero_le _, rfl, Lib.hid (fun q hq => absurd hq (by omega))⟩
      case round =>
        obtain ⟨j, hj, rfl, P7⟩ := hrel
        by_cases hlt : j < i
        · have i1 : (j : Int) < i := by omega
          have i2 : (0 : Int) ≤ j := by omega
          obtain ⟨b0, off, rfl, hb0, hcs⟩ := G1.out.nd.cells (by omega)
          obtain ⟨pa, pc, c0, c1, c2, st⟩ := hcs j hlt
          have hjl : j < ns.length := by rw [HL.out]; exact hlt
          obtain ⟨nd, hnd⟩ : ∃ nd, nd = ns.getD j default := ⟨_, rfl⟩
          rw [← hnd] at c1 st
          have HN := Lib.hid hnd; have ST := Lib.hid st; have HJL := Lib.hid hjl
          have hm63 := st.n63
          clear hnd st hcs hb0 hjl c0 c2
          generalize hm : nd.ps.length = m at *
          have HM := Lib.hid hm
          clear hm
          go_wp2_with fail
          go_loop [7] (fun vi => ∃ (k : Nat), k ≤ m ∧ vi = .int .i64 k ∧ Hid (∀ q, q < k → nd.ps.getD q ByteArray.empty ∈ keysOf ns)) (fun vi => m - (intOf vi).toNat)
          case atStart => exact ⟨0, Nat.zero_le _, rfl, Lib.hid (fun q hq => absurd hq (by omega))⟩
          case round =>
            obtain ⟨k, hk, rfl, P9⟩ := hrel
            by_cases hlt2 : k < m
            · have k1 : (k : Int) < m := by omega
              have k2 : (0 : Int) ≤ k := by omega
              obtain ⟨b1, off1, rfl, hb1, d0⟩ := ST.out.cellAt k hlt2
              have hkl : k < nd.ps.length := by rw [HM.out]; exact hlt2
              have HKL := Lib.hid hkl
              obtain ⟨p, hp⟩ : ∃ p, p = nd.ps.getD k ByteArray.empty := ⟨_, rfl⟩
              rw [← hp] at d0
              have HP := Lib.hid hp
              clear hp hb1 hkl
              go_wp2_with fail
              refine (at_any w.heap.size i cap _ ns p _ G1.out).mono ?_; rintro e w2 ⟨⟨r, rfl, hr⟩, rfl⟩
              have hro := hr.out
              clear hr
              by_cases hri : r < 0
              · go_wp2_with fail
                go_ret2
                refine ⟨_, 6, rfl, .inr (.inr (.inl ⟨by have := HL.out; omega, ND.out, fun ht => ?_, rfl⟩)), fun _ => rfl, fun h => absurd h (by decide), B1.out⟩
                have := hro.1 (by rw [HP.out]; exact ht _ (by rw [HN.out]; exact getDN_mem HJL.out) _ (getDS_mem HKL.out))
                omega
              · have hin : p ∈ keysOf ns := hro.2 (by omega)
                have HIN := Lib.hid hin
                clear hin hro
                go_wp2_with fail
                go_round
                case rel => exact ⟨k + 1, by omega, by go_num, Lib.hid (fun q hq => by
                  by_cases e : q = k
                  · subst e; rw [← HP.out]; exact HIN.out
                  · exact P9.out q (by omega))⟩
                case measure => simp [intOf]; omega
            · obtain rfl : k = m := by omega
              go_wp2_with fail
              go_round
              case rel => exact ⟨j + 1, by omega, by go_num, Lib.hid (fun q hq p hp => by
                by_cases e : q = j
                · subst e
                  rw [← HN.out] at hp
                  obtain ⟨t, ht, e2⟩ := mem_getDS hp
                  rw [← e2]
                  exact P9.out t (by rw [← HM.out]; exact ht)
                · exact P7.out q (by omega) p hp)⟩
              case measure => simp [intOf]; omega
        · obtain rfl : j = i := by omega
          have TH : Hid (There ns) := Lib.hid (fun x hx p hp => by
            obtain ⟨q, hq, e⟩ := mem_getDN hx
            rw [← e] at hp
            exact P7.out q (by rw [← HL.out]; exact hq) p hp)
          clear P7 hlt hj
          go_wp2_with fail
          go_loopw [8] (fun vi wr => ∃ (i : Nat), i ≤ j ∧ vi = .int .i64 i ∧ Hid (Below w1.heap.size w1 wr) ∧ Hid (∀ q, q < i → ∀ p ∈ (ns.getD q default).ps, stOf ns p < (ns.getD q default).st)) (fun vi _ => j - (intOf vi).toNat)
          case atStart => exact ⟨0, Nat.zero_le _, rfl, Lib.hid (Below.refl _ _), Lib.hid (fun q hq => absurd hq (by omega))⟩
          case round =>
            obtain ⟨i, hi, rfl, B2, P7⟩ := hrel
            generalize wr = w2 at *
            by_cases hlt : i < j
            · have i1 : (i : Int) < j := by omega
              have i2 : (0 : Int) ≤ i := by omega
              have G2 := Lib.hid (G1.out.below B2.out)
              obtain ⟨b0, off, rfl, hb0, hcs⟩ := G2.out.nd.cells (by omega)
              obtain ⟨pa, pc, c0, c1, c2, st⟩ := hcs i hlt
              have hjl : i < ns.length := by rw [HL.out]; exact hlt
              obtain ⟨nd, hnd⟩ : ∃ nd, nd = ns.getD i default := ⟨_, rfl⟩
              rw [← hnd] at c1 st
              have HN := Lib.hid hnd; have ST := Lib.hid st; have HJL := Lib.hid hjl
              have hm63 := st.n63
              clear hnd st hcs hjl c0 c2
              generalize hm : nd.ps.length = m at *
              have HM := Lib.hid hm
              clear hm
              go_wp2_with fail
              go_loopw [9] (fun vi wr => ∃ (k : Nat), k ≤ m ∧ vi = .int .i64 k ∧ Hid (Below w2.heap.size w2 wr) ∧ Hid (∀ q, q < k → stOf ns (nd.ps.getD q ByteArray.empty) < nd.st)) (fun vi _ => m - (intOf vi).toNat)
              case atStart => exact ⟨0, Nat.zero_le _, rfl, Lib.hid (Below.refl _ _), Lib.hid (fun q hq => absurd hq (by omega))⟩
              case round =>
                obtain ⟨k, hk, rfl, B3, P9⟩ := hrel
                generalize wr = w3 at *
                have G3 := Lib.hid (G2.out.below B3.out)
                obtain ⟨_, _, e0, hb0, hcs⟩ := G3.out.nd.cells (by omega)
                obtain ⟨rfl, rfl⟩ : b0 = _ ∧ off = _ := by simpa using e0
                obtain ⟨pa, pc, c0, c1, c2, st⟩ := hcs i hlt
                rw [← HN.out] at c1 c2 st
                rw [HM.out] at c1 st
                have ST := Lib.hid st
                clear c0 st e0
                by_cases hlt2 : k < m
                · have k1 : (k : Int) < m := by omega
                  have k2 : (0 : Int) ≤ k := by omega
                  obtain ⟨b1, off1, rfl, hb1, d0⟩ := ST.out.cellAt k hlt2
                  have hkl : k < nd.ps.length := by rw [HM.out]; exact hlt2
                  have HKL := Lib.hid hkl
                  have hpi : nd.ps.getD k ByteArray.empty ∈ keysOf ns := TH.out nd (by rw [HN.out]; exact getDN_mem HJL.out) _ (getDS_mem hkl)
                  obtain ⟨p, hp⟩ : ∃ p, p = nd.ps.getD k ByteArray.empty := ⟨_, rfl⟩
                  rw [← hp] at d0 hpi
                  have HP := Lib.hid hp
                  obtain ⟨z, hz, hze, hcall⟩ := at_in w.heap.size j cap (some ⟨b0, off, Option.none⟩) ns p hpi
                  rw [HL.out] at hz
                  obtain ⟨_, _, _, _, z2, _⟩ := hcs z hz
                  rw [hze] at z2
                  have hst : (ndOf ns p).st = stOf ns p := rfl
                  rw [hst] at z2
                  have z63 : (z : Int) < j := by omega
                  have z0 : (0 : Int) ≤ z := by omega
                  generalize hsp : stOf ns p = sp at *
                  generalize hsn : nd.st = sn at *
                  have SP := Lib.hid hsp; have SN := Lib.hid hsn
                  have hI := fun x : GrownW w3 => hcall x.val (G3.out.below x.below)
                  clear hcs hcall hze hst hsp hsn hp hpi hz
                  go_upto_region 23 with (fail)
                  have f1 := fun x : GrownW w3 => x.cell hb0 c1
                  have f2 := fun x : GrownW w3 => x.cell hb0 c2
                  have f3 := fun x : GrownW w3 => x.cell hb0 z2
                  have f4 := fun x : GrownW w3 => x.cell hb1 d0
                  clear c1 c2 d0 z2
                  by_cases hcmp : sn ≤ sp
                  · skip
                    refine wp_region_grow_fast (by kernel_rfl) (by kernel_rfl) ?_
                    repeat (go_big_quiet_step (first | (go_at_call 29; with_reducible exact grow_call (hI _))))
                    refine wpQuiet_nil ?_
                    intro wg hw'
                    obtain ⟨⟨wz, hbg⟩, hw''⟩ := hw'
                    subst hw''
                    clear f1 f2 f3 f4 hI
                    go_wp2_with fail
                    go_ret2
                    refine ⟨_, 1, rfl, .inr (.inr (.inr (.inl ⟨by have := HL.out; omega, ND.out, TH.out, fun ha => ?_, rfl⟩))), fun _ => rfl, fun h => absurd h (by decide), below_size B1.out (below_size B2.out (below_size B3.out hbg))⟩
                    have := ha nd (by rw [HN.out]; exact getDN_mem HJL.out) p (by rw [HP.out]; exact getDS_mem HKL.out)
                    rw [SP.out, SN.out] at this
                    omega
                  · skip
                    refine wp_region_grow_fast (by kernel_rfl) (by kernel_rfl) ?_
                    repeat (go_big_quiet_step (first | (go_at_call 29; with_reducible exact grow_call (hI _))))
                    refine wpQuiet_nil ?_
                    intro wg hw'
                    obtain ⟨⟨wz, hbg⟩, hw''⟩ := hw'
                    subst hw''
                    clear f1 f2 f3 f4 hI
                    go_wp2_with fail
                    go_roundw
                    case rel => exact ⟨k + 1, by omega, by go_num, Lib.hid (below_size B3.out hbg), Lib.hid (fun q hq => by
                      by_cases e : q = k
                      · subst e; rw [← HP.out, SP.out]; omega
                      · exact P9.out q (by omega))⟩
                    case measure => simp [intOf]; omega
                · obtain rfl : k = m := by omega
                  go_wp2_with fail
                  go_roundw
                  case rel => exact ⟨i + 1, by omega, by go_num, Lib.hid (below_size B2.out B3.out), Lib.hid (fun q hq p hp => by
                    by_cases e : q = i
                    · subst e
                      rw [← HN.out] at hp ⊢
                      obtain ⟨t, ht, e2⟩ := mem_getDS hp
                      rw [← e2]
                      exact P9.out t (by rw [← HM.out]; exact ht)
                    · exact P7.out q (by omega) p hp)⟩
                  case measure => simp [intOf]; omega
            · obtain rfl : i = j := by omega
              go_wp2_with fail
              go_ret2
              refine ⟨_, 0, rfl, .inr (.inr (.inr (.inr ⟨⟨by have := HL.out; omega, ND.out, TH.out, fun x hx p hp => ?_⟩, rfl⟩))), fun h => absurd rfl h, fun _ => ⟨w.heap.size, rfl, G1.out.below B2.out⟩, below_size B1.out B2.out⟩
              obtain ⟨q, hq, e⟩ := mem_getDN hx
              rw [← e] at hp ⊢
              exact P7.out q (by rw [← HL.out]; exact hq) p hp
end Go.Proofs.Ytdjbmjkfpmchgaa
