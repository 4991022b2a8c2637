/-
  dag.New.
-/
import Derived.Test.YtdjbmjkfpmchgaaDagNew0
import Derived.Test.YtdjbmjkfpmchgaaDagShelf
namespace Go.Proofs.Ytdjbmjkfpmchgaa
open Go.RowKit Go.Maps

/-- slices.Clone of texts. -/
theorem clone_any (a : Option Addr) (n cap : Nat) (xs : List ByteArray) (w : World) (hr : Strs w a n cap xs) (hn : n * 16 ≤ 140737488355328) :
    Calls Try.prog 35 #[.slice a n cap] w fun e w' => ∃ a' cap', e = .returned (.slice a' n cap') ∧ Strs w' a' n cap' xs ∧ Below w.heap.size w w' := by
  cases a with
  | none =>
    obtain ⟨rfl, rfl⟩ := hr.nil rfl
    obtain rfl : xs = [] := List.eq_nil_of_length_eq_zero hr.len
    refine (Try.slices_Clone_string_nil 0 0 w).mono ?_
    rintro e w' ⟨rfl, rfl⟩
    exact ⟨Option.none, 0, rfl, ReadsA.none _ _ _, Below.refl _ _⟩
  | some ad =>
    by_cases h0 : 0 < n
    · obtain ⟨b, off, e, hl, hc⟩ := hr.cells h0
      injection e with e
      subst e
      have hxl := hr.len
      refine (Try.slices_Clone_string b off n cap xs w (by omega) (by omega) (fun j hj => hc j (by omega))).mono ?_
      rintro e w' ⟨v, rfl, ho, _, hb⟩
      rw [show xs.take n = xs by rw [← hxl, List.take_length]] at ho
      rcases ho.2 with ⟨rfl, h'⟩ | ⟨g, c, cur, rfl, _⟩
      · omega
      · exact ⟨_, _, rfl, readsA_of_owns _ ho, hb⟩
    · obtain rfl : n = 0 := by omega
      obtain rfl : xs = [] := List.eq_nil_of_length_eq_zero hr.len
      refine (Try.slices_Clone_string_zero ad cap w).mono ?_
      rintro e w' ⟨v, rfl, ho, _, hb⟩
      rcases ho.2 with ⟨rfl, _⟩ | ⟨g, c, cur, rfl, _⟩
      · exact ⟨_, _, rfl, ReadsA.none _ _ _, hb⟩
      · exact ⟨_, _, rfl, readsA_of_owns (xs := []) _ ho, hb⟩

theorem keys_take_nodup {ns : List Nd} (h : (keysOf ns).Nodup) (i : Nat) : (keysOf (ns.take i)).Nodup := by
  unfold keysOf at *
  rw [List.map_take]
  exact List.Sublist.nodup (List.take_sublist _ _) h
theorem keys_dup {ns : List Nd} {i : Nat} (h : i < ns.length) (hk : (ns.getD i default).key ∈ keysOf (ns.take i)) : ¬ (keysOf ns).Nodup := by
  intro hn
  have h2 := keys_take_nodup hn (i + 1)
  rw [keysOf_take h, List.nodup_append] at h2
  exact h2.2.2 _ hk _ (List.mem_singleton.2 rfl) rfl
theorem keys_more {ns : List Nd} {i : Nat} (h : i < ns.length) (hn : (keysOf (ns.take i)).Nodup) (hk : (ns.getD i default).key ∉ keysOf (ns.take i)) : (keysOf (ns.take (i + 1))).Nodup := by
  rw [keysOf_take h, List.nodup_append]
  exact ⟨hn, by simp, fun a ha b hb e => hk (by rw [List.mem_singleton] at hb; rw [← hb, ← e]; exact ha)⟩
theorem getDN_mem {ns : List Nd} {i : Nat} (h : i < ns.length) : ns.getD i default ∈ ns := by
  rw [List.getD_eq_getElem?_getD, List.getElem?_eq_getElem h]; exact List.getElem_mem _
theorem mem_getDN {ns : List Nd} {x : Nd} (h : x ∈ ns) : ∃ i, i < ns.length ∧ ns.getD i default = x := by
  obtain ⟨i, hi, e⟩ := List.mem_iff_getElem.1 h
  exact ⟨i, hi, by rw [List.getD_eq_getElem?_getD, List.getElem?_eq_getElem hi]; exact e⟩
theorem getDS_mem {ns : List ByteArray} {i : Nat} (h : i < ns.length) : ns.getD i ByteArray.empty ∈ ns := by
  rw [List.getD_eq_getElem?_getD, List.getElem?_eq_getElem h]; exact List.getElem_mem _
theorem mem_getDS {ns : List ByteArray} {x : ByteArray} (h : x ∈ ns) : ∃ i, i < ns.length ∧ ns.getD i ByteArray.empty = x := by
  obtain ⟨i, hi, e⟩ := List.mem_iff_getElem.1 h
  exact ⟨i, hi, by rw [List.getD_eq_getElem?_getD, List.getElem?_eq_getElem hi]; exact e⟩

/-- What New answers. -/
def There (ns : List Nd) : Prop := ∀ n ∈ ns, ∀ p ∈ n.ps, p ∈ keysOf ns
def Above (ns : List Nd) : Prop := ∀ n ∈ ns, ∀ p ∈ n.ps, stOf ns p < n.st
def NewIs (ns : List Nd) (c : Int) : Prop :=
  (500 < ns.length ∧ c = 17) ∨ (ns.length ≤ 500 ∧ ¬ (keysOf ns).Nodup ∧ c = 7) ∨ (ns.length ≤ 500 ∧ (keysOf ns).Nodup ∧ ¬ There ns ∧ c = 6) ∨
  (ns.length ≤ 500 ∧ (keysOf ns).Nodup ∧ There ns ∧ ¬ Above ns ∧ c = 1) ∨ (Good ns ∧ c = 0)

set_option maxHeartbeats 4000000 in
theorem new_any (a : Option Addr) (n cap : Nat) (ns : List Nd) (w : World) (hr : NdL w a n cap ns) (hk : Keyable ns) :
    Calls Try.prog 23 #[.slice a n cap] w fun e w' =>
      ∃ (v : Value) (c : Int), e = .returned (.tuple #[v, .int .i64 c]) ∧ NewIs ns c ∧ (c ≠ 0 → v = .pointer Option.none) ∧ (c = 0 → ∃ g gm M, v = gp g ∧ Gr w' g gm M ns) ∧ Below w.heap.size w w' := by
  have hmm := @run_makeMap Try.prog
  have h63 := hr.n63
  have HR := Lib.hid hr; have HK := Lib.hid hk; have HL := Lib.hid hr.len
  clear hr hk
  go_enter Try.func23, Try.ntmps23
  by_cases h500 : 500 < n
  · have h1 : (500 : Int) < (n : Int) := by omega
    go_wp2_with fail
    go_ret2
    exact ⟨_, 17, rfl, .inl ⟨by have := HL.out; omega, rfl⟩, fun _ => rfl, fun h => absurd h (by decide), Below.refl _ _⟩
  have h1 : ¬ (500 : Int) < (n : Int) := by omega
  go_wp2_with fail
  have B1 := Lib.hid (((Below.refl w.heap.size w).alloc (Nat.le_refl _) (.map #[] 0)).alloc (by simp) (.cells #[.map (some w.heap.size)] 55))
  have G1 : Hid (Gr ((w.alloc (.map #[] 0)).alloc (.cells #[.map (some w.heap.size)] 55)) (w.heap.size + 1) w.heap.size (fun _ => Option.none) (ns.take 0)) := Lib.hid
    ⟨by have h := cell_alloc (w.alloc (.map #[] 0)) #[.map (some w.heap.size)] 55 (0, 0) 0 _ rfl; rw [World.size_alloc] at h; exact h, by simp, (MapIs.made _ _ _ w).kept (World.grownBy_alloc _ _ Option.none) (by simp), fun k => ⟨fun _ => rfl, fun h => by simp [keysOf] at h⟩⟩
  clear hmm
  generalize (w.alloc (.map #[] 0)).alloc (.cells #[.map (some w.heap.size)] 55) = w3 at *
  go_loopw [23] (fun vi wr => ∃ (i : Nat) (M : ByteArray → Option Value), i ≤ n ∧ vi = .int .i64 i ∧ Hid (Gr wr (w.heap.size + 1) w.heap.size M (ns.take i)) ∧ Hid ((keysOf (ns.take i)).Nodup) ∧ Hid (Below w.heap.size w wr)) (fun vi _ => n - (intOf vi).toNat)
  case atStart => exact ⟨0, _, Nat.zero_le _, rfl, G1, Lib.hid (by simp [keysOf]), B1⟩
  case round =>
    obtain ⟨i, M, hi, rfl, GR, ND, BB⟩ := hrel
    clear G1 B1
    by_cases hlt : i < n
    · have i1 : (i : Int) < n := by omega
      have i2 : (0 : Int) ≤ i := by omega
      obtain ⟨b0, off, rfl, hb0, hcs⟩ := (HR.out.below BB.out).cells (by omega)
      obtain ⟨pa, pc, c0, c1, c2, st⟩ := hcs i hlt
      have hil : i < ns.length := by rw [HL.out]; exact hlt
      have hkb := HK.out (ns.getD i default) (by rw [List.getD_eq_getElem?_getD, List.getElem?_eq_getElem hil]; exact List.getElem_mem _)
      obtain ⟨nd, hnd⟩ : ∃ nd, nd = ns.getD i default := ⟨_, rfl⟩
      rw [← hnd] at c0 c1 c2 st hkb
      have HN := Lib.hid hnd; have ST := Lib.hid st; have KB := Lib.hid hkb; have HIL := Lib.hid hil
      clear hnd st hkb hcs hb0 hil
      go_wp2_with fail
      have n0 := cell_alloc wr #[.string nd.key, .slice pa nd.ps.length pc, .int .i64 nd.st] 44 (0, 0) 0 _ rfl
      have n1 := cell_alloc wr #[.string nd.key, .slice pa nd.ps.length pc, .int .i64 nd.st] 44 (0, 0) 1 _ rfl
      have n2 := cell_alloc wr #[.string nd.key, .slice pa nd.ps.length pc, .int .i64 nd.st] 44 (0, 0) 2 _ rfl
      have hb4 := (Below.refl wr.heap.size wr).alloc (Nat.le_refl _) (.cells #[.string nd.key, .slice pa nd.ps.length pc, .int .i64 nd.st] 44)
      have hg4 : wr.heap.size < (wr.alloc (.cells #[.string nd.key, .slice pa nd.ps.length pc, .int .i64 nd.st] 44)).heap.size := by simp
      have hgs : w.heap.size + 1 < wr.heap.size := GR.out.lt
      generalize wr.alloc (.cells #[.string nd.key, .slice pa nd.ps.length pc, .int .i64 nd.st] 44) = w4 at *
      replace GR := Lib.hid (GR.out.below hb4); replace BB := Lib.hid (below_size BB.out hb4); replace ST := Lib.hid (ST.out.below hb4)
      generalize wr.heap.size = gv at *
      clear c0 c1 c2 hb4
      refine (has_any _ _ M (ns.take i) nd.key _ GR.out KB.out.1).mono ?_; rintro e w5 ⟨rfl, b5⟩
      by_cases hin : nd.key ∈ keysOf (ns.take i)
      · rw [decide_eq_true hin]
        go_wp2_with fail
        go_ret2
        refine ⟨_, 7, rfl, .inr (.inl ⟨by have := HL.out; omega, fun hnd => ?_, rfl⟩), fun _ => rfl, fun h => absurd h (by decide), below_size BB.out b5⟩
        rw [HN.out] at hin
        exact keys_dup HIL.out hin hnd
      · rw [decide_eq_false hin]
        have n0' := (b5.cell (p := ⟨gv, 0, Option.none⟩) hg4).trans n0
        have n1' := (b5.cell (p := ⟨gv, 1, Option.none⟩) hg4).trans n1
        have n2' := (b5.cell (p := ⟨gv, 2, Option.none⟩) hg4).trans n2
        replace GR := Lib.hid (GR.out.below b5); replace BB := Lib.hid (below_size BB.out b5); replace ST := Lib.hid (ST.out.below b5)
        have hg5 := Nat.lt_of_lt_of_le hg4 b5.size
        clear n0 n1 n2 b5
        have n0'' : w5.drew.cell? ⟨gv, 0, Option.none⟩ = some (.string nd.key) := n0'
        have n1'' : w5.drew.cell? ⟨gv, 1, Option.none⟩ = some (.slice pa nd.ps.length pc) := n1'
        have n2'' : w5.drew.cell? ⟨gv, 2, Option.none⟩ = some (.int .i64 nd.st) := n2'
        have gc : w5.drew.cell? ⟨w.heap.size + 1, 0, Option.none⟩ = some (.map (some w.heap.size)) := GR.out.cell
        have kp0 : w5.drew.cell? ⟨w.heap.size + 1, 0, Option.none⟩ = some (.map (some w.heap.size)) ∧ w5.drew.cell? ⟨gv, 0, Option.none⟩ = some (.string nd.key) ∧ w5.drew.cell? ⟨gv, 1, Option.none⟩ = some (.slice pa nd.ps.length pc) ∧ w5.drew.cell? ⟨gv, 2, Option.none⟩ = some (.int .i64 nd.st) := ⟨gc, n0'', n1'', n2''⟩
        have hgl : w.heap.size + 1 < w5.drew.heap.size := by have : w5.drew.heap.size = w5.heap.size := rfl; omega
        have hgl2 : gv < w5.drew.heap.size := hg5
        have CL := Lib.hid (clone_any pa nd.ps.length pc nd.ps w5.drew ST.out.drew KB.out.2.1)
        have PU := Lib.hid (fun (x : World) (hx : Below w5.drew.heap.size w5.drew x) (a' : Option Addr) (cap' : Nat) => (GR.out.map.drew.below (w' := x) hx).run_put strLit_inj strLit_key keyedS Try.underlying53 (by have := HL.out; simp [maxLen]; omega) (keyOfS nd.key KB.out.1) (ndV nd.key a' nd.ps.length cap' nd.st))
        have MC := Lib.hid (fun (x x2 : World) (hx : Below w5.drew.heap.size w5.drew x) (hg : x.grownBy x2 (some w.heap.size)) (q i : Nat) (v : Value) (hc : x.cell? ⟨q, i, Option.none⟩ = some v) => (GR.out.map.drew.below (w' := x) hx).cell hg hc)
        go_wp2_with fail
        go_region_held3 (fun w' => w'.cell? ⟨w.heap.size + 1, 0, Option.none⟩ = some (.map (some w.heap.size)) ∧ w'.cell? ⟨gv, 0, Option.none⟩ = some (.string nd.key) ∧ w'.cell? ⟨gv, 1, Option.none⟩ = some (.slice pa nd.ps.length pc) ∧ w'.cell? ⟨gv, 2, Option.none⟩ = some (.int .i64 nd.st))
          (first | with_reducible exact kp0 | with_reducible exact kp1 | with_reducible exact kp2)
          (first
          | (go_at_call 35; refine CL.out.mono ?_; rintro e x1 ⟨a', cap', rfl, s1, bb1⟩; have kp1 := (⟨(bb1.cell (p := ⟨w.heap.size + 1, 0, Option.none⟩) hgl).trans gc, (bb1.cell (p := ⟨gv, 0, Option.none⟩) hgl2).trans n0'', (bb1.cell (p := ⟨gv, 1, Option.none⟩) hgl2).trans n1'', (bb1.cell (p := ⟨gv, 2, Option.none⟩) hgl2).trans n2''⟩ : x1.cell? ⟨w.heap.size + 1, 0, Option.none⟩ = some (.map (some w.heap.size)) ∧ x1.cell? ⟨gv, 0, Option.none⟩ = some (.string nd.key) ∧ x1.cell? ⟨gv, 1, Option.none⟩ = some (.slice pa nd.ps.length pc) ∧ x1.cell? ⟨gv, 2, Option.none⟩ = some (.int .i64 nd.st)); obtain ⟨x2, hrun, mp, gx⟩ := PU.out x1 bb1 a' cap'; have kp2 := (⟨MC.out x1 x2 bb1 gx _ _ _ kp1.1, MC.out x1 x2 bb1 gx _ _ _ kp1.2.1, MC.out x1 x2 bb1 gx _ _ _ kp1.2.2.1, MC.out x1 x2 bb1 gx _ _ _ kp1.2.2.2⟩ : x2.cell? ⟨w.heap.size + 1, 0, Option.none⟩ = some (.map (some w.heap.size)) ∧ x2.cell? ⟨gv, 0, Option.none⟩ = some (.string nd.key) ∧ x2.cell? ⟨gv, 1, Option.none⟩ = some (.slice pa nd.ps.length pc) ∧ x2.cell? ⟨gv, 2, Option.none⟩ = some (.int .i64 nd.st))))
        have bbw := below_size ((Below.refl w5.heap.size w5).drew) bb1
        have hk' : (ns.getD i default).key ∉ keysOf (ns.take i) := by rw [← HN.out]; exact hin
        have GR2 := Lib.hid (Gr.put (GR.out.below bbw) HIL.out hk' (a := a') (cap := cap') (by rw [← HN.out]; exact s1) (by rw [← HN.out]; exact mp) gx)
        have BB2 := Lib.hid ((below_size BB.out bbw).grown gx (by have := bbw.size; omega) (fun q hq => by cases hq; exact Nat.le_refl _))
        have ND2 := Lib.hid (keys_more HIL.out ND.out hk')
        clear kp0 kp1 kp2 hrun mp gx bb1 CL PU MC n0' n1' n2' n0'' n1'' n2'' gc bbw s1 hk'
        go_wp2_with fail
        go_roundw
        case rel => exact ⟨i + 1, _, by omega, by go_num, GR2, ND2, BB2⟩
        case measure => simp [intOf]; omega
    · obtain rfl : i = n := by omega
      have et : ns.take i = ns := by rw [← HL.out, List.take_length]
      rw [et] at GR ND
      clear et
      have hgs : w.heap.size + 1 < wr.heap.size := GR.out.lt
      generalize wr = W1 at *
      go_wp2_with fail
      clear hlt hi
      go_loopw [48] (fun vi w7 => ∃ (j : Nat), j ≤ i ∧ vi = .int .i64 j ∧ Hid (Below W1.heap.size W1 w7) ∧ Hid (∀ q, q < j → ∀ p ∈ (ns.getD q default).ps, p ∈ keysOf ns)) (fun vi _ => i - (intOf vi).toNat)
      case atStart => exact ⟨0, Nat.zero_le _, rfl, Lib.hid (Below.refl _ _), Lib.hid (fun q hq => absurd hq (by omega))⟩
      case round =>
        obtain ⟨j, hj, rfl, B7, P7⟩ := hrel
        generalize wr = w7 at *
        by_cases hlt : j < i
        · have i1 : (j : Int) < i := by omega
          have i2 : (0 : Int) ≤ j := by omega
          obtain ⟨b0, off, rfl, hb0, hcs⟩ := (HR.out.below (below_size BB.out B7.out)).cells (by omega)
          obtain ⟨pa, pc, c0, c1, c2, st⟩ := hcs j hlt
          have hjl : j < ns.length := by rw [HL.out]; exact hlt
          have hkb := HK.out (ns.getD j default) (getDN_mem hjl)
          obtain ⟨nd, hnd⟩ : ∃ nd, nd = ns.getD j default := ⟨_, rfl⟩
          rw [← hnd] at c0 c1 c2 st hkb
          have HN := Lib.hid hnd; have ST := Lib.hid st; have KB := Lib.hid hkb; have HJL := Lib.hid hjl
          clear hnd st hkb hcs hb0 hjl
          go_upto_region 14 with (fail)
          have n1 := cell_alloc w7 #[.string nd.key, .slice pa nd.ps.length pc, .int .i64 nd.st] 44 (0, 0) 1 (.slice pa nd.ps.length pc) rfl
          have hb4 := (Below.refl w7.heap.size w7).alloc (Nat.le_refl _) (.cells #[.string nd.key, .slice pa nd.ps.length pc, .int .i64 nd.st] 44)
          generalize w7.alloc (.cells #[.string nd.key, .slice pa nd.ps.length pc, .int .i64 nd.st] 44) = w8 at *
          replace B7 := Lib.hid (below_size B7.out hb4); replace ST := Lib.hid (ST.out.below hb4)
          generalize w7.heap.size = gv at *
          clear c0 c1 c2 hb4
          have hm63 := ST.out.n63
          go_wp2_with fail
          clear n1
          generalize hm : nd.ps.length = m at *
          have HM := Lib.hid hm
          clear hm
          go_loopw [55] (fun vi w9 => ∃ (k : Nat), k ≤ m ∧ vi = .int .i64 k ∧ Hid (Below w8.heap.size w8 w9) ∧ Hid (∀ q, q < k → nd.ps.getD q ByteArray.empty ∈ keysOf ns)) (fun vi _ => m - (intOf vi).toNat)
          case atStart => exact ⟨0, Nat.zero_le _, rfl, Lib.hid (Below.refl _ _), Lib.hid (fun q hq => absurd hq (by omega))⟩
          case round =>
            obtain ⟨k, hk, rfl, B9, P9⟩ := hrel
            generalize wr = w9 at *
            by_cases hlt2 : k < m
            · have k1 : (k : Int) < m := by omega
              have k2 : (0 : Int) ≤ k := by omega
              obtain ⟨b1, off1, rfl, hb1, d0⟩ := (ST.out.below B9.out).cellAt k hlt2
              have hkl : k < nd.ps.length := by rw [HM.out]; exact hlt2
              have hsz := KB.out.2.2 _ (getDS_mem hkl)
              obtain ⟨p, hp⟩ : ∃ p, p = nd.ps.getD k ByteArray.empty := ⟨_, rfl⟩
              rw [← hp] at d0 hsz
              have HP := Lib.hid hp
              clear hp hb1 hkl
              have G9 := Lib.hid (GR.out.below (below_size B7.out B9.out))
              go_wp2_with fail
              clear d0
              refine (has_any _ _ M ns p _ G9.out (by unfold maxLen at *; omega)).mono ?_; rintro e w10 ⟨rfl, b10⟩
              replace B9 := Lib.hid (below_size B9.out b10)
              clear G9 b10
              by_cases hin : p ∈ keysOf ns
              · rw [decide_eq_true hin]
                have HIN := Lib.hid hin
                clear hin
                go_wp2_with fail
                go_roundw
                case rel => exact ⟨k + 1, by omega, by go_num, B9, Lib.hid (fun q hq => by
                  by_cases e : q = k
                  · subst e; rw [← HP.out]; exact HIN.out
                  · exact P9.out q (by omega))⟩
                case measure => simp [intOf]; omega
              · rw [decide_eq_false hin]
                have HIN := Lib.hid hin
                clear hin
                go_wp2_with fail
                go_ret2
                refine ⟨_, 6, rfl, .inr (.inr (.inl ⟨by have := HL.out; omega, ND.out, fun hT => ?_, rfl⟩)), fun _ => rfl, fun h => absurd h (by decide), below_size BB.out (below_size B7.out B9.out)⟩
                exact HIN.out (hT nd (by rw [HN.out]; exact getDN_mem HJL.out) p (by rw [HP.out]; exact getDS_mem (by rw [HM.out]; exact hlt2)))
            · obtain rfl : k = m := by omega
              go_wp2_with fail
              go_roundw
              case rel =>
                refine ⟨j + 1, by omega, by go_num, Lib.hid (below_size B7.out B9.out), Lib.hid (fun q hq => ?_)⟩
                by_cases e : q = j
                · subst e
                  intro p hp
                  rw [← HN.out] at hp
                  obtain ⟨t, ht, rfl⟩ := mem_getDS hp
                  exact P9.out t (by rw [← HM.out]; exact ht)
                · exact P7.out q (by omega)
              case measure => simp [intOf]; omega
        · obtain rfl : j = i := by omega
          have TH : Hid (There ns) := Lib.hid (fun n hn p hp => by
            obtain ⟨q, hq, rfl⟩ := mem_getDN hn
            exact P7.out q (by rw [HL.out] at hq; exact hq) p hp)
          clear P7
          replace GR := Lib.hid (GR.out.below B7.out); replace BB := Lib.hid (below_size BB.out B7.out)
          have hgs2 : w.heap.size + 1 < w7.heap.size := GR.out.lt
          clear B7 hgs hlt hj
          generalize w7 = W2 at *
          go_wp2_with fail
          go_loopw [67] (fun vi w7 => ∃ (i : Nat), i ≤ j ∧ vi = .int .i64 i ∧ Hid (Below W2.heap.size W2 w7) ∧ Hid (∀ q, q < i → ∀ p ∈ (ns.getD q default).ps, stOf ns p < (ns.getD q default).st)) (fun vi _ => j - (intOf vi).toNat)
          case atStart => exact ⟨0, Nat.zero_le _, rfl, Lib.hid (Below.refl _ _), Lib.hid (fun q hq => absurd hq (by omega))⟩
          case round =>
            obtain ⟨i, hi, rfl, B7, P7⟩ := hrel
            generalize wr = w7 at *
            by_cases hlt : i < j
            · have i1 : (i : Int) < j := by omega
              have i2 : (0 : Int) ≤ i := by omega
              obtain ⟨b0, off, rfl, hb0, hcs⟩ := (HR.out.below (below_size BB.out B7.out)).cells (by omega)
              obtain ⟨pa, pc, c0, c1, c2, st⟩ := hcs i hlt
              have hjl : i < ns.length := by rw [HL.out]; exact hlt
              have hkb := HK.out (ns.getD i default) (getDN_mem hjl)
              obtain ⟨nd, hnd⟩ : ∃ nd, nd = ns.getD i default := ⟨_, rfl⟩
              rw [← hnd] at c0 c1 c2 st hkb
              have HN := Lib.hid hnd; have ST := Lib.hid st; have KB := Lib.hid hkb; have HJL := Lib.hid hjl
              clear hnd st hkb hcs hb0 hjl
              go_upto_region 24 with (fail)
              have n1 := cell_alloc w7 #[.string nd.key, .slice pa nd.ps.length pc, .int .i64 nd.st] 44 (0, 0) 1 (.slice pa nd.ps.length pc) rfl
              have n2 := cell_alloc w7 #[.string nd.key, .slice pa nd.ps.length pc, .int .i64 nd.st] 44 (0, 0) 2 (.int .i64 nd.st) rfl
              have hb4 := (Below.refl w7.heap.size w7).alloc (Nat.le_refl _) (.cells #[.string nd.key, .slice pa nd.ps.length pc, .int .i64 nd.st] 44)
              have hg4 : w7.heap.size < (w7.alloc (.cells #[.string nd.key, .slice pa nd.ps.length pc, .int .i64 nd.st] 44)).heap.size := by simp
              generalize w7.alloc (.cells #[.string nd.key, .slice pa nd.ps.length pc, .int .i64 nd.st] 44) = w8 at *
              replace B7 := Lib.hid (below_size B7.out hb4); replace ST := Lib.hid (ST.out.below hb4)
              generalize w7.heap.size = gv at *
              clear c0 c1 c2 hb4
              have hm63 := ST.out.n63
              go_wp2_with fail
              clear n1
              generalize hm : nd.ps.length = m at *
              have HM := Lib.hid hm; have N2 := Lib.hid n2
              clear hm n2
              go_loopw [74] (fun vi w9 => ∃ (k : Nat), k ≤ m ∧ vi = .int .i64 k ∧ Hid (Below w8.heap.size w8 w9) ∧ Hid (∀ q, q < k → stOf ns (nd.ps.getD q ByteArray.empty) < nd.st)) (fun vi _ => m - (intOf vi).toNat)
              case atStart => exact ⟨0, Nat.zero_le _, rfl, Lib.hid (Below.refl _ _), Lib.hid (fun q hq => absurd hq (by omega))⟩
              case round =>
                obtain ⟨k, hk, rfl, B9, P9⟩ := hrel
                generalize wr = w9 at *
                by_cases hlt2 : k < m
                · have k1 : (k : Int) < m := by omega
                  have k2 : (0 : Int) ≤ k := by omega
                  obtain ⟨b1, off1, rfl, hb1, d0⟩ := (ST.out.below B9.out).cellAt k hlt2
                  have hkl : k < nd.ps.length := by rw [HM.out]; exact hlt2
                  have hsz := KB.out.2.2 _ (getDS_mem hkl)
                  obtain ⟨p, hp⟩ : ∃ p, p = nd.ps.getD k ByteArray.empty := ⟨_, rfl⟩
                  rw [← hp] at d0 hsz
                  have HP := Lib.hid hp
                  clear hp hb1 hkl
                  have G9 := Lib.hid (GR.out.below (below_size B7.out B9.out))
                  go_wp2_with fail
                  clear d0
                  obtain ⟨k', ka, kc, hlook, _⟩ := G9.out.look p hsz
                  have m2 : ∀ q, (w9.drewN q).cell? ⟨gv, 2, Option.none⟩ = some (.int .i64 nd.st) := fun q => (B9.out.cell (p := ⟨gv, 2, Option.none⟩) hg4).trans N2.out
                  have gc : ∀ q, (w9.drewN q).cell? ⟨w.heap.size + 1, 0, Option.none⟩ = some (.map (some w.heap.size)) := fun q => G9.out.cell
                  have hf2 := field2 k' ka (psOf ns p).length kc (stOf ns p)
                  go_quiet (fail)
                  clear hf2
                  replace B9 := Lib.hid (below_drewN B9.out nq)
                  clear m2 gc hlook G9
                  generalize w9.drewN nq = w10 at *
                  by_cases hin : nd.st ≤ stOf ns p
                  · have HIN := Lib.hid hin
                    rw [decide_eq_true hin]
                    clear hin
                    go_wp2_with fail
                    go_ret2
                    refine ⟨_, 1, rfl, .inr (.inr (.inr (.inl ⟨by have := HL.out; omega, ND.out, TH.out, fun hT => ?_, rfl⟩))), fun _ => rfl, fun h => absurd h (by decide), below_size BB.out (below_size B7.out B9.out)⟩
                    have h1 := hT nd (by rw [HN.out]; exact getDN_mem HJL.out) p (by rw [HP.out]; exact getDS_mem (by rw [HM.out]; exact hlt2))
                    have h2 := HIN.out
                    omega
                  · have HIN := Lib.hid hin
                    rw [decide_eq_false hin]
                    clear hin
                    go_wp2_with fail
                    go_roundw
                    case rel => exact ⟨k + 1, by omega, by go_num, B9, Lib.hid (fun q hq => by
                      by_cases e : q = k
                      · subst e; rw [← HP.out]; have := HIN.out; omega
                      · exact P9.out q (by omega))⟩
                    case measure => simp [intOf]; omega
                · obtain rfl : k = m := by omega
                  go_wp2_with fail
                  go_roundw
                  case rel =>
                    refine ⟨i + 1, by omega, by go_num, Lib.hid (below_size B7.out B9.out), Lib.hid (fun q hq => ?_)⟩
                    by_cases e : q = i
                    · subst e
                      intro p hp
                      rw [← HN.out] at hp ⊢
                      obtain ⟨t, ht, rfl⟩ := mem_getDS hp
                      exact P9.out t (by rw [← HM.out]; exact ht)
                    · exact P7.out q (by omega)
                  case measure => simp [intOf]; omega
            · obtain rfl : i = j := by omega
              have GOOD : Good ns := ⟨by have := HL.out; omega, ND.out, TH.out, fun n hn p hp => by
                obtain ⟨q, hq, rfl⟩ := mem_getDN hn
                exact P7.out q (by rw [HL.out] at hq; exact hq) p hp⟩
              go_wp2_with fail
              go_ret2
              exact ⟨_, 0, rfl, .inr (.inr (.inr (.inr ⟨GOOD, rfl⟩))), fun h => absurd rfl h, fun _ => ⟨_, _, M, rfl, GR.out.below B7.out⟩, below_size BB.out B7.out⟩
end Go.Proofs.Ytdjbmjkfpmchgaa
