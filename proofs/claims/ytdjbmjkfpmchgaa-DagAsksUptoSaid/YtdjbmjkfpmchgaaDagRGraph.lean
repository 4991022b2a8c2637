/-
  graph: the program's and the reference's, of the same nodes.
-/
import Derived.Test.YtdjbmjkfpmchgaaDagRBase
namespace Go.Proofs.Ytdjbmjkfpmchgaa
open Go.RowKit Go.Maps

set_option maxRecDepth 100000 in
theorem copyT_any (a : Option Addr) (n cap : Nat) (ks : List ByteArray) (w : World) (hr : Strs w a n cap ks) (hn : n ≤ 1048576) :
    Calls Try.prog 26 #[.slice a n cap] w (RetT w ks) := by
  obtain ⟨i0, hi, hz0, hz1, hz2⟩ := info_parts infoStr
  have Hi := Lib.hid hi; have Hz0 := Lib.hid hz0; have Hz1 := Lib.hid hz1; have Hz2 := Lib.hid hz2
  have Hl := Lib.hid hr.len
  clear hi hz0 hz1 hz2
  go_enter Try.func26, Try.ntmps26
  go_wp2_with (at_builtin; refine wpList_append_readsA (f := Value.string) (d := ByteArray.empty) _ str_one rfl _ _ 35 rfl w.heap.size 9 i0 (.string ByteArray.empty) 16 Try.underlying35 Hi.out Hz0.out Hz1.out Hz2.out rfl (some ⟨w.heap.size, 0, none⟩) 0 0 [] rfl (World.ownsRow_made w _ 0 (Nat.le_refl _) (Nat.zero_le _) rfl) a n cap ks rfl (hr.below ((Below.refl _ _).alloc (Nat.le_refl _) _)) (by unfold maxLen; omega) (by omega) (by simp) ?_)
  intro a' cap' w' hown hgrow
  have hb : Below w.heap.size w w' := below_grown ((Below.refl _ _).alloc (Nat.le_refl _) _) (World.ownsRow_made w _ 0 (Nat.le_refl _) (Nat.zero_le _) rfl) hgrow (Nat.le_refl _) (by simp)
  clear hgrow
  go_wp2
  go_ret
  unfold RetT
  rw [Hl.out]
  exact ⟨a', cap', by simp, by simpa using hown, hb⟩

theorem strs_grown {w w' : World} {a : Option Addr} {n cap : Nat} {xs : List ByteArray} {row : Option Nat} (h : Strs w a n cap xs) (hg : w.grownBy w' row) (hne : 0 < n → ∀ b o, a = some ⟨b, o, Option.none⟩ → row ≠ some b) : Strs w' a n cap xs :=
  ⟨h.len, h.le, h.max, h.nil, fun hn => by
    obtain ⟨b, off, rfl, hb, hc⟩ := h.cells hn
    exact ⟨b, off, rfl, Nat.lt_of_lt_of_le hb hg.size, fun j hj => hg.cell (hc j hj) (fun e => hne hn b off rfl e.symm)⟩⟩

theorem owns_b3 {w w' : World} {base T n : Nat} {v : Value} {ws : List Value} (h : w.ownsRow base T 3 v n ws) (hb : Below w.heap.size w w') : w'.ownsRow base T 3 v n ws :=
  h.kept (row := .none) ⟨hb.os, hb.tape, hb.output, hb.size, fun k hk _ => hb.block k hk⟩ (by cases hv : v.ownBlock <;> simp)
/-- The copies so far. -/
structure Cop (w0 w : World) (v : Value) (i : Nat) (ns : List Nd) (qs : List NdA) : Prop where
  below : Below w0.heap.size w0 w
  own : w.ownsRow w0.heap.size 48 3 v i (flatN qs)
  fst : qs.map (·.1) = ns.take i
  strs : ∀ q ∈ qs, Strs w q.2.1 q.1.ps.length q.2.2 q.1.ps
  apart : ∀ q ∈ qs, 0 < q.1.ps.length → ∀ b o, q.2.1 = some ⟨b, o, Option.none⟩ → v.ownBlock ≠ some b
theorem Cop.go {w0 w w' : World} {v : Value} {i : Nat} {ns : List Nd} {qs : List NdA} (h : Cop w0 w v i ns qs) (hb : Below w.heap.size w w') : Cop w0 w' v i ns qs :=
  ⟨below_size h.below hb, owns_b3 h.own hb, h.fst, fun q hq => (h.strs q hq).below hb, h.apart⟩
theorem Cop.more {w0 w w' : World} {a a' : Option Addr} {i cap cap' : Nat} {ns : List Nd} {qs : List NdA} (h : Cop w0 w (.slice a i cap) i ns qs) (hi : i < ns.length) {pa : Option Addr} {pc : Nat} (hs : Strs w pa (ns.getD i default).ps.length pc (ns.getD i default).ps)
    (hpa : 0 < (ns.getD i default).ps.length → ∀ b o, pa = some ⟨b, o, Option.none⟩ → (Value.slice a i cap).ownBlock ≠ some b)
    (ho : w'.ownsRow w0.heap.size 48 3 (.slice a' (i + 1) cap') (i + 1) (flatN (qs ++ [(ns.getD i default, pa, pc)]))) (hg : w.grownBy w' (Value.slice a i cap).ownBlock)
    (hn : ∀ r, (Value.slice a' (i + 1) cap').ownBlock = some r → (Value.slice a i cap).ownBlock = some r ∨ w.heap.size ≤ r) : Cop w0 w' (.slice a' (i + 1) cap') (i + 1) ns (qs ++ [(ns.getD i default, pa, pc)]) := by
  have hall : ∀ q ∈ qs ++ [(ns.getD i default, pa, pc)], Strs w q.2.1 q.1.ps.length q.2.2 q.1.ps ∧ (0 < q.1.ps.length → ∀ b o, q.2.1 = some ⟨b, o, Option.none⟩ → (Value.slice a i cap).ownBlock ≠ some b) := fun q hq => by
    rcases List.mem_append.1 hq with hq | hq
    · exact ⟨h.strs q hq, h.apart q hq⟩
    · rw [List.mem_singleton] at hq; subst hq; exact ⟨hs, hpa⟩
  refine ⟨h.below.grown hg h.below.size (fun k hk => (h.own.lt k hk).1), ho, ?_, fun q hq => strs_grown (hall q hq).1 hg (hall q hq).2, fun q hq h0 b o e e2 => ?_⟩
  · rw [List.map_append, h.fst, List.map_singleton]
    have : ns.take (i + 1) = ns.take i ++ [ns.getD i default] := by
      rw [List.take_succ_eq_append_getElem hi]; simp [List.getD, hi]
    rw [this]
  · rcases hn b e2 with e3 | e3
    · exact (hall q hq).2 h0 b o e e3
    · obtain ⟨b', o', e4, hlt, _⟩ := (hall q hq).1.cells h0
      rw [e] at e4
      injection e4 with e4; injection e4 with e5 _ _
      omega
theorem results_tmp4 {fn : Func} {t u v x : Tmp} (h : fn.results = #[.tmp t, .tmp u, .tmp v, .tmp x]) (tmps : Array Value) (P : Program) (w : World) :
    (results fn tmps).run P w = .ok (.tuple #[tmps.getD t undef, tmps.getD u undef, tmps.getD v undef, tmps.getD x undef]) w := by
  simp [results, h]
theorem infoRNd : (Try.prog.info? 48).map (fun i => (i.zero, i.size, i.bytes)) = some (some (ndV ByteArray.empty Option.none 0 0 0), 3, 48) := by kernel_rfl

def RetGr (w : World) (ns : List Nd) (e : Ending) (w' : World) : Prop :=
  ∃ (v v2 : Value) (c : Int), e = .returned (.tuple #[v, v2, .int .i64 c, .int .i64 c]) ∧ NewIs ns c ∧ (c ≠ 0 → v = .pointer Option.none ∧ v2 = .pointer Option.none) ∧ (c = 0 → (∃ g gm M, v = gp g ∧ Gr w' g gm M ns) ∧ ∃ h a n cap, v2 = gp h ∧ RG w' h a n cap ns) ∧ Below w.heap.size w w'

set_option maxRecDepth 100000 in
set_option maxHeartbeats 4000000 in
theorem graph_any (al : Option Addr) (n cap : Nat) (ns : List Nd) (w : World) (hr : NdL w al n cap ns) (hk : Keyable ns) (hP : ∀ nd ∈ ns, nd.ps.length ≤ 1048576) (hn : n ≤ 60) :
    Calls Try.prog 9 #[.slice al n cap] w (RetGr w ns) := by
  obtain ⟨i0, hi, hz0, hz1, hz2⟩ := info_parts infoRNd
  have Hi := Lib.hid hi; have Hz0 := Lib.hid hz0; have Hz1 := Lib.hid hz1; have Hz2 := Lib.hid hz2
  have HR := Lib.hid hr; have HK := Lib.hid hk; have HP := Lib.hid hP; have HL := Lib.hid hr.len
  have h63 := hr.n63
  clear hi hz0 hz1 hz2 hr hk hP
  go_enter Try.func9, Try.ntmps9
  go_wp2_with fail
  go_loopw [6, 7] (fun vm vi wr => ∃ (i : Nat) (qs : List NdA) (a : Option Addr) (cp : Nat), vm = .slice a i cp ∧ vi = .int .i64 i ∧ i ≤ n ∧ Hid (Cop w wr (.slice a i cp) i ns qs)) (fun _ vi _ => n - (intOf vi).toNat)
  case atStart => exact ⟨0, [], Option.none, 0, rfl, rfl, Nat.zero_le _, Lib.hid ⟨Below.refl _ _, World.ownsRow_nil _ _ _ _, rfl, (fun q h => nomatch h), fun q h => nomatch h⟩⟩
  case round =>
    obtain ⟨i, qs, a, cp, rfl, rfl, hi, CO⟩ := hrel
    generalize wr = w1 at *
    by_cases hlt : i < n
    · have i1 : (i : Int) < n := by omega
      have i2 : (0 : Int) ≤ i := by omega
      obtain ⟨b0, off, rfl, hb0, hcs⟩ := HR.out.cells (by omega)
      obtain ⟨pa, pc, c0, c1, c2, st⟩ := hcs i hlt
      have hil : i < ns.length := by rw [HL.out]; exact hlt
      have hpl := HP.out _ (getDN_mem hil)
      obtain ⟨nd, hnd⟩ : ∃ nd, nd = ns.getD i default := ⟨_, rfl⟩
      rw [← hnd] at c0 c1 c2 st hpl
      have HN := Lib.hid hnd; have ST := Lib.hid st; have HIL := Lib.hid hil
      have Keep : Hid (∀ v : World, Below w.heap.size w v → v.cell? ⟨b0, off + i * 3, Option.none⟩ = some (.string nd.key) ∧ v.cell? ⟨b0, off + i * 3 + 1, Option.none⟩ = some (.slice pa nd.ps.length pc) ∧ v.cell? ⟨b0, off + i * 3 + 2, Option.none⟩ = some (.int .i64 nd.st)) :=
        Lib.hid (fun v hv => ⟨(hv.cell (p := ⟨b0, _, Option.none⟩) hb0).trans c0, (hv.cell (p := ⟨b0, _, Option.none⟩) hb0).trans c1, (hv.cell (p := ⟨b0, _, Option.none⟩) hb0).trans c2⟩)
      have kp0 := Keep.out _ CO.out.below.drew
      have ST0 := Lib.hid (ST.out.below CO.out.below.drew)
      have C0 : Hid (Cop w w1.drew (.slice a i cp) i ns qs) := Lib.hid ⟨CO.out.below.drew, CO.out.own, CO.out.fst, fun q hq => (CO.out.strs q hq).drew, CO.out.apart⟩
      clear c0 c1 c2 hcs hnd st hil
      go_wp2_with fail
      go_region_held3 (fun v => v.cell? ⟨b0, off + i * 3, Option.none⟩ = some (.string nd.key) ∧ v.cell? ⟨b0, off + i * 3 + 1, Option.none⟩ = some (.slice pa nd.ps.length pc) ∧ v.cell? ⟨b0, off + i * 3 + 2, Option.none⟩ = some (.int .i64 nd.st))
        (first | with_reducible exact kp0 | with_reducible exact kp1 | with_reducible exact kp2 | with_reducible exact kp3)
        (first
        | (go_at_call 26; refine (copyT_any pa nd.ps.length pc nd.ps _ ST0.out hpl).mono ?_; rintro e x1 ⟨a1, cc1, rfl, o1, b1⟩; have C1 := C0.out.go b1; have kp1 := Keep.out _ C1.below; have hal := (Below.refl x1.heap.size x1).alloc (Nat.le_refl _) (.cells #[.string nd.key, .slice a1 nd.ps.length cc1, .int .i64 nd.st] 48); have C3 := C1.go hal; have kp2 := Keep.out _ C3.below; have hX := cells_alloc3 x1 (.string nd.key) (.slice a1 nd.ps.length cc1) (.int .i64 nd.st) 48 (0, 0); have S3 := (readsA_of_owns (f := Value.string) ByteArray.empty o1).below hal; have hone : ∀ u ∈ [Value.string nd.key, .slice a1 nd.ps.length cc1, .int .i64 nd.st], u.oneCell' = true := flatN_one [(nd, a1, cc1)])
        | (refine step_append_any rfl _ _ 47 rfl w.heap.size 48 i0 (ndV ByteArray.empty Option.none 0 0 0) 3 48 Try.underlying47 Hi.out Hz0.out Hz1.out Hz2.out rfl (by decide) a i cp (flatN qs) rfl C3.own ⟨x1.heap.size, 0, Option.none⟩ 1 1 [.string nd.key, .slice a1 nd.ps.length cc1, .int .i64 nd.st] rfl rfl hX hone (by decide) (by unfold maxLen; omega) (by omega) C3.below.size ?_; intro a6 c6 w6 ho6 hg6 hn6; have kp3 := Keep.out _ (C3.below.grown hg6 C3.below.size (fun k hk => (C3.own.lt k hk).1))))
      have hap : 0 < nd.ps.length → ∀ b o, a1 = some ⟨b, o, Option.none⟩ → (Value.slice a i cp).ownBlock ≠ some b := fun _ b o e e2 => by
        subst e
        have h1 := (o1.lt b rfl).1
        have h2 := (CO.out.own.lt b e2).2
        have h3 : w1.drew.heap.size = w1.heap.size := rfl
        omega
      have C6 := Lib.hid (Cop.more C3 HIL.out (pa := a1) (pc := cc1) (by rw [← HN.out]; exact S3) (by rw [← HN.out]; exact hap) (by rw [← HN.out, flatN_append]; exact ho6) hg6 hn6)
      clear kp0 kp1 kp2 kp3 C1 C3 hX hone S3 hal hap ho6 hg6 hn6 o1 b1 C0 CO
      go_wp2_with fail
      go_roundw
      case rel => exact ⟨i + 1, _, a6, c6, rfl, by go_num, by omega, C6⟩
      case measure => (simp [intOf] <;> omega)
    · obtain rfl : i = n := by omega
      have hnd := ndL_of_owns CO.out.own CO.out.strs
      rw [CO.out.fst, show ns.take i = ns by rw [← HL.out, List.take_length]] at hnd
      have ND := Lib.hid hnd; have BW := Lib.hid CO.out.below
      clear hnd CO hlt hi
      go_wp2_with fail
      refine (new_any _ _ _ _ _ (HR.out.below BW.out) HK.out).mono ?_; rintro e w3 ⟨v, c, rfl, hn3, hv0, hv, b3⟩
      have HV := Lib.hid hv; have HV0 := Lib.hid hv0; have HN3 := Lib.hid hn3
      replace ND := Lib.hid (ND.out.below b3); replace BW := Lib.hid (below_size BW.out b3)
      clear hn3 hv0 hv b3
      go_wp2_with fail
      refine (newGraph_any _ _ _ _ _ ND.out).mono ?_; rintro e w4 ⟨v2, c2, rfl, hn4, hw0, hw, b4⟩
      have HW := Lib.hid hw; have HW0 := Lib.hid hw0
      replace BW := Lib.hid (below_size BW.out b4)
      have hcc := hn4.uniq HN3.out
      subst hcc
      have HB := Lib.hid b4
      clear hn4 hw0 hw b4
      go_wp2_with fail
      (try simp only [Exit.inBlock, Exit.then])
      refine bodyPost_ret (results_tmp4 rfl _ _ _) rfl ?_
      refine ⟨v, v2, c2, rfl, HN3.out, fun h => ⟨HV0.out h, HW0.out h⟩, fun h => ?_, BW.out⟩
      obtain ⟨g, gm, M, e, gr⟩ := HV.out h
      obtain ⟨hh, e2, rg⟩ := HW.out h
      exact ⟨⟨g, gm, M, e, gr.below HB.out⟩, hh, a, i, cp, e2, rg⟩
end Go.Proofs.Ytdjbmjkfpmchgaa
