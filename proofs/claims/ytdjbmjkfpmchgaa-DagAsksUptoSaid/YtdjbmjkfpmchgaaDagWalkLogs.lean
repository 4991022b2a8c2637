/-
  The walk of DagLogs.
-/
import Derived.Test.YtdjbmjkfpmchgaaDagRot
import Derived.Test.YtdjbmjkfpmchgaaTexts
import Derived.Test.YtdjbmjkfpmchgaaFast
import Derived.Deep.Cut
namespace Go.Proofs.Ytdjbmjkfpmchgaa
open Go.RowKit Go.Maps

theorem log_anc {ns : List Nd} {k : ByteArray} {l u p : List ByteArray} (hl : IsLog ns k l) (hu : Rises u) (hm : ∀ x, x ∈ u ↔ x ∈ l) (hp : IsAnc ns k p) : u = p :=
  rises_ext hu hp.rises fun x => by rw [hm, hl.mem, hp.mem]
theorem log_len {ns : List Nd} {k : ByteArray} {l p : List ByteArray} (hl : IsLog ns k l) (hp : IsAnc ns k p) : p.length = l.length := by
  have h1 := List.Nodup.length_le_of_subset (rises_nodup hp.rises) (l₂ := l) (fun x hx => (hl.mem x).2 ((hp.mem x).1 hx))
  have h2 := List.Nodup.length_le_of_subset hl.nodup (l₂ := p) (fun x hx => (hp.mem x).2 ((hl.mem x).1 hx))
  omega
theorem log_pos {ns : List Nd} {k : ByteArray} {l : List ByteArray} (hl : IsLog ns k l) : 0 < l.length ↔ k ∈ keysOf ns := by
  constructor
  · intro h
    exact ((hl.mem _).1 (getDS_mem h)).1
  · intro h
    exact List.length_pos_of_mem ((hl.mem k).2 ⟨h, .refl⟩)
theorem log_le {ns : List Nd} (G : Good ns) {k : ByteArray} {l : List ByteArray} (hl : IsLog ns k l) : l.length ≤ 500 := by
  have h1 := List.Nodup.length_le_of_subset hl.nodup (l₂ := keysOf ns) (fun x hx => ((hl.mem x).1 hx).2.there G ((hl.mem x).1 hx).1)
  have h2 : (keysOf ns).length = ns.length := by simp [keysOf]
  have := G.few
  omega
theorem parent_not {ns : List Nd} (G : Good ns) {n : Nd} (hn : n ∈ ns) {p : ByteArray} (hp : p ∈ n.ps) : ancB ns n.key p = false := by
  rw [← Bool.not_eq_true, ancB_iff]
  rintro ⟨_, hr⟩
  have h1 := G.above n hn p hp
  have h2 : stOf ns n.key = n.st := by unfold stOf; rw [ndOf_mem G.nodup hn]
  rcases hr.down G with e | h
  · rw [← e, h2] at h1; omega
  · omega
theorem parent_is {ns : List Nd} (G : Good ns) {n : Nd} (hn : n ∈ ns) {p : ByteArray} (hp : p ∈ n.ps) : ancB ns p n.key = true := by
  rw [ancB_iff]
  refine ⟨List.mem_map_of_mem hn, .step .refl ?_⟩
  unfold psOf; rw [ndOf_mem G.nodup hn]; exact hp
theorem own_none (w : World) (base T : Nat) (hb : base ≤ w.heap.size) : (w.alloc (.cells #[] T)).ownsRow base T 3 (.slice (some ⟨w.heap.size, 0, Option.none⟩) 0 0) 0 [] :=
  ⟨rfl, .inr ⟨w.heap.size, 0, #[], rfl, hb, by show (w.heap.push _)[w.heap.size]? = _; simp, Nat.le_refl _, by decide, rfl, rfl⟩⟩

theorem below_grown' {B : Nat} {w0 w w' : World} {T n : Nat} {v : Value} {ws : List Value} (h : Below B w0 w) (ho : w.ownsRow B T 3 v n ws) (hg : w.grownBy w' v.ownBlock) (hB : B ≤ w.heap.size) : Below B w0 w' :=
  h.grown hg hB fun k hk => by
    rcases ho.2 with ⟨e, _⟩ | ⟨g, c, cur, e, hb, hg', _⟩
    · rw [e] at hk; simp [Value.ownBlock] at hk
    · rw [e] at hk; simp [Value.ownBlock] at hk; omega
theorem rot_nds {w w' : World} {base k : Nat} {qs : List NdA} {ns : List Nd} (hq : qs.map (·.1) = ns) (hs : ∀ q ∈ qs, Strs w q.2.1 q.1.ps.length q.2.2 q.1.ps) (hb : Below w.heap.size w w') {a : Option Addr} {n cap : Nat}
    (ho : w'.ownsRow base 44 3 (.slice a n cap) n (flatN (([] ++ qs.drop k) ++ qs.take k))) : NdL w' a n cap (ns.drop k ++ ns.take k) := by
  have := ndL_of_owns ho (fun q hq' => (hs q (by
    rw [List.nil_append] at hq'
    rcases List.mem_append.1 hq' with h | h
    · exact List.mem_of_mem_drop h
    · exact List.mem_of_mem_take h)).below hb)
  rw [List.nil_append, List.map_append, List.map_drop, List.map_take, hq] at this
  exact this

set_option maxRecDepth 100000 in
set_option maxHeartbeats 8000000 in
theorem walk_DagLogs (al : Option Addr) (n cap : Nat) (ns : List Nd) (key : ByteArray) (turn : Int) (w : World) (hk : Keyable ns) (hr : NdL w al n cap ns) (hkey : key.size ≤ maxLen) (ht : -9223372036854775808 ≤ turn ∧ turn ≤ 9223372036854775807) :
    Calls Try.prog 5 #[.slice al n cap, .string key, .int .i64 turn] w fun e w' => e = .returned (.bool true) ∧ Below w.heap.size w w' := by
  have HR := Lib.hid hr; have HK := Lib.hid hk
  have ha' : (key.size : Int) ≤ 9223372036854775807 := by unfold maxLen at hkey; omega
  have HA := Lib.hid hkey
  have h63 := hr.n63
  clear hr hk hkey
  go_enter Try.func5, Try.ntmps5
  go_wp2_with fail
  refine (first_any _).mono ?_; rintro e w1 ⟨rfl, b1⟩
  replace HR := Lib.hid (HR.out.below b1)
  have BB := Lib.hid b1
  clear b1
  go_wp2_with fail
  refine (few_any _ _ _ _ _ HR.out).mono ?_; rintro e w2 ⟨⟨bf, rfl, hbf⟩, q, rfl⟩
  replace HR := Lib.hid (HR.out.below (below_drewN (Below.refl _ _) q))
  replace BB := Lib.hid (below_drewN BB.out q)
  generalize w1.drewN q = w2 at *
  cases bf with
  | false =>
    go_wp2_with fail
    refine (first_any _).mono ?_; rintro e w3 ⟨rfl, b3⟩
    go_wp2_with fail
    go_ret
    exact ⟨rfl, below_size BB.out b3⟩
  | true =>
  have h60 := hbf rfl
  by_cases hla : 1000 < key.size
  · have hla' : (1000 : Int) < (key.size : Int) := by omega
    go_wp2_with fail
    refine (first_any _).mono ?_; rintro e w3 ⟨rfl, b3⟩
    go_wp2_with fail
    go_ret
    exact ⟨rfl, below_size BB.out b3⟩
  have hla' : ¬ (1000 : Int) < (key.size : Int) := by omega
  by_cases ht0 : turn < 0
  · go_wp2_with fail
    refine (first_any _).mono ?_; rintro e w3 ⟨rfl, b3⟩
    go_wp2_with fail
    go_ret
    exact ⟨rfl, below_size BB.out b3⟩
  obtain ⟨tn, rfl⟩ := Int.eq_ofNat_of_zero_le (by omega : 0 ≤ turn)
  go_wp2_with fail
  refine (new_any _ _ _ _ _ HR.out HK.out).mono ?_; rintro e w3 ⟨v, c, rfl, hn, hv0, hv, b3⟩
  replace BB := Lib.hid (below_size BB.out b3); replace HR := Lib.hid (HR.out.below b3)
  clear b3 hla hla' hbf
  by_cases hc : c = 0
  · subst hc
    obtain ⟨g, gm, M, rfl, gr⟩ := hv rfl
    have GR := Lib.hid gr; have GD := Lib.hid (good_new hn)
    clear hn hv0 hv gr
    go_upto_if 48 with (fail)
    go_cut [9] from 15 (fun vk wx => ∃ k : Nat, vk = .int .i64 k ∧ k ≤ n ∧ wx = w3)
    case first =>
      by_cases hn0 : 0 < n
      · have hn1 : (0 : Int) < n := by omega
        go_wp2_with fail
        go_meet
        case rel => exact ⟨tn % n, by simp, by have := Nat.mod_lt tn hn0; omega, rfl⟩
      · have hn1 : ¬ (0 : Int) < n := by omega
        go_wp2_with fail
        go_meet
        case rel => exact ⟨0, rfl, Nat.zero_le _, rfl⟩
    case rest =>
      obtain ⟨k, rfl, hk, rfl⟩ := hcut
      generalize wc = w4 at *
      have hst := HR.out.nil
      obtain ⟨qs, hqs, hsq, hit⟩ := HR.out.items
      have hql : qs.length = n := by rw [← HR.out.len, ← hqs, List.length_map]
      have IT : Hid (ItemsN w4 al n qs) := Lib.hid ⟨hql, fun e => (hst e).1, hit⟩
      have SQ := Lib.hid hsq; have QQ := Lib.hid hqs
      have hnil := fun (e : cut3 al k cap = Option.none) => (show cap - k = 0 by
        unfold cut3 at e
        split at e
        · omega
        · cases hal : al with
          | none => have := hst hal; omega
          | some x => rw [hal] at e; simp at e)
      have HNI := Lib.hid hnil; have HNA := Lib.hid (fun e => (hst e).2)
      have hle := HR.out.le
      have hs1 : ∀ z : World, (Instr.slice 22 (.slice al n cap) (some (.int .i64 (k : Int))) Option.none Option.none).run Try.prog z = .ok (.slice (cut3 al k cap) (n - k) (cap - k)) z := fun z =>
        run_slice3_lo (P := Try.prog) 22 44 Try.underlying22 (by kernel_rfl) al n cap k .i64 hk z
      have hs2 : ∀ z : World, (Instr.slice 22 (.slice al n cap) Option.none (some (.int .i64 (k : Int))) Option.none).run Try.prog z = .ok (.slice al k cap) z := fun z =>
        run_slice3_hi (P := Try.prog) 22 44 Try.underlying22 (by kernel_rfl) al n cap k .i64 (by omega) z
      clear hqs hsq hit hst hnil
      have I1 := Lib.hid (IT.out.drop cap k hk hle)
      have I2 := Lib.hid (IT.out.take k hk)
      have hnk : n - k + k = n := by omega
      have hnk2 : n - k ≤ 60 := by omega
      generalize cut3 al k cap = ac at *
      generalize n - k = nd at *
      generalize cap - k = cd at *
      have hbl := BB.out.size
      have hal := ((Below.refl w4.heap.size w4).alloc (Nat.le_refl _) (.cells #[] 44)).drew
      have O0 : Hid ((w4.alloc (.cells #[] 44)).drew.ownsRow w4.heap.size 44 3 (.slice (some ⟨w4.heap.size, 0, Option.none⟩) 0 0) 0 (flatN [])) := Lib.hid (own_none w4 w4.heap.size 44 (Nat.le_refl _))
      have hsz1 : (w4.alloc (.cells #[] 44)).drew.heap.size = w4.heap.size + 1 := by show (w4.alloc _).heap.size = _; simp
      have J1 := Lib.hid (I1.out.below hal)
      have HAL := Lib.hid hal
      clear hal
      go_wp2_with fail
      go_region_held3 (fun _ => True)
        (exact trivial)
        (first
        | (go_at_call 23; refine (new_any al7 n cp7 (ns.drop k ++ ns.take k) _ ND7 (rot_keyable k HK.out)).mono ?_; rintro e w8 ⟨v, c, rfl, hn8, _, hv8, b8⟩)
        | (refine step_append_nds rfl _ _ rfl w4.heap.size (some ⟨w4.heap.size, 0, Option.none⟩) 0 0 [] rfl O0.out ac nd cd (qs.drop k) rfl HNI.out J1.out (by omega) (by rw [hsz1]; omega) nd (Nat.zero_add nd) ?_; intro al5 cp5 w5 ho5 hg5; have b5 := HAL.out.grown hg5 (by rw [hsz1]; omega) (fun q hq => by simp [Value.ownBlock] at hq; omega))
        | (refine step_append_nds rfl _ _ rfl w4.heap.size al5 nd cp5 ([] ++ qs.drop k) rfl ho5 al k cap (qs.take k) rfl HNA.out (I2.out.below b5) (by omega) b5.size n hnk ?_; intro al7 cp7 w7 ho7 hg7; have b7 := below_grown' b5 ho5 hg7 b5.size; have ND7 := rot_nds QQ.out SQ.out b7 ho7))
      have hmem := rot_mem ns k
      have hnd2 := rot_nodup k GD.out.nodup
      have hks2 := rot_keyable k HK.out
      have hln2 : (ns.drop k ++ ns.take k).length = ns.length := by simp; omega
      generalize ns.drop k ++ ns.take k = ms at *
      have hG2 := same_good GD.out hnd2 hln2 hmem
      obtain rfl := new_good hG2 hn8
      obtain ⟨g2, gm2, M2, rfl, gr2⟩ := hv8 rfl
      have b78 := below_size b7 b8
      have GR2 := Lib.hid gr2; have GD2 := Lib.hid hG2; have HK2 := Lib.hid hks2; have HME := Lib.hid hmem; have HN2 := Lib.hid hnd2
      replace GR := Lib.hid (GR.out.below b78); replace BB := Lib.hid (below_size BB.out b78); replace HR := Lib.hid (HR.out.below b78)
      clear hmem hnd2 hks2 hln2 hG2 hn8 hv8 gr2 b7 b8 b78 b5 ho5 hg5 ho7 hg7 ND7 hs1 hs2 O0 hsz1 J1 HAL I1 I2 IT SQ QQ HNI HNA hbl hnk hnk2 hle
      have hl60 : ns.length ≤ 60 := by rw [HR.out.len]; exact h60
      generalize w8 = x1 at *
      go_wp2_with fail
      refine (log_any g2 gm2 M2 ms key _ GR2.out GD2.out HK2.out HA.out).mono ?_; rintro e x2 ⟨l2, hl2, a2, c2, rfl, o2, b2⟩
      have L2 := Lib.hid (same_log GD.out HN2.out HME.out hl2)
      have R2 := Lib.hid (readsA_of_owns (f := Value.string) ByteArray.empty o2)
      replace GR := Lib.hid (GR.out.below b2); replace BB := Lib.hid (below_size BB.out b2); replace HR := Lib.hid (HR.out.below b2)
      clear hl2 o2 b2
      go_wp2_with fail
      refine (log_any g gm M ns key _ GR.out GD.out HK.out HA.out).mono ?_; rintro e x3 ⟨l, hl, a3, c3, rfl, o3, b3⟩
      obtain rfl := L2.out.uniq hl
      have R3 := Lib.hid (readsA_of_owns (f := Value.string) ByteArray.empty o3)
      replace R2 := Lib.hid (R2.out.below b3)
      replace GR := Lib.hid (GR.out.below b3); replace BB := Lib.hid (below_size BB.out b3); replace HR := Lib.hid (HR.out.below b3)
      clear hl o3 b3
      go_wp2_with fail
      refine (texts_any _ _ _ _ _ _ l2 l2 _ R2.out R3.out).mono ?_; rintro e x4 ⟨rfl, b4⟩
      rw [decide_eq_true rfl]
      replace GR := Lib.hid (GR.out.below b4); replace BB := Lib.hid (below_size BB.out b4); replace HR := Lib.hid (HR.out.below b4)
      clear R2 R3 b4
      go_wp2_with fail
      refine (log_any g gm M ns key _ GR.out GD.out HK.out HA.out).mono ?_; rintro e x5 ⟨l, hl, a5, c5, rfl, o5, b5⟩
      obtain rfl := L2.out.uniq hl
      have R5 := Lib.hid (readsA_of_owns (f := Value.string) ByteArray.empty o5)
      replace GR := Lib.hid (GR.out.below b5); replace BB := Lib.hid (below_size BB.out b5); replace HR := Lib.hid (HR.out.below b5)
      have hll := log_le GD.out L2.out
      clear hl o5 b5
      go_upto_region 15 with (fail)
      go_cut [120] from 121 (fun v wx => v = .bool false ∧ Hid (Below x5.heap.size x5 wx))
      case first =>
        have RB := Lib.hid (Below.refl x5.heap.size x5)
        go_wp2_with fail
        refine (unique_any _ _ _ l2 _ R5.out (by omega)).mono ?_; rintro e x6 ⟨u, hu, hum, a6, c6, rfl, o6, b6⟩
        have R6 := Lib.hid (readsA_of_owns (f := Value.string) ByteArray.empty o6)
        replace GR := Lib.hid (GR.out.below b6); replace RB := Lib.hid (below_size RB.out b6); replace R5 := Lib.hid (R5.out.below b6)
        have HU := Lib.hid hu; have HUM := Lib.hid hum
        clear hu hum o6 b6 HR BB
        go_wp2_with fail
        refine (anc_any g gm M ns key _ GR.out GD.out HK.out HA.out).mono ?_; rintro e x7 ⟨p, hp, a7, c7, rfl, o7, b7⟩
        obtain rfl := log_anc L2.out HU.out HUM.out hp
        have hpl := log_len L2.out hp
        have R7 := Lib.hid (readsA_of_owns (f := Value.string) ByteArray.empty o7)
        replace GR := Lib.hid (GR.out.below b7); replace RB := Lib.hid (below_size RB.out b7); replace R5 := Lib.hid (R5.out.below b7); replace R6 := Lib.hid (R6.out.below b7)
        have HPA := Lib.hid hp; have HPL := Lib.hid hpl
        clear hp o7 b7 hpl
        go_wp2_with fail
        refine (texts_any _ _ _ _ _ _ u u _ R6.out R7.out).mono ?_; rintro e x8 ⟨rfl, b8⟩
        rw [decide_eq_true rfl]
        replace GR := Lib.hid (GR.out.below b8); replace RB := Lib.hid (below_size RB.out b8); replace R5 := Lib.hid (R5.out.below b8)
        clear R6 R7 b8
        go_wp2_with fail
        refine (unique_any _ _ _ l2 _ R5.out (by omega)).mono ?_; rintro e x9 ⟨u2, hu2, hum2, a9, c9, rfl, o9, b9⟩
        obtain rfl := log_anc L2.out hu2 hum2 HPA.out
        replace GR := Lib.hid (GR.out.below b9); replace RB := Lib.hid (below_size RB.out b9); replace R5 := Lib.hid (R5.out.below b9)
        clear hu2 hum2 o9 b9
        rw [HPL.out]
        go_wp2_with fail
        refine (has_any g gm M ns key _ GR.out HA.out).mono ?_; rintro e x10 ⟨rfl, b10⟩
        replace RB := Lib.hid (below_size RB.out b10); replace R5 := Lib.hid (R5.out.below b10)
        clear b10
        by_cases hin : key ∈ keysOf ns
        · rw [decide_eq_true hin]
          have hpos := (log_pos L2.out).2 hin
          have hpos' : (0 : Int) < l2.length := by omega
          have hdec : decide ((0 : Int) < l2.length) = true := decide_eq_true hpos'
          obtain ⟨m, hm⟩ := L2.out.head GD.out hin
          obtain ⟨bb, off, rfl, _, c0⟩ := R5.out.cellAt 0 hpos
          have e0 : l2.getD 0 ByteArray.empty = key := by rw [hm]; rfl
          rw [e0, Nat.add_zero] at c0
          have hkk := str_eq key
          clear hm e0 hin
          go_wp2_with fail
          go_meet
          case rel => exact ⟨rfl, RB⟩
        · rw [decide_eq_false hin]
          have hpos : ¬ 0 < l2.length := fun h => hin ((log_pos L2.out).1 h)
          have hpos' : ¬ (0 : Int) < l2.length := by omega
          have hdec : decide ((0 : Int) < l2.length) = false := decide_eq_false hpos'
          go_wp2_with fail
          go_meet
          case rel => exact ⟨rfl, RB⟩
      case rest =>
        obtain ⟨rfl, B6⟩ := hcut
        replace GR := Lib.hid (GR.out.below B6.out); replace BB := Lib.hid (below_size BB.out B6.out); replace HR := Lib.hid (HR.out.below B6.out)
        generalize wc = y0 at *
        go_wp2_with fail
        go_loopw [13] (fun vi wr => ∃ i : Nat, i ≤ n ∧ vi = .int .i64 i ∧ Hid (Below y0.heap.size y0 wr)) (fun vi _ => n - (intOf vi).toNat)
        case atStart => exact ⟨0, Nat.zero_le _, rfl, Lib.hid (Below.refl _ _)⟩
        case round =>
          obtain ⟨i, hi, rfl, B7⟩ := hrel
          generalize wr = y1 at *
          by_cases hlt : i < n
          · have i1 : (i : Int) < n := by omega
            have i2 : (0 : Int) ≤ i := by omega
            obtain ⟨b0, off, rfl, _, _⟩ := HR.out.cells (by omega)
            go_wp2_with fail
            go_loopw [14] (fun vj wr => ∃ j : Nat, j ≤ (ns.getD i default).ps.length ∧ vj = .int .i64 j ∧ Hid (Below y1.heap.size y1 wr)) (fun vj _ => (ns.getD i default).ps.length - (intOf vj).toNat)
            case atStart => exact ⟨0, Nat.zero_le _, rfl, Lib.hid (Below.refl _ _)⟩
            case round =>
              obtain ⟨j, hj, rfl, B8⟩ := hrel
              generalize wr = y2 at *
              have B78 := Lib.hid (below_size B7.out B8.out)
              obtain ⟨_, _, e0, hb0, hcs⟩ := (HR.out.below B78.out).cells (by omega)
              obtain ⟨rfl, rfl⟩ : b0 = _ ∧ off = _ := by simpa using e0
              obtain ⟨pa, pc, c0, c1, c2, st⟩ := hcs i hlt
              have hnm : ns.getD i default ∈ ns := getDN_mem (by rw [HR.out.len]; exact hlt)
              have hkb := HK.out _ hnm
              obtain ⟨nd, hnd⟩ : ∃ nd, nd = ns.getD i default := ⟨_, rfl⟩
              rw [← hnd] at c0 c1 st hkb hnm hj
              have HND := Lib.hid hnd; have ST := Lib.hid st; have KB := Lib.hid hkb; have NM := Lib.hid hnm
              have hm63 := st.n63
              clear hnd hkb hnm st c2 hcs e0
              by_cases hlt2 : j < nd.ps.length
              · have j1 : (j : Int) < nd.ps.length := by omega
                have j2 : (0 : Int) ≤ j := by omega
                obtain ⟨b1, off1, rfl, hb1, d0⟩ := ST.out.cellAt j hlt2
                have hpm : nd.ps.getD j ByteArray.empty ∈ nd.ps := getDS_mem hlt2
                obtain ⟨p, hp⟩ : ∃ p, p = nd.ps.getD j ByteArray.empty := ⟨_, rfl⟩
                rw [← hp] at d0 hpm
                clear hp
                have hps := KB.out.2.2 p hpm
                have G8 := Lib.hid (GR.out.below B78.out)
                have hI1 : ∀ x : GrownW y2, Calls Try.prog 19 #[gp g, .string nd.key, .string p] x.val fun e w' => e = .returned (.bool false) ∧ Below x.val.heap.size x.val w' := fun x => by
                  rw [← parent_not GD.out NM.out hpm]
                  exact is_any g gm M ns nd.key p x.val (G8.out.below x.below) GD.out HK.out hps
                have hI2 : ∀ x : GrownW y2, Calls Try.prog 19 #[gp g, .string p, .string nd.key] x.val fun e w' => e = .returned (.bool true) ∧ Below x.val.heap.size x.val w' := fun x => by
                  rw [← parent_is GD.out NM.out hpm]
                  exact is_any g gm M ns p nd.key x.val (G8.out.below x.below) GD.out HK.out KB.out.1
                clear hpm hps
                generalize hml : nd.ps.length = m at *
                go_upto_region 23 with (fail)
                have f0 := fun x : GrownW y2 => x.cell hb0 c0
                have f1 := fun x : GrownW y2 => x.cell hb0 c1
                have f2 := fun x : GrownW y2 => x.cell hb1 d0
                clear c0 c1 d0
                generalize nd.key = nk at *
                refine wp_region_grow_fast (by kernel_rfl) (by kernel_rfl) ?_
                repeat (go_big_quiet_step (first | (go_at_call 19; first | with_reducible exact grow_call (hI1 _) | with_reducible exact grow_call (hI2 _))))
                refine wpQuiet_nil ?_
                intro wg hw'
                obtain ⟨⟨wz, hbg⟩, hw''⟩ := hw'
                subst hw''
                clear f0 f1 f2 hI1 hI2
                go_wp2_with fail
                go_roundw
                case rel => exact ⟨j + 1, by rw [← HND.out, hml]; omega, by go_num, Lib.hid (below_size B8.out hbg)⟩
                case measure => rw [show (ns.getD i default).ps.length = m by rw [← HND.out, hml]]; simp [intOf]; omega
              · have j1 : ¬ (j : Int) < nd.ps.length := by omega
                generalize hml : nd.ps.length = m at *
                go_wp2_with fail
                go_roundw
                case rel => exact ⟨i + 1, by omega, by go_num, B78⟩
                case measure => simp [intOf]; omega
          · have i1 : ¬ (i : Int) < n := by omega
            go_wp2_with fail
            refine (first_any _).mono ?_; rintro e z ⟨rfl, bz⟩
            go_wp2_with fail
            go_ret
            exact ⟨rfl, below_size BB.out (below_size B7.out bz)⟩
  · obtain rfl := hv0 hc
    go_wp2_with fail
    refine (first_any _).mono ?_; rintro e w4 ⟨rfl, b4⟩
    go_wp2_with fail
    go_ret
    exact ⟨rfl, below_size BB.out b4⟩
end Go.Proofs.Ytdjbmjkfpmchgaa
