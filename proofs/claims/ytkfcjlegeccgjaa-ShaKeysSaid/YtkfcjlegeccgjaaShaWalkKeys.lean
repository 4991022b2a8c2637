/-
  The walk of ShaKeys.
-/
import Derived.Test.YtkfcjlegeccgjaaShaHexPure
namespace Go.Proofs.Ytkfcjlegeccgjaa
open Go.RowKit

/-- append behind a guard that says yes. -/
theorem wpList_append_readsG {P : Program} (w : World) {ops : Array Oper} {rest : List Oper} {o : Oper} {act : Act} {Q : Exit → Act → World → Prop} (hgd : Region.wanted o (yielded ops act.tmps) = true) (s x : Operand) (t : TypeId)
    (ho : o.op = Op.call { callee := Callee.builtin Builtin.append, args := #[s, x], argTypes := #[t, t] })
    (base : Nat) (e : TypeId) (i : TypeInfo) (z : Value) (bytes : Nat) (ht : P.underlying t = some (.slice e)) (hi : P.info? e = some i) (hz : i.zero = some z) (hsize : i.size = 1) (hby : i.bytes = bytes) (hzs : z.cells.size = 1)
    (k : IntKind) (a : Option Addr) (n cap : Nat) (xs : List Int) (hs : act.eval s = .slice a n cap) (hown : w.ownsRow base e 1 (.slice a n cap) n (xs.map (Value.int k))) (b : Option Addr) (m c : Nat) (ys : List Int) (hx : act.eval x = .slice b m c) (hr : Reads k w b m c ys)
    (h63 : n + m ≤ maxLen) (hbytes : (n + m) * bytes ≤ 140737488355328) (hbase : base ≤ w.heap.size)
    (h : ∀ a' cap' w', w'.ownsRow base e 1 (.slice a' (n + m) cap') (n + m) ((xs ++ ys).map (Value.int k)) → w.grownBy w' (Value.slice a n cap).ownBlock → (a' = none ↔ a = none ∧ m = 0) → wpList P ops Q rest (act.put o.dst (.slice a' (n + m) cap')) w') : wpList P ops Q (o :: rest) act w := by
  unfold wpList
  rw [if_pos hgd]
  refine Or.inl ?_
  obtain ⟨a', cap', w', hr, h2, h3, h4⟩ := run_append_reads (P := P) w base t o.type e i z bytes ht hi hz hsize hby hzs k a n cap xs hown b m c ys hr h63 hbytes hbase
  unfold Oper.wp execOp
  simp only [ho, resolve, invoke, builtin, Sem.run_bind, Sem.run_pure, Result.andThen_ok, List.map_toArray, List.map_cons, List.map_nil, hs, hx, hr]
  exact h a' cap' w' h2 h3 h4
theorem valid_key (xs : List Int) : validB (keyS xs) = true := by
  have h := hex_ok (shaB xs) (shaB_isB xs)
  rw [shaB_len] at h
  unfold validB keyS
  simp [h.1, h.2.2]
theorem valid_63 (s : ByteArray) (h : s.size = 63) : validB s = false := by
  unfold validB
  simp only [decide_eq_false_iff_not]
  rintro ⟨⟨h1, _⟩, _⟩
  omega

theorem keys_not (a : Option Addr) (n ca : Nat) (b : Option Addr) (m cb : Nat) (w : World) (_hn : n ≤ 9223372036854775807) (_hm : m ≤ 9223372036854775807) (h : ¬ (n ≤ 4000 ∧ m ≤ 4000)) :
    Calls Try.prog 4 #[.slice a n ca, .slice b m cb] w fun e w' => e = .returned (.bool true) ∧ Below w.heap.size w w' := by
  by_cases h1 : n ≤ 4000
  · have h2 : (4000 : Int) < m := by omega
    have h3 : ¬ (4000 : Int) < n := by omega
    clear h
    go_enter Try.func4, Try.ntmps4
    go_wp2_with fail
    refine (first_any w).mono ?_; rintro e w1 ⟨rfl, b1⟩
    go_wp2_with fail
    refine (first_any w1).mono ?_; rintro e w2 ⟨rfl, b2⟩
    go_wp2_with fail
    go_ret
    exact ⟨rfl, below_size b1 b2⟩
  · have h3 : (4000 : Int) < n := by omega
    clear h
    go_enter Try.func4, Try.ntmps4
    go_wp2_with fail
    refine (first_any w).mono ?_; rintro e w1 ⟨rfl, b1⟩
    go_wp2_with fail
    refine (first_any w1).mono ?_; rintro e w2 ⟨rfl, b2⟩
    go_wp2_with fail
    go_ret
    exact ⟨rfl, below_size b1 b2⟩

set_option maxRecDepth 100000 in
set_option maxHeartbeats 1000000 in
theorem keys_in (a : Option Addr) (n ca : Nat) (xs : List Int) (b : Option Addr) (m cb : Nat) (ys : List Int) (w : World) (hx : Reads .u8 w a n ca xs) (bx : isB xs) (hy : Reads .u8 w b m cb ys) (by_ : isB ys) (hn : n ≤ 4000) (hm : m ≤ 4000) :
    Calls Try.prog 4 #[.slice a n ca, .slice b m cb] w fun e w' => e = .returned (.bool true) ∧ Below w.heap.size w w' := by
  obtain ⟨i0, hi, hz0, hz1, hz2⟩ := info_parts infoC
  have Hi := Lib.hid hi; have Hz0 := Lib.hid hz0; have Hz1 := Lib.hid hz1; have Hz2 := Lib.hid hz2
  have HX := Lib.hid hx; have HY := Lib.hid hy; have BX := Lib.hid bx; have BY := Lib.hid by_; have LX := Lib.hid hx.len; have LY := Lib.hid hy.len
  have h1 : ¬ (4000 : Int) < n := by omega
  have h2 : ¬ (4000 : Int) < m := by omega
  clear hi hz0 hz1 hz2 hx hy bx by_
  go_enter Try.func4, Try.ntmps4
  go_wp2_with fail
  refine (first_any w).mono ?_; rintro e w1 ⟨rfl, b1⟩
  have B := Lib.hid b1
  replace HX := Lib.hid (HX.out.below b1); replace HY := Lib.hid (HY.out.below b1)
  clear b1
  go_wp2_with fail
  refine (key_any a n ca xs w1 HX.out BX.out (by omega)).mono ?_; rintro e w2 ⟨rfl, b2⟩
  replace B := Lib.hid (below_size B.out b2)
  replace HX := Lib.hid (HX.out.below b2); replace HY := Lib.hid (HY.out.below b2)
  clear b2
  have V := Lib.hid (valid_key xs)
  have hp := hex_ok (shaB xs) (shaB_isB xs)
  rw [shaB_len] at hp
  have hk0 : strOfNums (hexL (shaB xs)) = keyS xs := rfl
  rw [hk0] at hp
  clear hk0
  generalize hK : keyS xs = K at *
  have HK := Lib.hid hK
  obtain ⟨p1, p2, p3⟩ := hp
  have P1 := Lib.hid p1; have P2 := Lib.hid p2
  have K2 : K.size / 2 = 32 := by omega
  have K64 : K.size = 64 := by omega
  clear hK p1 p2 p3
  go_wp2_with fail
  refine (unhex_any K w2 (by omega)).mono ?_; rintro e w3 ⟨b3, ⟨_, a6, c6, rfl, o6⟩ | ⟨hno, _⟩⟩
  case inr => exact absurd P1.out hno
  rw [K2, P2.out] at o6
  rw [K2]
  have O6 := Lib.hid o6
  replace B := Lib.hid (below_size B.out b3)
  replace HX := Lib.hid (HX.out.below b3); replace HY := Lib.hid (HY.out.below b3)
  clear o6 b3 K2
  go_wp2_with fail
  refine (first_any w3).mono ?_; rintro e w4 ⟨rfl, b4⟩
  replace B := Lib.hid (below_size B.out b4)
  replace HX := Lib.hid (HX.out.below b4); replace HY := Lib.hid (HY.out.below b4); replace O6 := Lib.hid (owns_below O6.out b4)
  clear b4
  go_wp2_with fail
  refine (sum_any a n ca xs w4 HX.out BX.out (by omega)).mono ?_; rintro e w5 ⟨a7, c7, rfl, o7, b5⟩
  rw [shaB_len] at o7 ⊢
  replace B := Lib.hid (below_size B.out b5)
  replace HX := Lib.hid (HX.out.below b5); replace HY := Lib.hid (HY.out.below b5); replace O6 := Lib.hid (owns_below O6.out b5)
  have q1 := bytes_any a6 a7 32 c6 32 c7 _ _ w5 (reads_of_owns O6.out) (reads_of_owns o7) (shaB_isB xs) (shaB_isB xs)
  rw [decide_eq_true rfl] at q1
  have Q1 := Lib.hid q1
  clear o7 b5 q1 O6
  go_wp2_with fail
  refine Q1.out.mono ?_; rintro e w6 ⟨rfl, rfl⟩
  clear Q1
  go_wp2_with fail
  refine (valid_any K _ (by omega)).mono ?_; rintro e w7 ⟨rfl, b7⟩
  rw [V.out]
  replace B := Lib.hid (below_size B.out b7)
  replace HX := Lib.hid (HX.out.below b7); replace HY := Lib.hid (HY.out.below b7)
  clear b7
  go_wp2_with fail
  have e63 : (K.extract 0 63).size = 63 := by rw [ByteArray.size_extract]; omega
  refine (valid_any (K.extract 0 63) _ (by omega)).mono ?_; rintro e w8 ⟨rfl, b8⟩
  rw [valid_63 _ e63]
  replace B := Lib.hid (below_size B.out b8)
  replace HX := Lib.hid (HX.out.below b8); replace HY := Lib.hid (HY.out.below b8)
  clear b8 e63
  go_wp2_with fail
  refine (bytes_any a b n ca m cb xs ys w8 HX.out HY.out BX.out BY.out).mono ?_; rintro e w9 ⟨rfl, rfl⟩
  by_cases hxy : xs = ys
  · rw [decide_eq_true hxy]
    have HE := Lib.hid hxy
    clear hxy
    go_wp2_with fail
    refine (key_any b m cb ys _ HY.out BY.out (by omega)).mono ?_; rintro e w10 ⟨rfl, b10⟩
    rw [← HE.out, HK.out]
    replace B := Lib.hid (below_size B.out b10)
    replace HX := Lib.hid (HX.out.below b10); replace HY := Lib.hid (HY.out.below b10)
    clear b10
    go_wp2_with fail
    have HW := Lib.hid B.out.size
    refine (copyBytes_any a n ca xs _ HX.out (by omega)).mono ?_; rintro e w11 ⟨a8, c8, rfl, o8, b11⟩
    rw [LX.out] at o8 ⊢
    replace B := Lib.hid (below_size B.out b11)
    replace HY := Lib.hid (HY.out.below b11)
    have Z := Lib.hid b11.size
    have O8 := Lib.hid o8
    clear o8 b11
    go_wp2_with (at_builtin; go_loud (refine wpList_append_readsG _ (by rfl) _ _ 22 rfl w10.heap.size 5 i0 (.int .u8 0) 1 Try.underlying22 Hi.out Hz0.out Hz1.out Hz2.out rfl .u8 a8 n c8 xs rfl O8.out b m cb ys rfl HY.out (by unfold maxLen; omega) (by omega) Z.out ?_); intro a9 c9 w12 r9 g9 _)
    have r9 := reads_of_owns r9
    have bz := B.out.grown g9 (by exact B.out.size) (fun k hk => Nat.le_trans HW.out (O8.out.lt k hk).1)
    replace B := Lib.hid bz
    clear bz g9
    have BXY := Lib.hid (BX.out.append BY.out)
    have R9 := Lib.hid r9
    clear r9
    go_wp2_with fail
    refine (key_any a9 _ c9 (xs ++ ys) _ R9.out BXY.out (by omega)).mono ?_; rintro e w13 ⟨rfl, b13⟩
    replace B := Lib.hid (below_size B.out b13)
    clear b13
    have V2 := Lib.hid (valid_key (xs ++ ys))
    have S2 := (hex_ok (shaB (xs ++ ys)) (shaB_isB _)).2.2
    rw [shaB_len] at S2
    have hs2 : (keyS (xs ++ ys)).size = 64 := S2
    clear S2
    generalize keyS (xs ++ ys) = K2 at *
    go_wp2_with fail
    refine (valid_any K2 _ (by omega)).mono ?_; rintro e w14 ⟨rfl, b14⟩
    rw [V2.out]
    replace B := Lib.hid (below_size B.out b14)
    clear b14
    go_wp2_with fail
    go_ret
    exact ⟨rfl, B.out⟩
  · rw [decide_eq_false hxy]
    clear hxy
    go_wp2_with fail
    have HW := Lib.hid B.out.size
    refine (copyBytes_any a n ca xs _ HX.out (by omega)).mono ?_; rintro e w11 ⟨a8, c8, rfl, o8, b11⟩
    rw [LX.out] at o8 ⊢
    replace B := Lib.hid (below_size B.out b11)
    replace HY := Lib.hid (HY.out.below b11)
    have Z := Lib.hid b11.size
    have O8 := Lib.hid o8
    clear o8 b11
    go_wp2_with (at_builtin; go_loud (refine wpList_append_readsG _ (by rfl) _ _ 22 rfl w9.heap.size 5 i0 (.int .u8 0) 1 Try.underlying22 Hi.out Hz0.out Hz1.out Hz2.out rfl .u8 a8 n c8 xs rfl O8.out b m cb ys rfl HY.out (by unfold maxLen; omega) (by omega) Z.out ?_); intro a9 c9 w12 r9 g9 _)
    have r9 := reads_of_owns r9
    have bz := B.out.grown g9 (by exact B.out.size) (fun k hk => Nat.le_trans HW.out (O8.out.lt k hk).1)
    replace B := Lib.hid bz
    clear bz g9
    have BXY := Lib.hid (BX.out.append BY.out)
    have R9 := Lib.hid r9
    clear r9
    go_wp2_with fail
    refine (key_any a9 _ c9 (xs ++ ys) _ R9.out BXY.out (by omega)).mono ?_; rintro e w13 ⟨rfl, b13⟩
    replace B := Lib.hid (below_size B.out b13)
    clear b13
    have V2 := Lib.hid (valid_key (xs ++ ys))
    have S2 := (hex_ok (shaB (xs ++ ys)) (shaB_isB _)).2.2
    rw [shaB_len] at S2
    have hs2 : (keyS (xs ++ ys)).size = 64 := S2
    clear S2
    generalize keyS (xs ++ ys) = K2 at *
    go_wp2_with fail
    refine (valid_any K2 _ (by omega)).mono ?_; rintro e w14 ⟨rfl, b14⟩
    rw [V2.out]
    replace B := Lib.hid (below_size B.out b14)
    clear b14
    go_wp2_with fail
    go_ret
    exact ⟨rfl, B.out⟩
theorem walk_ShaKeys (a : Option Addr) (n ca : Nat) (xs : List Int) (b : Option Addr) (m cb : Nat) (ys : List Int) (w : World) (hx : Reads .u8 w a n ca xs) (bx : isB xs) (hy : Reads .u8 w b m cb ys) (by_ : isB ys) :
    Calls Try.prog 4 #[.slice a n ca, .slice b m cb] w fun e w' => e = .returned (.bool true) ∧ Below w.heap.size w w' := by
  by_cases h : n ≤ 4000 ∧ m ≤ 4000
  · exact keys_in a n ca xs b m cb ys w hx bx hy by_ h.1 h.2
  · exact keys_not a n ca b m cb w hx.n63.1 hy.n63.1 h
end Go.Proofs.Ytkfcjlegeccgjaa
