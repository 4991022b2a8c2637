/-
  The walk of LzJoins.
-/
import Derived.Test.YtfolhckhedinhaaLzWalkExpands
namespace Go.Proofs.Ytfolhckhedinhaa
open Go.RowKit

theorem errT_ne (out : List Int) (t : Tok) : errT out t = 0 ∨ errT out t ≠ 0 := by omega
theorem expT_append (a b : List Tok) : ∀ (out : List Int), (expT a out).2 = 0 → expT (a ++ b) out = expT b (expT a out).1 := by
  induction a with
  | nil => intro out _; rfl
  | cons t ts ih =>
    intro out h
    rw [List.cons_append, expT]
    rw [expT] at h
    by_cases he : errT out t = 0
    · rw [if_neg (by omega)] at h ⊢
      rw [expT, if_neg (by omega)]
      exact ih _ h
    · rw [if_pos he] at h
      exact absurd h he
theorem errT_zero {out : List Int} {t : Tok} (h : errT out t = 0) : mayT t = true ∧ t.2.1 ≤ out.length ∧ (out.length : Int) + max 1 t.1 ≤ 40000 := by
  unfold errT at h
  split at h
  · omega
  · next hm =>
    split at h
    · omega
    · next hd =>
      split at h
      · omega
      · next hl => exact ⟨by simpa using hm, by omega, by omega⟩
theorem errT_of {out : List Int} {t : Tok} (h : mayT t = true) (hd : t.2.1 ≤ out.length) (hl : (out.length : Int) + max 1 t.1 ≤ 40000) : errT out t = 0 := by
  unfold errT
  rw [if_neg (by rw [h]; decide), if_neg (by omega), if_neg (by omega)]
theorem stepT_len {out : List Int} {t : Tok} (h : mayT t = true) : ((stepT out t).length : Int) = (out.length : Int) + max 1 t.1 := by
  rw [mayT, decide_eq_true_iff] at h
  unfold stepT
  split
  · next h0 => rw [h0]; simp; rfl
  · rw [copyN_len]; omega
theorem expT_len : ∀ (ts : List Tok) (out : List Int), (expT ts out).2 = 0 → out.length ≤ (expT ts out).1.length
  | [], out, _ => Nat.le_refl _
  | t :: ts, out, h => by
    rw [expT] at h ⊢
    by_cases he : errT out t = 0
    · rw [if_neg (by omega)] at h ⊢
      have h1 := expT_len ts _ h
      have h2 := stepT_len (out := out) (errT_zero he).1
      omega
    · rw [if_pos he] at h
      exact absurd h he
theorem expT_le : ∀ (ts : List Tok) (out : List Int), out.length ≤ 40000 → (expT ts out).1.length ≤ 40000
  | [], out, h => h
  | t :: ts, out, h => by
    rw [expT]
    split
    · exact Nat.zero_le _
    · next he =>
      have hz := errT_zero (out := out) (t := t) (by simpa using he)
      have h2 := stepT_len (out := out) hz.1
      exact expT_le ts _ (by omega)
theorem owns_slice {w : World} {base T size n : Nat} {v : Value} {xs : List Value} (h : w.ownsRow base T size v n xs) : ∃ a c, v = .slice a n c := by
  rcases h.2 with ⟨rfl, rfl⟩ | ⟨g, c, cur, rfl, _⟩
  · exact ⟨_, _, rfl⟩
  · exact ⟨_, _, rfl⟩
theorem copyN_pre (p out : List Int) (d : Nat) (h1 : 1 ≤ d) (h2 : d ≤ out.length) (k : Nat) : copyN (p ++ out) d k = p ++ copyN out d k := by
  induction k with
  | zero => rfl
  | succ k ih =>
    have hl := copyN_len out d k
    rw [copyN, copyN, ih, List.append_assoc]
    congr 3
    simp only [List.getD, List.length_append]
    rw [List.getElem?_append_right (by omega)]
    congr 2
    omega
theorem expT_pre (p : List Int) : ∀ (ts : List Tok) (out : List Int), (expT ts out).2 = 0 → p.length + (expT ts out).1.length ≤ 40000 → expT ts (p ++ out) = (p ++ (expT ts out).1, 0)
  | [], out, _, _ => rfl
  | t :: ts, out, h, hl => by
    rw [expT] at h hl ⊢
    by_cases he : errT out t = 0
    · obtain ⟨m1, m2, m3⟩ := errT_zero he
      rw [if_neg (by omega)] at h hl
      have h1 := expT_len ts _ h
      have h2 := stepT_len (out := out) m1
      have he' : errT (p ++ out) t = 0 := errT_of m1 (by rw [List.length_append]; omega) (by rw [List.length_append]; omega)
      have hst : stepT (p ++ out) t = p ++ stepT out t := by
        unfold stepT
        split
        · rw [List.append_assoc]
        · next h0 =>
          rw [mayT, decide_eq_true_iff] at m1
          exact copyN_pre p out _ (by omega) (by omega) _
      rw [if_neg (by omega), hst, expT_pre p ts _ h hl, expT, if_neg (by omega)]
    · rw [if_pos he] at h
      exact absurd h he
theorem joinT {a b : List Tok} {x y : List Int} (hx : expT a [] = (x, 0)) (hy : expT b [] = (y, 0)) (hl : x.length + y.length ≤ 40000) : expT (a ++ b) [] = (x ++ y, 0) := by
  rw [expT_append a b [] (by rw [hx]), hx]
  have := expT_pre x b [] (by rw [hy]) (by rw [hy]; exact hl)
  rw [hy, List.append_nil] at this
  exact this

/-! append a list of tokens -/
theorem toks_cells {w : World} {ad : Addr} {m c : Nat} {ts : List Tok} (hr : Toks w (some ad) m c ts) : ∀ j u, (flatT ts)[j]? = some u → w.cell? (ad.add j) = some u := by
  intro j u hu
  have hj : j < ts.length * 3 := by
    rw [← flatT_length]
    rcases Nat.lt_or_ge j (flatT ts).length with h | h
    · exact h
    · simp [List.getElem?_eq_none h] at hu
  have hl := hr.len
  obtain ⟨b, off, e, _, hc⟩ := hr.cells (by omega)
  cases e
  have hi : j / 3 < ts.length := by omega
  obtain ⟨f0, f1, f2⟩ := flatT_get ts (j / 3) hi
  obtain ⟨c0, c1, c2⟩ := hc (j / 3) hi
  rw [Addr.add_lit]
  have h3 : j % 3 = 0 ∨ j % 3 = 1 ∨ j % 3 = 2 := by omega
  rcases h3 with h | h | h
  · have e : j = j / 3 * 3 := by omega
    rw [← e] at f0 c0
    rw [f0] at hu
    cases hu
    exact c0
  · have e : j = j / 3 * 3 + 1 := by omega
    rw [Nat.add_assoc, ← e] at c1
    rw [← e] at f1
    rw [f1] at hu
    cases hu
    exact c1
  · have e : j = j / 3 * 3 + 2 := by omega
    rw [Nat.add_assoc, ← e] at c2
    rw [← e] at f2
    rw [f2] at hu
    cases hu
    exact c2
theorem flatT_one (ts : List Tok) : ∀ u ∈ flatT ts, u.oneCell' = true := by
  induction ts with
  | nil => intro u hu; cases hu
  | cons t ts ih =>
    intro u hu
    simp only [flatT, List.mem_cons] at hu
    rcases hu with rfl | rfl | rfl | hu
    · rfl
    · rfl
    · rfl
    · exact ih u hu
theorem run_append_toks {P : Program} (w : World) (base : Nat) (t ty e : TypeId) (i : TypeInfo) (z : Value) (bytes : Nat) (ht : P.underlying t = some (.slice e)) (hi : P.info? e = some i) (hz : i.zero = some z) (hsize : i.size = 3) (hby : i.bytes = bytes) (hzs : z.cells.size = 3)
    (v : Value) (n : Nat) (xs : List Value) (hown : w.ownsRow base e 3 v n xs) (b : Option Addr) (m c : Nat) (ts : List Tok) (hr : Toks w b m c ts) (hn : b = Option.none → m = 0 ∧ c = 0)
    (h63 : n + m ≤ maxLen) (hbytes : (n + m) * bytes ≤ 140737488355328) (hbase : base ≤ w.heap.size) :
    ∃ v' w', (Builtin.append_ #[t, t] ty #[v, .slice b m c]).run P w = .ok v' w' ∧ w'.ownsRow base e 3 v' (n + m) (xs ++ flatT ts) ∧ w.grownBy w' v.ownBlock := by
  cases b with
  | none =>
    obtain ⟨rfl, rfl⟩ := hn rfl
    obtain rfl : ts = [] := List.eq_nil_of_length_eq_zero hr.len
    exact ⟨v, w, run_append_owned_none (P := P) w base t ty e i 3 ht hi v n xs hown, by simpa [flatT] using hown, World.grownBy.refl _ _⟩
  | some ad =>
    obtain ⟨v', w', hrun, ho, hg, _⟩ := run_append_own (P := P) w base t ty e i z 3 bytes ht hi hz hsize hby hzs (by decide) v n xs hown ad m c (flatT ts) (by rw [flatT_length, hr.len]) (toks_cells hr) (flatT_one ts) h63 hbytes hbase
    exact ⟨v', w', hrun, ho, hg⟩
theorem wpList_append_toks {P : Program} (w : World) {ops : Array Oper} {rest : List Oper} {o : Oper} {act : Act} {Q : Exit → Act → World → Prop} (hgd : o.guard = Option.none) (s x : Operand) (t : TypeId)
    (ho : o.op = Op.call { callee := Callee.builtin Builtin.append, args := #[s, x], argTypes := #[t, t] })
    (base : Nat) (e : TypeId) (i : TypeInfo) (z : Value) (bytes : Nat) (ht : P.underlying t = some (.slice e)) (hi : P.info? e = some i) (hz : i.zero = some z) (hsize : i.size = 3) (hby : i.bytes = bytes) (hzs : z.cells.size = 3)
    (v : Value) (n : Nat) (xs : List Value) (hs : act.eval s = v) (hown : w.ownsRow base e 3 v n xs) (b : Option Addr) (m c : Nat) (ts : List Tok) (hx : act.eval x = .slice b m c) (hr : Toks w b m c ts) (hn : b = Option.none → m = 0 ∧ c = 0)
    (h63 : n + m ≤ maxLen) (hbytes : (n + m) * bytes ≤ 140737488355328) (hbase : base ≤ w.heap.size)
    (h : ∀ v' w', w'.ownsRow base e 3 v' (n + m) (xs ++ flatT ts) → w.grownBy w' v.ownBlock → wpList P ops Q rest (act.put o.dst v') w') : wpList P ops Q (o :: rest) act w := by
  refine wpList_plain hgd fun K hK => ?_
  obtain ⟨v', w', hr, h2, h3⟩ := run_append_toks (P := P) w base t o.type e i z bytes ht hi hz hsize hby hzs v n xs hown b m c ts hr hn h63 hbytes hbase
  unfold Oper.wp execOp
  simp only [ho, resolve, invoke, builtin, Sem.run_bind, Sem.run_pure, Result.andThen_ok, List.map_toArray, List.map_cons, List.map_nil, hs, hx, hr]
  exact hK _ _ (h v' w' h2 h3)

theorem wpList_append_reads_if {P : Program} (w : World) {ops : Array Oper} {rest : List Oper} {o : Oper} {act : Act} {Q : Exit → Act → World → Prop} (hgd : Region.wanted o (yielded ops act.tmps) = true) (s x : Operand) (t : TypeId)
    (ho : o.op = Op.call { callee := Callee.builtin Builtin.append, args := #[s, x], argTypes := #[t, t] })
    (base : Nat) (e : TypeId) (i : TypeInfo) (z : Value) (bytes : Nat) (ht : P.underlying t = some (.slice e)) (hi : P.info? e = some i) (hz : i.zero = some z) (hsize : i.size = 1) (hby : i.bytes = bytes) (hzs : z.cells.size = 1)
    (k : IntKind) (a : Option Addr) (n cap : Nat) (xs : List Int) (hs : act.eval s = .slice a n cap) (hown : w.ownsRow base e 1 (.slice a n cap) n (xs.map (Value.int k))) (b : Option Addr) (m c : Nat) (ys : List Int) (hx : act.eval x = .slice b m c) (hr : Reads k w b m c ys)
    (h63 : n + m ≤ maxLen) (hbytes : (n + m) * bytes ≤ 140737488355328) (hbase : base ≤ w.heap.size)
    (h : ∀ a' cap' w', w'.ownsRow base e 1 (.slice a' (n + m) cap') (n + m) ((xs ++ ys).map (Value.int k)) → w.grownBy w' (Value.slice a n cap).ownBlock → (a' = none ↔ a = none ∧ m = 0) → wpList P ops Q rest (act.put o.dst (.slice a' (n + m) cap')) w') : wpList P ops Q (o :: rest) act w := by
  refine wpList_step fun K hK => ?_
  rw [if_pos hgd]
  obtain ⟨a', cap', w', hr, h2, h3, h4⟩ := run_append_reads (P := P) w base t o.type e i z bytes ht hi hz hsize hby hzs k a n cap xs hown b m c ys hr h63 hbytes hbase
  unfold Oper.wp execOp
  simp only [ho, resolve, invoke, builtin, Sem.run_bind, Sem.run_pure, Result.andThen_ok, List.map_toArray, List.map_cons, List.map_nil, hs, hx, hr]
  exact hK _ _ (h a' cap' w' h2 h3 h4)

theorem owns_empty (w : World) (T : TypeId) : (w.alloc (.cells #[] T)).ownsRow w.heap.size T 3 (.slice (some ⟨w.heap.size, 0, Option.none⟩) 0 0) 0 [] := by
  refine ⟨rfl, .inr ⟨w.heap.size, 0, #[], rfl, Nat.le_refl _, ?_, Nat.le_refl _, by decide, rfl, rfl⟩⟩
  show (w.heap.push _)[w.heap.size]? = _
  simp

set_option maxRecDepth 100000 in
set_option maxHeartbeats 1000000 in
theorem joins_in (a : Option Addr) (n ca : Nat) (ts : List Tok) (b : Option Addr) (m cb : Nat) (us : List Tok) (w : World) (ht : Toks w a n ca ts) (hna : a = Option.none → n = 0 ∧ ca = 0) (hu : Toks w b m cb us) (hnb : b = Option.none → m = 0 ∧ cb = 0) (hn : n ≤ 500) (hm : m ≤ 500) :
    Calls Try.prog 6 #[.slice a n ca, .slice b m cb] w fun e w' => e = .returned (.bool true) ∧ Below w.heap.size w w' := by
  obtain ⟨i0, hi, hz0, hz1, hz2⟩ := info_parts infoT
  have Hi := Lib.hid hi; have Hz0 := Lib.hid hz0; have Hz1 := Lib.hid hz1; have Hz2 := Lib.hid hz2
  clear hi hz0 hz1 hz2
  obtain ⟨i1, hi, hz0, hz1, hz2⟩ := info_parts infoC
  have Ji := Lib.hid hi; have Jz0 := Lib.hid hz0; have Jz1 := Lib.hid hz1; have Jz2 := Lib.hid hz2
  clear hi hz0 hz1 hz2
  have HT := Lib.hid ht; have HU := Lib.hid hu; have NA := Lib.hid hna; have NB := Lib.hid hnb
  have xl0 := expT_le ts [] (Nat.zero_le _); have yl0 := expT_le us [] (Nat.zero_le _)
  have XB := Lib.hid (expT_isB ts isB.nil); have YB := Lib.hid (expT_isB us isB.nil)
  have h1 : decide ((500 : Int) < n) = false := by simp; omega
  have h2 : decide ((500 : Int) < m) = false := by simp; omega
  obtain ⟨⟨x, E⟩, hx⟩ : ∃ r, expT ts [] = r := ⟨_, rfl⟩
  obtain ⟨⟨y, F⟩, hy⟩ : ∃ r, expT us [] = r := ⟨_, rfl⟩
  rw [hx] at XB xl0
  rw [hy] at YB yl0
  have HX := Lib.hid hx; have HY := Lib.hid hy
  have HTL := Lib.hid ht.len; have HUL := Lib.hid hu.len
  clear ht hu hna hnb hx hy
  go_enter Try.func6, Try.ntmps6
  go_wp2_with fail
  refine (first_any w).mono ?_; rintro e w1 ⟨rfl, bb⟩
  have B := Lib.hid bb
  replace HT := Lib.hid (HT.out.below bb); replace HU := Lib.hid (HU.out.below bb)
  clear bb
  go_wp2_with fail
  have q1 := expand_any a n ca ts w1 HT.out
  rw [HX.out] at q1
  refine q1.mono ?_; rintro e w2 ⟨ax, kx, rfl, ox, bb⟩
  have X := Lib.hid (reads_of_owns ox)
  replace B := Lib.hid (below_size B.out bb)
  replace HT := Lib.hid (HT.out.below bb); replace HU := Lib.hid (HU.out.below bb)
  clear bb ox q1
  go_wp2_with fail
  have q1 := expand_any b m cb us w2 HU.out
  rw [HY.out] at q1
  refine q1.mono ?_; rintro e w3 ⟨ay, ky, rfl, oy, bb⟩
  have Y := Lib.hid (reads_of_owns oy)
  replace B := Lib.hid (below_size B.out bb)
  replace HT := Lib.hid (HT.out.below bb); replace HU := Lib.hid (HU.out.below bb); replace X := Lib.hid (X.out.below bb)
  clear bb oy q1
  dsimp only at X Y XB YB xl0 yl0 ⊢
  by_cases hE : E = 0
  · subst hE
    by_cases hF : F = 0
    · subst hF
      by_cases hl : x.length + y.length ≤ 40000
      · have g1 : decide ((40000 : Int) < (x.length : Int) + y.length) = false := by simp; omega
        have HJ := Lib.hid (joinT HX.out HY.out hl)
        clear HX HY
        have HB0 := B; have HU0 := HU; have X0 := X; have Y0 := Y
        have ob := owns_empty w3 41
        have bl : Below w3.heap.size w3 (w3.alloc (.cells #[] 41)) := (Below.refl _ _).alloc (Nat.le_refl _) _
        have OB := Lib.hid ob
        replace B := Lib.hid (below_size B.out bl)
        replace HT := Lib.hid (HT.out.below bl); replace HU := Lib.hid (HU.out.below bl); replace X := Lib.hid (X.out.below bl); replace Y := Lib.hid (Y.out.below bl)
        have hgs : w3.heap.size ≤ (w3.alloc (.cells #[] 41)).heap.size := bl.size
        have hb3 := Lib.hid (And.intro bl.size (below_size (Below.refl w3.heap.size w3) bl))
        clear ob bl
        go_wp2_with (at_builtin; refine wpList_append_toks _ rfl _ _ 25 rfl w3.heap.size 41 i0 _ 24 Try.underlying25 Hi.out Hz0.out Hz1.out Hz2.out rfl _ 0 [] rfl OB.out a n ca ts rfl HT.out NA.out (by unfold maxLen; omega) (by omega) hgs ?_)
        intro v5 w5 r5 g5
        have b5 : Below w3.heap.size w3 w5 := (((Below.refl w3.heap.size w3).alloc (Nat.le_refl _) (.cells #[] 41)).grown g5 hgs (fun k hk => by simp [Value.ownBlock] at hk; omega))
        have b5' : Below w.heap.size w w5 := below_size HB0.out b5
        replace HU := Lib.hid (HU0.out.below b5); replace X := Lib.hid (X0.out.below b5); replace Y := Lib.hid (Y0.out.below b5)
        try rw [Nat.zero_add] at r5
        try rw [List.nil_append] at r5
        have hs5 := b5.size
        have R5 := Lib.hid r5; have B5 := Lib.hid b5; have B5' := Lib.hid b5'
        clear r5 g5 b5 b5' OB hb3 HT B
        go_wp2_with (at_builtin; refine wpList_append_toks _ rfl _ _ 25 rfl w3.heap.size 41 i0 _ 24 Try.underlying25 Hi.out Hz0.out Hz1.out Hz2.out rfl _ n _ rfl R5.out b m cb us rfl HU.out NB.out (by unfold maxLen; omega) (by omega) hs5 ?_)
        intro v6 w6 r6 g6
        have b6 : Below w3.heap.size w3 w6 := B5.out.grown g6 B5.out.size (fun k hk => (R5.out.lt k hk).1)
        have B6 := Lib.hid (below_size HB0.out b6)
        replace X := Lib.hid (X0.out.below b6); replace Y := Lib.hid (Y0.out.below b6)
        try rw [← flatT_append] at r6
        obtain ⟨a6, c6, rfl⟩ := owns_slice r6
        have T6 := Lib.hid (toks_of_owns r6 (by rw [List.length_append, HTL.out, HUL.out]))
        clear r6 g6 b6 R5 B5 B5' HU hs5 hgs
        go_wp2_with fail
        have q1 := expand_any a6 (n + m) c6 (ts ++ us) w6 T6.out
        rw [HJ.out] at q1
        refine q1.mono ?_; rintro e w7 ⟨az, kz, rfl, oz, bb⟩
        have Z := Lib.hid (reads_of_owns oz)
        have B := Lib.hid (below_size B6.out bb)
        replace X := Lib.hid (X.out.below bb); replace Y := Lib.hid (Y.out.below bb)
        clear bb oz q1 T6 B6
        dsimp only at Z ⊢
        go_wp2_with fail
        refine (first_any _).mono ?_; rintro e w8 ⟨rfl, bb⟩
        replace B := Lib.hid (below_size B.out bb)
        replace X := Lib.hid (X.out.below bb); replace Y := Lib.hid (Y.out.below bb); replace Z := Lib.hid (Z.out.below bb)
        clear bb
        go_wp2_with fail
        have Z8 := Z; have B8 := B
        refine (copyBytes_any _ _ _ _ w8 X.out (by omega)).mono ?_; rintro e w9 ⟨ac, kc, rfl, oc, bb⟩
        replace B := Lib.hid (below_size B.out bb)
        replace Y := Lib.hid (Y.out.below bb); replace Z := Lib.hid (Z.out.below bb)
        have OC := Lib.hid oc
        have hs9 := bb.size
        have BB := Lib.hid bb
        clear bb oc
        go_wp2_with (at_builtin; refine wpList_append_reads_if _ rfl _ _ 22 rfl w8.heap.size 5 i1 (.int .u8 0) 1 Try.underlying22 Ji.out Jz0.out Jz1.out Jz2.out rfl .u8 ac x.length kc x rfl OC.out ay y.length ky y rfl Y.out (by unfold maxLen; omega) (by omega) hs9 ?_)
        intro a8 c8 w10 r10 g10 _
        have b10 : Below w8.heap.size w8 w10 := BB.out.grown g10 hs9 (fun k hk => (OC.out.lt k hk).1)
        have b10' : Below w9.heap.size w9 w10 → True := fun _ => trivial
        have Z0 := Z8.out.below b10
        rw [← List.map_append] at r10
        have V := reads_of_owns r10
        have BA := below_size B8.out b10
        have HZ := Lib.hid Z0; have HV := Lib.hid V; have HBA := Lib.hid BA
        have HXY := Lib.hid (XB.out.append YB.out)
        clear r10 g10 b10 b10' Z0 V BA OC BB B Z X Y hs9
        have q1 := bytes_any _ _ _ _ _ _ _ _ _ HZ.out HV.out HXY.out HXY.out
        rw [decide_eq_true rfl] at q1
        have Q1 := Lib.hid q1; clear q1
        try rw [List.length_append] at Q1
        go_wp2_with fail
        refine Q1.out.mono ?_; rintro e w11 ⟨rfl, rfl⟩
        go_wp2_with fail
        go_ret
        exact ⟨rfl, HBA.out⟩
      · have g1 : (40000 : Int) < (x.length : Int) + y.length := by omega
        clear HX HY
        go_wp2_with fail
        refine (first_any _).mono ?_; rintro e w4 ⟨rfl, bb⟩
        replace B := Lib.hid (below_size B.out bb)
        clear bb
        go_wp2_with fail
        go_ret
        exact ⟨rfl, B.out⟩
    · have g1 : (F != 0) = true := by simp [hF]
      clear HX HY
      go_wp2_with fail
      refine (first_any _).mono ?_; rintro e w4 ⟨rfl, bb⟩
      replace B := Lib.hid (below_size B.out bb)
      clear bb
      go_wp2_with fail
      go_ret
      exact ⟨rfl, B.out⟩
  · have g1 : (E != 0) = true := by simp [hE]
    clear HX HY
    go_wp2_with fail
    refine (first_any _).mono ?_; rintro e w4 ⟨rfl, bb⟩
    replace B := Lib.hid (below_size B.out bb)
    clear bb
    go_wp2_with fail
    go_ret
    exact ⟨rfl, B.out⟩

theorem joins_not (a : Option Addr) (n ca : Nat) (b : Option Addr) (m cb : Nat) (w : World) (hn : n ≤ 9223372036854775807) (hm : m ≤ 9223372036854775807) (h : ¬ (n ≤ 500 ∧ m ≤ 500)) :
    Calls Try.prog 6 #[.slice a n ca, .slice b m cb] w fun e w' => e = .returned (.bool true) ∧ Below w.heap.size w w' := by
  by_cases h1 : (500 : Int) < n
  · go_enter Try.func6, Try.ntmps6
    go_wp2_with fail
    refine (first_any w).mono ?_; rintro e w1 ⟨rfl, b1⟩
    go_wp2_with fail
    refine (first_any w1).mono ?_; rintro e w2 ⟨rfl, b2⟩
    go_wp2_with fail
    go_ret
    exact ⟨rfl, below_size b1 b2⟩
  · have h2 : (500 : Int) < m := by omega
    go_enter Try.func6, Try.ntmps6
    go_wp2_with fail
    refine (first_any w).mono ?_; rintro e w1 ⟨rfl, b1⟩
    go_wp2_with fail
    refine (first_any w1).mono ?_; rintro e w2 ⟨rfl, b2⟩
    go_wp2_with fail
    go_ret
    exact ⟨rfl, below_size b1 b2⟩

/-- The list reads as the tokens; nil has nothing. -/
def ToksN (w : World) (a : Option Addr) (n cap : Nat) (ts : List Tok) : Prop := Toks w a n cap ts ∧ (a = Option.none → n = 0 ∧ cap = 0)
theorem walk_LzJoins (a : Option Addr) (n ca : Nat) (ts : List Tok) (b : Option Addr) (m cb : Nat) (us : List Tok) (w : World) (ht : ToksN w a n ca ts) (hu : ToksN w b m cb us) :
    Calls Try.prog 6 #[.slice a n ca, .slice b m cb] w fun e w' => e = .returned (.bool true) ∧ Below w.heap.size w w' := by
  by_cases h : n ≤ 500 ∧ m ≤ 500
  · exact joins_in a n ca ts b m cb us w ht.1 ht.2 hu.1 hu.2 h.1 h.2
  · exact joins_not a n ca b m cb w ht.1.n63 hu.1.n63 h
end Go.Proofs.Ytfolhckhedinhaa
