/-
  The walk of the statement NumJoins.
-/
import Derived.Test.YtckekklmjegajaaDoorCrcJoins
import Derived.Deep.DeepCutAuto
import Derived.Deep.RegionWith
import Derived.BigRegion
import Derived.StillTailTactics
namespace Go.Proofs.YtckekklmjegajaaDoor
open Go.RowKit

theorem getD_bdI {xs : List Int} (h : isB xs) (i : Nat) : 0 ≤ xs.getD i 0 ∧ xs.getD i 0 < 256 := by
  by_cases hi : i < xs.length
  · exact h.get i hi
  · simp [List.getD, hi]
theorem made_run (n : Nat) (hn : n ≤ 8000) (w : World) : (Instr.makeSlice 22 (.int .i64 (n : Int)) (.int .i64 (n : Int))).run Tryd.prog w = .ok (.slice (some ⟨w.heap.size, 0, Option.none⟩) n n) (w.alloc (.cells (madeCells #[Value.int .u8 0] n) 5)) := by
  obtain ⟨i0, hi, hz0, hz1, hz2⟩ := info_parts infoB
  have := run_make (P := Tryd.prog) w 22 5 i0 (.int .u8 0) Tryd.underlying22 hi hz0 .i64 .i64 n n (by omega) (Int.le_refl _) (by rw [hz2]; omega) (by omega)
  rw [this, hz1]
  simp [Value.cells]

theorem made_owns (n B : Nat) (hn : n ≤ 8000) (w : World) (hB : B ≤ w.heap.size) : (w.alloc (.cells (madeCells #[Value.int .u8 0] n) 5)).ownsRow B 5 1 (.slice (some ⟨w.heap.size, 0, Option.none⟩) n n) n ((List.replicate n (0 : Int)).map (Value.int .u8)) := by
  have := World.ownsRow_lit (base := B) (e := 5) (size := 1) w (madeCells #[Value.int .u8 0] n) n hB (by unfold maxLen; omega) (by rw [size_madeCells]; omega)
  rwa [toList_made] at this

set_option maxRecDepth 100000 in
set_option maxHeartbeats 4000000 in
theorem joins_in (a : Option Addr) (n cap : Nat) (xs : List Int) (b : Option Addr) (bc : Nat) (ys : List Int) (c : Option Addr) (cc : Nat) (zs : List Int) (p x : Int) (w : World) (hT : Table w)
    (hx : Reads .u8 w a n cap xs) (bx : isB xs) (hy : Reads .u8 w b n bc ys) (by_ : isB ys) (hz : Reads .u8 w c n cc zs) (bz : isB zs) (hn : n ≤ 8000) (h0 : -9223372036854775808 ≤ p ∧ p ≤ 9223372036854775807) (hx0 : 0 ≤ x ∧ x < 256) :
    Calls Tryd.prog 4 #[.slice a n cap, .slice b n bc, .slice c n cc, .int .i64 p, .int .u8 x] w fun e w' => e = .returned (.bool true) ∧ Below w.heap.size w w' := by
  have c1 : ¬ (8000 : Int) < n := by omega
  have c2 : ((n : Int) != (n : Int)) = false := by simp
  have HT := Lib.hid hT
  have Hlx := Lib.hid hx.len
  have hmk := made_run n hn
  clear hT
  go_enter Tryd.func4, Tryd.ntmps4
  go_wp2_with fail
  refine (first_any w).mono ?_; rintro e w1 ⟨rfl, hb1⟩
  go_upto_region 5 with (fail)
  go_cut [11, 12] (fun d t wx => ∃ (gd : Nat) (a' : Option Addr) (c' : Nat), d = .slice (some ⟨gd, 0, Option.none⟩) n n ∧ t = .slice a' n c' ∧ wx.ownsRow w1.heap.size 5 1 (.slice (some ⟨gd, 0, Option.none⟩) n n) n ((List.replicate n (0 : Int)).map (Value.int .u8)) ∧ wx.ownsRow w1.heap.size 5 1 (.slice a' n c') n (xs.map (Value.int .u8)) ∧ Hid (∀ g, a' = some ⟨g, 0, Option.none⟩ → g ≠ gd) ∧ Below w1.heap.size w1 wx)
  case first =>
    go_region_with ((go_at_call 10; refine (copyBytes_any a n cap xs _ (by first | exact (hx.below hb1).drew | exact ((hx.below hb1).below ((Below.refl _ _).alloc (Nat.le_refl _) _)).drew) (by omega)).mono ?_; rintro e w' ⟨a2, c2', rfl, ho2, hb2⟩))
    all_goals (go_wp2_with fail; go_meet)
    · rw [Hlx.out] at ho2
      rw [Hlx.out]
      refine ⟨w1.heap.size, a2, c2', rfl, rfl, owns_below (World.ownsRow.drew (made_owns n _ hn w1 (Nat.le_refl _))) hb2, owns_base ho2 (by simp), fun g hg => ?_, ((Below.refl _ _).alloc (Nat.le_refl _) _).drew.trans (hb2.mono (by simp))⟩
      subst hg
      have := (ho2.lt g rfl).1
      simp at this
      omega
    · rw [Hlx.out] at ho2
      rw [Hlx.out]
      refine ⟨w'.heap.size, a2, c2', rfl, rfl, made_owns n _ hn w' hb2.size, World.ownsRow.alloc (owns_base ho2 (Nat.le_refl _)) _, fun g hg => ?_, ((Below.refl _ _).drew.trans hb2).alloc hb2.size _⟩
      subst hg
      have := (ho2.lt g rfl).2
      omega
  case rest =>
    obtain ⟨gd, at_, ct, rfl, rfl, hod, hot, Hne, hb2⟩ := hcut
    generalize hB : w1.heap.size = B at *
    have HB := Lib.hid hB; clear hB
    generalize hds : List.replicate n (0 : Int) = ds0 at *
    have Hds := Lib.hid hds; clear hds hmk
    go_wp2_with fail
    go_loopw [13] (fun i wr => ∃ (k : Nat) (ds : List Int), k ≤ n ∧ i = .int .i64 k ∧ wr.ownsRow B 5 1 (.slice (some ⟨gd, 0, Option.none⟩) n n) n (ds.map (Value.int .u8)) ∧ wr.ownsRow B 5 1 (.slice at_ n ct) n (xs.map (Value.int .u8)) ∧ Below B w1 wr ∧ Hid (ds.length = n ∧ ∀ j, j < n → ds.getD j 0 = if j < k then xor3 xs ys zs j else 0)) (fun i _ => n - (intOf i).toNat)
    case atStart =>
      refine ⟨0, ds0, Nat.zero_le _, rfl, hod, hot, hb2, ?_⟩
      rw [← Hds.out]
      exact ⟨by simp, fun j hj => by simp [List.getD, hj]⟩
    case round =>
      obtain ⟨k, ds, hk, rfl, hod', hot', hbel, Hy⟩ := hrel
      clear hod hot hb2 Hds
      have hbB := (hod'.lt gd rfl).1
      have hbw : Below w.heap.size w wr := below_size hb1 (by rw [HB.out]; exact hbel)
      by_cases hlt : k < n
      · obtain ⟨b1, o1, e1, t1⟩ := (hx.below hbw).cellAt k hlt
        obtain ⟨b2, o2, e2, t2⟩ := (hy.below hbw).cellAt k hlt
        obtain ⟨b3, o3, e3, t3⟩ := (hz.below hbw).cellAt k hlt
        have x1 := getD_bdI bx k
        have x2 := getD_bdI by_ k
        have x3 := getD_bdI bz k
        have hc := owns_cell hod' k hlt
        have hfz := hod'.frozenAt k
        have q1 := xor_u8i _ _ x1 x2
        have x12 : 0 ≤ (((xs.getD k 0).toNat ^^^ (ys.getD k 0).toNat : Nat) : Int) ∧ (((xs.getD k 0).toNat ^^^ (ys.getD k 0).toNat : Nat) : Int) < 256 := by
          have := Nat.xor_lt_two_pow (n := 8) (x := (xs.getD k 0).toNat) (y := (ys.getD k 0).toNat) (by omega) (by omega)
          omega
        have q2 := xor_u8i _ _ x12 x3
        rw [Int.toNat_natCast] at q2
        have hV : Hid (xor3 xs ys zs k = (((xs.getD k 0).toNat ^^^ (ys.getD k 0).toNat ^^^ (zs.getD k 0).toNat : Nat) : Int)) := rfl
        generalize ((xs.getD k 0).toNat ^^^ (ys.getD k 0).toNat ^^^ (zs.getD k 0).toNat : Nat) = v at *
        generalize ((xs.getD k 0).toNat ^^^ (ys.getD k 0).toNat : Nat) = u at *
        generalize xs.getD k 0 = X at *
        generalize ys.getD k 0 = Y at *
        generalize zs.getD k 0 = Z at *
        subst e1 e2 e3
        have Hod := Lib.hid hod'; have Hot := Lib.hid hot'
        clear hod' hot' hbw hx hy hz bx by_ bz
        go_wp2_with fail
        go_still_tail 17, (by kernel_rfl)
        change wpList _ _ _ _ _ wr.drew
        go_wp2_with fail
        go_roundw
        case rel =>
          obtain ⟨hyl, hyj⟩ := Hy.out
          refine ⟨k + 1, ds.set k (v : Int), by omega, by go_num, ?_, ?_, ?_, by simpa using hyl, fun j hj => ?_⟩
          · exact owns_set (World.ownsRow.drew Hod.out) k _
          · exact owns_other (World.ownsRow.drew Hot.out) (World.ownsRow.drew Hod.out) Hne.out
          · exact (hbel.setCell (p := ⟨gd, k, Option.none⟩) hbB _).drew
          · rw [getD_set, hyj j hj]
            by_cases e : j = k
            · rw [if_pos ⟨e.symm, by omega⟩, if_pos (by omega), e, hV.out]
            · rw [if_neg (fun h => e h.1.symm)]
              by_cases h2 : j < k
              · rw [if_pos h2, if_pos (by omega)]
              · rw [if_neg h2, if_neg (by omega)]
        case measure => simp [intOf]; omega
      · obtain rfl : k = n := by omega
        have hTr := HT.out.below hbw
        have hrx := hx.below hbw
        have hry := hy.below hbw
        have hrz := hz.below hbw
        have hrd := reads_of_owns hod'
        have hds : ∀ j, j < k → ds.getD j 0 = xor3 xs ys zs j := fun j hj => by rw [Hy.out.2 j hj, if_pos hj]
        have bd : isB ds := by
          intro y hy'
          obtain ⟨j, hj, rfl⟩ := List.getElem_of_mem hy'
          have e := hds j (by rw [← Hy.out.1]; exact hj)
          rw [List.getD, List.getElem?_eq_getElem hj] at e
          simp only [Option.getD_some] at e
          rw [e]
          have x1 := getD_bdI bx j; have x2 := getD_bdI by_ j; have x3 := getD_bdI bz j
          have l1 := Nat.xor_lt_two_pow (n := 8) (x := (xs.getD j 0).toNat) (y := (ys.getD j 0).toNat) (by omega) (by omega)
          have l2 := Nat.xor_lt_two_pow (n := 8) (x := (xs.getD j 0).toNat ^^^ (ys.getD j 0).toNat) (y := (zs.getD j 0).toNat) l1 (by omega)
          unfold xor3
          omega
        have hcrc := crc_xor xs ys zs ds k bx by_ bz bd hx.len hy.len hz.len Hy.out.1 hds
        have Hcrc : Hid (((crc ds : Nat) : Int) = ((crc xs ^^^ crc ys ^^^ crc zs : Nat) : Int)) := congrArg Int.ofNat hcrc
        have qa : bits BinOp.xor IntKind.u32 (crc xs : Nat) (crc ys : Nat) = ((crc xs ^^^ crc ys : Nat) : Int) := xor_u32 _ _ (crc_lt xs) (crc_lt ys)
        have qb : bits BinOp.xor IntKind.u32 ((crc xs ^^^ crc ys : Nat) : Int) (crc zs : Nat) = ((crc xs ^^^ crc ys ^^^ crc zs : Nat) : Int) := xor_u32 _ _ (Nat.xor_lt_two_pow (crc_lt xs) (crc_lt ys)) (crc_lt zs)
        have qn : (((crc xs ^^^ crc ys ^^^ crc zs : Nat) : Int) != ((crc xs ^^^ crc ys ^^^ crc zs : Nat) : Int)) = false := by simp
        clear hds hcrc
        by_cases p1 : p < 0
        · skip
          go_wp2_with fail
          refine (crc_any _ k k ds wr hrd bd hTr).mono ?_; rintro e w2 ⟨rfl, rfl⟩
          rw [Hcrc.out]
          go_wp2_with fail
          refine (crc_any a k cap xs w2 hrx bx hTr).mono ?_; rintro e w3 ⟨rfl, rfl⟩
          go_wp2_with fail
          refine (crc_any b k bc ys w3 hry by_ hTr).mono ?_; rintro e w4 ⟨rfl, rfl⟩
          go_wp2_with fail
          refine (crc_any c k cc zs w4 hrz bz hTr).mono ?_; rintro e w5 ⟨rfl, rfl⟩
          go_wp2_with fail
          refine (first_any w5).mono ?_; rintro e w6 ⟨rfl, hb6⟩
          go_wp2_with fail
          go_ret
          exact ⟨rfl, below_size hbw hb6⟩
        · by_cases p2 : (k : Int) ≤ p
          · skip
            go_wp2_with fail
            refine (crc_any _ k k ds wr hrd bd hTr).mono ?_; rintro e w2 ⟨rfl, rfl⟩
            rw [Hcrc.out]
            go_wp2_with fail
            refine (crc_any a k cap xs w2 hrx bx hTr).mono ?_; rintro e w3 ⟨rfl, rfl⟩
            go_wp2_with fail
            refine (crc_any b k bc ys w3 hry by_ hTr).mono ?_; rintro e w4 ⟨rfl, rfl⟩
            go_wp2_with fail
            refine (crc_any c k cc zs w4 hrz bz hTr).mono ?_; rintro e w5 ⟨rfl, rfl⟩
            go_wp2_with fail
            refine (first_any w5).mono ?_; rintro e w6 ⟨rfl, hb6⟩
            go_wp2_with fail
            go_ret
            exact ⟨rfl, below_size hbw hb6⟩
          · by_cases p3 : x = 0
            · have p4 : (x == 0) = true := by rw [beq_iff_eq]; exact p3
              clear p3
              go_wp2_with fail
              refine (crc_any _ k k ds wr hrd bd hTr).mono ?_; rintro e w2 ⟨rfl, rfl⟩
              rw [Hcrc.out]
              go_wp2_with fail
              refine (crc_any a k cap xs w2 hrx bx hTr).mono ?_; rintro e w3 ⟨rfl, rfl⟩
              go_wp2_with fail
              refine (crc_any b k bc ys w3 hry by_ hTr).mono ?_; rintro e w4 ⟨rfl, rfl⟩
              go_wp2_with fail
              refine (crc_any c k cc zs w4 hrz bz hTr).mono ?_; rintro e w5 ⟨rfl, rfl⟩
              go_wp2_with fail
              refine (first_any w5).mono ?_; rintro e w6 ⟨rfl, hb6⟩
              go_wp2_with fail
              go_ret
              exact ⟨rfl, below_size hbw hb6⟩
            · have p4 : (x == 0) = false := by rw [beq_eq_false_iff_ne]; exact p3
              obtain ⟨p, rfl⟩ := Int.eq_ofNat_of_zero_le (show 0 ≤ p by omega)
              obtain ⟨gt, rfl, hgt⟩ := owns_addr hot' (by omega)
              have hc := owns_cell hot' p (by omega)
              have hfz := hot'.frozenAt p
              have x1 := getD_bdI bx p
              have q1 := xor_u8i _ _ x1 hx0
              have l1 := Nat.xor_lt_two_pow (n := 8) (x := (xs.getD p 0).toNat) (y := x.toNat) (by omega) (by omega)
              have hvn : (((xs.getD p 0).toNat ^^^ x.toNat : Nat) : Int) ≠ xs.getD p 0 := by
                intro h
                have h2 : (xs.getD p 0).toNat ^^^ x.toNat = (xs.getD p 0).toNat := by omega
                have h3 := congrArg ((xs.getD p 0).toNat ^^^ ·) h2
                simp only [← Nat.xor_assoc, Nat.xor_self, Nat.zero_xor] at h3
                omega
              have T1 := crc_turned xs bx p _ (by rw [hx.len]; omega) ⟨by omega, by omega⟩ hvn
              have T2 := adler_turned xs bx p _ (by rw [hx.len]; omega) ⟨by omega, by omega⟩ hvn
              have bs : isB (xs.set p (((xs.getD p 0).toNat ^^^ x.toNat : Nat) : Int)) := by
                intro y hy'
                rcases List.mem_or_eq_of_mem_set hy' with h | h
                · exact bx y h
                · omega
              have hos := owns_set (k := .u8) hot' p (((xs.getD p 0).toNat ^^^ x.toNat : Nat) : Int)
              generalize ((xs.getD p 0).toNat ^^^ x.toNat : Nat) = v at *
              have r1 : (((crc (xs.set p (v : Int)) : Nat) : Int) != ((crc xs : Nat) : Int)) = true := by rw [bne_iff_ne]; omega
              have r2 : (adler (xs.set p (v : Int)) != adler xs) = true := by rw [bne_iff_ne]; exact T2
              have hbs : Below w.heap.size w (wr.setCell ⟨gt, p, Option.none⟩ (.int .u8 (v : Int))) := hbw.setCell (p := ⟨gt, p, Option.none⟩) (by have := hb1.size; have := HB.out; show w.heap.size ≤ gt; omega) _
              have HQ := Lib.hid hos
              generalize xs.getD p 0 = X at *
              clear T1 T2 hvn l1 p3 hod' hot' hos Hne
              go_wp2_with fail
              refine (crc_any _ k k ds wr hrd bd hTr).mono ?_; rintro e w2 ⟨rfl, rfl⟩
              rw [Hcrc.out]
              go_wp2_with fail
              refine (crc_any a k cap xs w2 hrx bx hTr).mono ?_; rintro e w3 ⟨rfl, rfl⟩
              go_wp2_with fail
              refine (crc_any b k bc ys w3 hry by_ hTr).mono ?_; rintro e w4 ⟨rfl, rfl⟩
              go_wp2_with fail
              refine (crc_any c k cc zs w4 hrz bz hTr).mono ?_; rintro e w5 ⟨rfl, rfl⟩
              clear hrd hrx hry hrz
              go_wp2_with fail
              refine (first_any _).mono ?_; rintro e w6 ⟨rfl, hb6⟩
              have hb7 := below_size hbs hb6
              have hT7 := HT.out.below hb7
              have hrt := (reads_of_owns HQ.out).below hb6
              have hrx := hx.below hb7
              go_wp2_with fail
              refine (crc_any _ k ct _ w6 hrt bs hT7).mono ?_; rintro e w7 ⟨rfl, rfl⟩
              go_wp2_with fail
              refine (crc_any a k cap xs w7 hrx bx hT7).mono ?_; rintro e w8 ⟨rfl, rfl⟩
              go_wp2_with fail
              refine (adler_any _ k ct _ w8 hrt bs).mono ?_; rintro e w9 ⟨rfl, rfl⟩
              go_wp2_with fail
              refine (adler_any a k cap xs w9 hrx bx).mono ?_; rintro e w10 ⟨rfl, rfl⟩
              go_wp2_with fail
              go_ret
              exact ⟨rfl, hb7⟩

set_option maxRecDepth 100000 in
set_option maxHeartbeats 1000000 in
theorem joins_out (a : Option Addr) (n cap : Nat) (b : Option Addr) (bn bc : Nat) (c : Option Addr) (cn cc : Nat) (p x : Int) (w : World) (_ha : n ≤ 9223372036854775807) (_hb : bn ≤ 9223372036854775807) (_hc : cn ≤ 9223372036854775807) (h : 8000 < n ∨ bn ≠ n ∨ cn ≠ n) :
    Calls Tryd.prog 4 #[.slice a n cap, .slice b bn bc, .slice c cn cc, .int .i64 p, .int .u8 x] w fun e w' => e = .returned (.bool true) ∧ Below w.heap.size w w' := by
  by_cases c1 : (8000 : Int) < n
  · clear h
    go_enter Tryd.func4, Tryd.ntmps4
    go_wp2_with fail
    refine (first_any w).mono ?_; rintro e w1 ⟨rfl, hb1⟩
    go_wp2_with fail
    refine (first_any w1).mono ?_; rintro e w2 ⟨rfl, hb2⟩
    go_wp2_with fail
    go_ret
    exact ⟨rfl, below_size hb1 hb2⟩
  · by_cases c2 : bn = n
    · have q1 : ((bn : Int) != (n : Int)) = false := by rw [bne_eq_false_iff_eq]; omega
      have q2 : ((cn : Int) != (n : Int)) = true := by rw [bne_iff_ne]; omega
      clear h c2
      go_enter Tryd.func4, Tryd.ntmps4
      go_wp2_with fail
      refine (first_any w).mono ?_; rintro e w1 ⟨rfl, hb1⟩
      go_wp2_with fail
      refine (first_any w1).mono ?_; rintro e w2 ⟨rfl, hb2⟩
      go_wp2_with fail
      go_ret
      exact ⟨rfl, below_size hb1 hb2⟩
    · have q1 : ((bn : Int) != (n : Int)) = true := by rw [bne_iff_ne]; omega
      clear h c2
      go_enter Tryd.func4, Tryd.ntmps4
      go_wp2_with fail
      refine (first_any w).mono ?_; rintro e w1 ⟨rfl, hb1⟩
      go_wp2_with fail
      refine (first_any w1).mono ?_; rintro e w2 ⟨rfl, hb2⟩
      go_wp2_with fail
      go_ret
      exact ⟨rfl, below_size hb1 hb2⟩

theorem walk_NumJoins (a : Option Addr) (n cap : Nat) (xs : List Int) (b : Option Addr) (bn bc : Nat) (ys : List Int) (c : Option Addr) (cn cc : Nat) (zs : List Int) (p x : Int) (w : World) (hT : Table w)
    (hx : Reads .u8 w a n cap xs) (bx : isB xs) (hy : Reads .u8 w b bn bc ys) (by_ : isB ys) (hz : Reads .u8 w c cn cc zs) (bz : isB zs) (h0 : -9223372036854775808 ≤ p ∧ p ≤ 9223372036854775807) (hx0 : 0 ≤ x ∧ x < 256) :
    Calls Tryd.prog 4 #[.slice a n cap, .slice b bn bc, .slice c cn cc, .int .i64 p, .int .u8 x] w fun e w' => e = .returned (.bool true) ∧ Below w.heap.size w w' := by
  by_cases h : 8000 < n ∨ bn ≠ n ∨ cn ≠ n
  · exact joins_out a n cap b bn bc c cn cc p x w hx.n63.1 hy.n63.1 hz.n63.1 h
  · obtain rfl : bn = n := by omega
    obtain rfl : cn = bn := by omega
    exact joins_in a cn cap xs b bc ys c cc zs p x w hT hx bx hy by_ hz bz (by omega) h0 hx0
end Go.Proofs.YtckekklmjegajaaDoor
