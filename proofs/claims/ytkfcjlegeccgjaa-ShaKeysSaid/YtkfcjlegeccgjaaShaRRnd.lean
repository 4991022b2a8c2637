/-
  One round of the 64 of aquref1.Sum (the body of its loop), and what it computes.
-/
import Derived.Test.YtkfcjlegeccgjaaShaRConst
namespace Go.Proofs.Ytkfcjlegeccgjaa
open Go.RowKit

theorem Reads.cell0 {k : IntKind} {w : World} {g n cap : Nat} {xs : List Int} (h : Reads k w (some ⟨g, 0, Option.none⟩) n cap xs) (i : Nat) (hi : i < n) : w.cell? ⟨g, i, Option.none⟩ = some (.int k (xs.getD i 0)) := by
  obtain ⟨b, off, e, hl, hc⟩ := h.cells (by omega)
  cases e
  have := hc i hi
  rwa [Nat.zero_add] at this
theorem Reads.lt0 {k : IntKind} {w : World} {g n cap : Nat} {xs : List Int} (h : Reads k w (some ⟨g, 0, Option.none⟩) n cap xs) (hn : 0 < n) : g < w.heap.size := by
  obtain ⟨b, off, e, hl, hc⟩ := h.cells hn
  cases e
  exact hl
theorem sizeU32 : (Try.prog.info? 31).map (·.size) = some 1 := by kernel_rfl
theorem wpList_copy_arr {P : Program} {w : World} {ops : Array Oper} {rest : List Oper} {o : Oper} {a : Act} {Q : Exit → Act → World → Prop} (hgd : o.guard = none) (d s : Operand) (t : TypeId)
    (ho : o.op = .call { callee := .builtin .copy, args := #[d, s], argTypes := #[t, t] }) (elem : TypeId) (hu : P.underlying t = some (.slice elem)) (hsz : (P.info? elem).map (·.size) = some 1)
    (g gs L c1 c2 : Nat) (hd : a.eval d = .slice (some ⟨g, 0, none⟩) L c1) (hs : a.eval s = .slice (some ⟨gs, 0, none⟩) L c2) (ys xs : List Int) (T Ts : TypeId) (hg : ABox w g T ys) (hgs : ABox w gs Ts xs) (hl : ys.length = L) (hx : xs.length = L)
    (h : wpList P ops Q rest (a.put o.dst (goInt L)) (w.setRow g (xs.map (Value.int .u32)).toArray)) : wpList P ops Q (o :: rest) a w := by
  refine wpList_copy_own hgd d s t t ho elem hu hsz g 0 L c1 ⟨gs, 0, none⟩ L c2 hd hs _ T hg (xs.map (Value.int .u32)) (by rw [List.length_map, hx]; exact (Nat.min_self _).symm) (fun j v hv => ?_) (by simp [hl, hx]) (by simp [Value.oneCell']) ?_
  · have hj : j < xs.length := by have := (List.getElem?_eq_some_iff.1 hv).1; simpa using this
    rw [Addr.add_lit, Nat.zero_add, hgs.cell j hj]
    simp [hj] at hv
    simp [List.getD, hj, hv]
  · have e : (List.take 0 (ys.map (Value.int .u32)).toArray.toList ++ (xs.map (Value.int .u32) ++ List.drop (0 + (xs.map (Value.int .u32)).length) (ys.map (Value.int .u32)).toArray.toList)) = xs.map (Value.int .u32) := by
      rw [List.drop_eq_nil_of_le (by simp [hl, hx])]; simp
    rw [e, List.length_map, hx]
    exact h
theorem infoU32 : (Try.prog.info? 31).map (fun i => (i.zero, i.size, i.bytes)) = some (some (.int .u32 0), 1, 4) := by kernel_rfl
theorem made_64 (w : World) : (Instr.makeSlice 40 (.int .i64 64) (.int .i64 64)).run Try.prog w = .ok (.slice (some ⟨w.heap.size, 0, Option.none⟩) 64 64) (w.alloc (.cells (madeCells #[Value.int .u32 0] 64) 31)) := by
  obtain ⟨i0, hi, hz0, hz1, hz2⟩ := info_parts infoU32
  have := run_make (P := Try.prog) w 40 31 i0 (.int .u32 0) Try.underlying40 hi hz0 .i64 .i64 64 64 (by omega) (by omega) (by rw [hz2]; omega) (by omega)
  rw [hz1] at this
  refine this.trans ?_
  simp [Value.cells]
theorem made64_abox (w : World) : ABox (w.alloc (.cells (madeCells #[Value.int .u32 0] 64) 31)) w.heap.size 31 (List.replicate 64 0) :=
  ABox.new w 31 (List.replicate 64 0) _ (by rw [← Array.toList_inj, toList_made])


def loopsOf : Code → List Code
  | .loop c => c :: loopsOf c
  | .seq a b => loopsOf a ++ loopsOf b
  | .block _ c => loopsOf c
  | .scope c => loopsOf c
  | .cond _ a b => loopsOf a ++ loopsOf b
  | _ => []
noncomputable def rbody6 : Code := (loopsOf (Try.f9.body.getD .skip)).getD 5 .skip

set_option maxRecDepth 100000 in
set_option maxHeartbeats 8000000 in
theorem rround6 {u0 u1 u2 u4 u5 u6 u7 u9 u10 u11 u12 u13 u14 u17 u18 u19 u20 u21 u22 u23 u24 u25 u26 u27 u28 u29 u30 u31 u32 u33 u34 u35 u36 u37 u38 u39 u40 u41 u42 u43 u44 u45 u46 u47 u48 u49 u50 u51 u52 u53 u54 u55 u56 u57 u58 u59 u60 u61 u62 u63 u64 u65 u66 u67 u68 u69 u70 u71 u72 u73 u74 u75 u76 u77 u78 u79 u80 u81 u82 u83 u84 u85 u86 u87 u88 u89 u90 u91 u92 u93 u94 u95 u96 u97 u98 u99 u100 u101 u102 u103 u104 u105 u106 u107 u108 u109 u110 u111 u112 u113 u114 u115 u116 u117 u118 u119 u120 u121 u122 u123 u124 u125 u126 u127 u128 u129 u130 u131 u132 u133 u134 u135 u136 u137 u138 u139 u140 u141 u142 u143 u144 u145 u146 u147 u148 u149 u150 u151 u152 u153 u154 u155 u156 u157 u158 u159 u160 u161 u162 u163 u164 u165 u166 u167 u168 u169 u170 u171 u172 u173 u174 u175 u176 u177 u178 u179 u180 u181 u182 u183 u184 u185 u186 u187 u188 u189 u190 u191 u192 u193 u194 u195 u196 u197 u198 u199 u200 u201 u202 u203 u204 u205 u206 u207 u208 u209 u210 u211 u212 u213 u214 u215 u216 u217 u218 u219 u220 u221 u222 u223 u224 u225 u226 u227 u228 u229 u230 u231 u232 u233 u234 u235 u236 u237 u238 u239 u240 u241 u242 u243 u244 u245 u246 u247 u248 u249 u250 u251 u252 u253 u254 u255 u256 u257 u258 u259 u260 u261 u262 u263 u264 u265 u266 u267 u268 u269 u270 u271 u272 u273 u274 u275 u276 u277 u278 u279 u280 u281 u282 u283 u284 u285 u286 u287 u288 u289 u290 u291 u292 u293 u294 u295 u296 u297 u298 u299 u300 u301 u302 u303 u304 : Value} {code : Code} (hcode : code = rbody6) (kb gw g3 i : Nat) (wr v1 : World) (ws v : List Int) (kk wd : Int)
    (hlt : i < 64) (HKK : Hid (kSha.getD i 0 = kk)) (HWD : Hid (ws.getD i 0 = wd)) (HWL : Hid (ws.length = 64)) (hkw : 0 ≤ kk ∧ kk < 4294967296) (hwd : 0 ≤ wd ∧ wd < 4294967296)
    (hvl : v.length = 8) (hvw : isWs v) (Kz : Hid (ABox wr kb 31 kSha)) (Xz : Hid (ABox wr gw 31 ws)) (Y : Hid (ABox wr g3 32 v)) (V : Hid (Below g3 v1 wr)) (hk3 : kb < g3) (hw3 : gw < g3)
    (Q : Exit → Act → World → Prop)
    (hQ : ∀ (z16 z17 z18 z19 z20 z21 z166 z167 z168 z169 z170 z171 z172 z173 z174 z175 z176 z177 z178 z179 z180 z181 z182 z183 z184 z185 z186 z187 z188 z189 z190 z191 z192 z193 z194 z195 z196 z197 z198 z199 z200 z201 z202 z203 z204 z205 z206 z207 z208 z209 z210 z211 z212 z213 z214 z215 z216 z217 z218 z219 z220 z221 z222 z223 z224 z225 z226 z227 z228 z229 z230 z231 z232 z233 z234 z235 z236 z237 z238 z239 z240 z241 z242 z243 z244 z245 z246 z247 z248 z249 z250 z251 z252 z253 z254 z255 z256 z257 z258 : Value) (w2 : World), z16 = .int .i64 ((i + 1 : Nat) : Int) → ABox w2 g3 32 (rnd kk wd v) → Below g3 v1 w2 → Q .normal ⟨List.toArray (u0 :: u1 :: u2 :: Value.slice (some ⟨kb, 0, Option.none⟩) 64 64 :: u4 :: u5 :: u6 :: u7 :: Value.slice (some ⟨gw, 0, Option.none⟩) 64 64 :: u9 :: u10 :: u11 :: u12 :: u13 :: u14 :: Value.pointer (some ⟨g3, 0, Option.none⟩) :: z16 :: z17 :: z18 :: z19 :: z20 :: z21 :: u22 :: u23 :: u24 :: u25 :: u26 :: u27 :: u28 :: u29 :: u30 :: u31 :: u32 :: u33 :: u34 :: u35 :: u36 :: u37 :: u38 :: u39 :: u40 :: u41 :: u42 :: u43 :: u44 :: u45 :: u46 :: u47 :: u48 :: u49 :: u50 :: u51 :: u52 :: u53 :: u54 :: u55 :: u56 :: u57 :: u58 :: u59 :: u60 :: u61 :: u62 :: u63 :: u64 :: u65 :: u66 :: u67 :: u68 :: u69 :: u70 :: u71 :: u72 :: u73 :: u74 :: u75 :: u76 :: u77 :: u78 :: u79 :: u80 :: u81 :: u82 :: u83 :: u84 :: u85 :: u86 :: u87 :: u88 :: u89 :: u90 :: u91 :: u92 :: u93 :: u94 :: u95 :: u96 :: u97 :: u98 :: u99 :: u100 :: u101 :: u102 :: u103 :: u104 :: u105 :: u106 :: u107 :: u108 :: u109 :: u110 :: u111 :: u112 :: u113 :: u114 :: u115 :: u116 :: u117 :: u118 :: u119 :: u120 :: u121 :: u122 :: u123 :: u124 :: u125 :: u126 :: u127 :: u128 :: u129 :: u130 :: u131 :: u132 :: u133 :: u134 :: u135 :: u136 :: u137 :: u138 :: u139 :: u140 :: u141 :: u142 :: u143 :: u144 :: u145 :: u146 :: u147 :: u148 :: u149 :: u150 :: u151 :: u152 :: u153 :: u154 :: u155 :: u156 :: u157 :: u158 :: u159 :: u160 :: u161 :: u162 :: u163 :: u164 :: u165 :: z166 :: z167 :: z168 :: z169 :: z170 :: z171 :: z172 :: z173 :: z174 :: z175 :: z176 :: z177 :: z178 :: z179 :: z180 :: z181 :: z182 :: z183 :: z184 :: z185 :: z186 :: z187 :: z188 :: z189 :: z190 :: z191 :: z192 :: z193 :: z194 :: z195 :: z196 :: z197 :: z198 :: z199 :: z200 :: z201 :: z202 :: z203 :: z204 :: z205 :: z206 :: z207 :: z208 :: z209 :: z210 :: z211 :: z212 :: z213 :: z214 :: z215 :: z216 :: z217 :: z218 :: z219 :: z220 :: z221 :: z222 :: z223 :: z224 :: z225 :: z226 :: z227 :: z228 :: z229 :: z230 :: z231 :: z232 :: z233 :: z234 :: z235 :: z236 :: z237 :: z238 :: z239 :: z240 :: z241 :: z242 :: z243 :: z244 :: z245 :: z246 :: z247 :: z248 :: z249 :: z250 :: z251 :: z252 :: z253 :: z254 :: z255 :: z256 :: z257 :: z258 :: u259 :: u260 :: u261 :: u262 :: u263 :: u264 :: u265 :: u266 :: u267 :: u268 :: u269 :: u270 :: u271 :: u272 :: u273 :: u274 :: u275 :: u276 :: u277 :: u278 :: u279 :: u280 :: u281 :: u282 :: u283 :: u284 :: u285 :: u286 :: u287 :: u288 :: u289 :: u290 :: u291 :: u292 :: u293 :: u294 :: u295 :: u296 :: u297 :: u298 :: u299 :: u300 :: u301 :: u302 :: u303 :: u304 :: []), []⟩ w2) :
    Code.wp Try.prog code Q ⟨List.toArray (u0 :: u1 :: u2 :: Value.slice (some ⟨kb, 0, Option.none⟩) 64 64 :: u4 :: u5 :: u6 :: u7 :: Value.slice (some ⟨gw, 0, Option.none⟩) 64 64 :: u9 :: u10 :: u11 :: u12 :: u13 :: u14 :: Value.pointer (some ⟨g3, 0, Option.none⟩) :: Value.int .i64 (i : Int) :: u17 :: u18 :: u19 :: u20 :: u21 :: u22 :: u23 :: u24 :: u25 :: u26 :: u27 :: u28 :: u29 :: u30 :: u31 :: u32 :: u33 :: u34 :: u35 :: u36 :: u37 :: u38 :: u39 :: u40 :: u41 :: u42 :: u43 :: u44 :: u45 :: u46 :: u47 :: u48 :: u49 :: u50 :: u51 :: u52 :: u53 :: u54 :: u55 :: u56 :: u57 :: u58 :: u59 :: u60 :: u61 :: u62 :: u63 :: u64 :: u65 :: u66 :: u67 :: u68 :: u69 :: u70 :: u71 :: u72 :: u73 :: u74 :: u75 :: u76 :: u77 :: u78 :: u79 :: u80 :: u81 :: u82 :: u83 :: u84 :: u85 :: u86 :: u87 :: u88 :: u89 :: u90 :: u91 :: u92 :: u93 :: u94 :: u95 :: u96 :: u97 :: u98 :: u99 :: u100 :: u101 :: u102 :: u103 :: u104 :: u105 :: u106 :: u107 :: u108 :: u109 :: u110 :: u111 :: u112 :: u113 :: u114 :: u115 :: u116 :: u117 :: u118 :: u119 :: u120 :: u121 :: u122 :: u123 :: u124 :: u125 :: u126 :: u127 :: u128 :: u129 :: u130 :: u131 :: u132 :: u133 :: u134 :: u135 :: u136 :: u137 :: u138 :: u139 :: u140 :: u141 :: u142 :: u143 :: u144 :: u145 :: u146 :: u147 :: u148 :: u149 :: u150 :: u151 :: u152 :: u153 :: u154 :: u155 :: u156 :: u157 :: u158 :: u159 :: u160 :: u161 :: u162 :: u163 :: u164 :: u165 :: u166 :: u167 :: u168 :: u169 :: u170 :: u171 :: u172 :: u173 :: u174 :: u175 :: u176 :: u177 :: u178 :: u179 :: u180 :: u181 :: u182 :: u183 :: u184 :: u185 :: u186 :: u187 :: u188 :: u189 :: u190 :: u191 :: u192 :: u193 :: u194 :: u195 :: u196 :: u197 :: u198 :: u199 :: u200 :: u201 :: u202 :: u203 :: u204 :: u205 :: u206 :: u207 :: u208 :: u209 :: u210 :: u211 :: u212 :: u213 :: u214 :: u215 :: u216 :: u217 :: u218 :: u219 :: u220 :: u221 :: u222 :: u223 :: u224 :: u225 :: u226 :: u227 :: u228 :: u229 :: u230 :: u231 :: u232 :: u233 :: u234 :: u235 :: u236 :: u237 :: u238 :: u239 :: u240 :: u241 :: u242 :: u243 :: u244 :: u245 :: u246 :: u247 :: u248 :: u249 :: u250 :: u251 :: u252 :: u253 :: u254 :: u255 :: u256 :: u257 :: u258 :: u259 :: u260 :: u261 :: u262 :: u263 :: u264 :: u265 :: u266 :: u267 :: u268 :: u269 :: u270 :: u271 :: u272 :: u273 :: u274 :: u275 :: u276 :: u277 :: u278 :: u279 :: u280 :: u281 :: u282 :: u283 :: u284 :: u285 :: u286 :: u287 :: u288 :: u289 :: u290 :: u291 :: u292 :: u293 :: u294 :: u295 :: u296 :: u297 :: u298 :: u299 :: u300 :: u301 :: u302 :: u303 :: u304 :: []), []⟩ wr := by
  subst hcode
  have dk := fun x : GrownW wr => x.cell Kz.out.lt (Kz.out.cell i (by show i < 64; exact hlt))
  have dw := fun x : GrownW wr => x.cell Xz.out.lt (Xz.out.cell i (by rw [HWL.out]; exact hlt))
  rw [HKK.out] at dk
  rw [HWD.out] at dw
  have hi64 : (i : Int) < 64 := by omega
  have hi0 : (0 : Int) ≤ i := by omega
  unfold rbody6; conv => arg 2; whnf
  have e0 := hvw.get 0 (by rw [hvl]; decide)
  obtain ⟨x0, hx0⟩ : ∃ x, v.getD 0 0 = x := ⟨_, rfl⟩
  have HX0 := Lib.hid hx0
  rw [hx0] at e0
  clear hx0
  have e1 := hvw.get 1 (by rw [hvl]; decide)
  obtain ⟨x1, hx1⟩ : ∃ x, v.getD 1 0 = x := ⟨_, rfl⟩
  have HX1 := Lib.hid hx1
  rw [hx1] at e1
  clear hx1
  have e2 := hvw.get 2 (by rw [hvl]; decide)
  obtain ⟨x2, hx2⟩ : ∃ x, v.getD 2 0 = x := ⟨_, rfl⟩
  have HX2 := Lib.hid hx2
  rw [hx2] at e2
  clear hx2
  have e3 := hvw.get 3 (by rw [hvl]; decide)
  obtain ⟨x3, hx3⟩ : ∃ x, v.getD 3 0 = x := ⟨_, rfl⟩
  have HX3 := Lib.hid hx3
  rw [hx3] at e3
  clear hx3
  have e4 := hvw.get 4 (by rw [hvl]; decide)
  obtain ⟨x4, hx4⟩ : ∃ x, v.getD 4 0 = x := ⟨_, rfl⟩
  have HX4 := Lib.hid hx4
  rw [hx4] at e4
  clear hx4
  have e5 := hvw.get 5 (by rw [hvl]; decide)
  obtain ⟨x5, hx5⟩ : ∃ x, v.getD 5 0 = x := ⟨_, rfl⟩
  have HX5 := Lib.hid hx5
  rw [hx5] at e5
  clear hx5
  have e6 := hvw.get 6 (by rw [hvl]; decide)
  obtain ⟨x6, hx6⟩ : ∃ x, v.getD 6 0 = x := ⟨_, rfl⟩
  have HX6 := Lib.hid hx6
  rw [hx6] at e6
  clear hx6
  have e7 := hvw.get 7 (by rw [hvl]; decide)
  obtain ⟨x7, hx7⟩ : ∃ x, v.getD 7 0 = x := ⟨_, rfl⟩
  have HX7 := Lib.hid hx7
  rw [hx7] at e7
  clear hx7
  obtain ⟨k0, k1⟩ := hkw; obtain ⟨k2, k3⟩ := hwd
  clear hvw
  have T6 : ∀ w, Calls Try.prog 20 #[.int .u32 x4, .int .i64 6] w fun e w' => e = .returned (.int .u32 (rot x4 6)) ∧ Below w.heap.size w w' := fun w => rturn_any x4 6 w e4 (by decide) (by decide)
  have T11 : ∀ w, Calls Try.prog 20 #[.int .u32 x4, .int .i64 11] w fun e w' => e = .returned (.int .u32 (rot x4 11)) ∧ Below w.heap.size w w' := fun w => rturn_any x4 11 w e4 (by decide) (by decide)
  have T25 : ∀ w, Calls Try.prog 20 #[.int .u32 x4, .int .i64 25] w fun e w' => e = .returned (.int .u32 (rot x4 25)) ∧ Below w.heap.size w w' := fun w => rturn_any x4 25 w e4 (by decide) (by decide)
  have T2 : ∀ w, Calls Try.prog 20 #[.int .u32 x0, .int .i64 2] w fun e w' => e = .returned (.int .u32 (rot x0 2)) ∧ Below w.heap.size w w' := fun w => rturn_any x0 2 w e0 (by decide) (by decide)
  have T13 : ∀ w, Calls Try.prog 20 #[.int .u32 x0, .int .i64 13] w fun e w' => e = .returned (.int .u32 (rot x0 13)) ∧ Below w.heap.size w w' := fun w => rturn_any x0 13 w e0 (by decide) (by decide)
  have T22 : ∀ w, Calls Try.prog 20 #[.int .u32 x0, .int .i64 22] w fun e w' => e = .returned (.int .u32 (rot x0 22)) ∧ Below w.heap.size w w' := fun w => rturn_any x0 22 w e0 (by decide) (by decide)
  have H6 := Lib.hid T6; have H11 := Lib.hid T11; have H25 := Lib.hid T25; have H2 := Lib.hid T2; have H13 := Lib.hid T13; have H22 := Lib.hid T22
  have HB1 := Lib.hid (show big1 x4 = xor32 (xor32 (rot x4 6) (rot x4 11)) (rot x4 25) from rfl)
  have HB0 := Lib.hid (show big0 x0 = xor32 (xor32 (rot x0 2) (rot x0 13)) (rot x0 22) from rfl)
  generalize rot x4 6 = r1 at *
  generalize rot x4 11 = r2 at *
  generalize rot x4 25 = r3 at *
  generalize rot x0 2 = r4 at *
  generalize rot x0 13 = r5 at *
  generalize rot x0 22 = r6 at *
  clear T6 T11 T25 T2 T13 T22
  have i9 : (i : Int) < 64 := by omega
  have i8 : (0 : Int) ≤ i := by omega
  have c0 := fun x : GrownW wr => x.cell Y.out.lt (Y.out.cell 0 (by rw [hvl]; decide))
  rw [HX0.out] at c0
  have c1 := fun x : GrownW wr => x.cell Y.out.lt (Y.out.cell 1 (by rw [hvl]; decide))
  rw [HX1.out] at c1
  have c2 := fun x : GrownW wr => x.cell Y.out.lt (Y.out.cell 2 (by rw [hvl]; decide))
  rw [HX2.out] at c2
  have c3 := fun x : GrownW wr => x.cell Y.out.lt (Y.out.cell 3 (by rw [hvl]; decide))
  rw [HX3.out] at c3
  have c4 := fun x : GrownW wr => x.cell Y.out.lt (Y.out.cell 4 (by rw [hvl]; decide))
  rw [HX4.out] at c4
  have c5 := fun x : GrownW wr => x.cell Y.out.lt (Y.out.cell 5 (by rw [hvl]; decide))
  rw [HX5.out] at c5
  have c6 := fun x : GrownW wr => x.cell Y.out.lt (Y.out.cell 6 (by rw [hvl]; decide))
  rw [HX6.out] at c6
  have c7 := fun x : GrownW wr => x.cell Y.out.lt (Y.out.cell 7 (by rw [hvl]; decide))
  rw [HX7.out] at c7
  go_wp2_with fail
  refine wp_region_grow_lit (by kernel_rfl) (by kernel_rfl) ?_
  repeat (go_big_quiet_step (first
    | (go_at_call 20; (with_reducible refine grow_call (H6.out _)))
    | (go_at_call 20; (with_reducible refine grow_call (H11.out _)))
    | (go_at_call 20; (with_reducible refine grow_call (H25.out _)))))
  refine wpQuiet_nil ?_
  intro wg hw'
  obtain ⟨⟨wz, hbg⟩, hw''⟩ := hw'
  subst hw''
  clear c0 c1 c2 c3 c4 c5 c6 c7 dk dw
  obtain ⟨wh, rfl⟩ : ∃ wh : World, wh = wg := ⟨_, rfl⟩
  have Yh := Lib.hid (Y.out.below hbg); have Kh := Lib.hid (Kz.out.below hbg); have Xh := Lib.hid (Xz.out.below hbg); have Vh := Lib.hid (V.out.trans (hbg.mono (Nat.le_of_lt Y.out.lt)))
  clear hbg
  have c0 := Yh.out.cell 0 (by rw [hvl]; decide)
  rw [HX0.out] at c0
  have c1 := Yh.out.cell 1 (by rw [hvl]; decide)
  rw [HX1.out] at c1
  have c2 := Yh.out.cell 2 (by rw [hvl]; decide)
  rw [HX2.out] at c2
  have c3 := Yh.out.cell 3 (by rw [hvl]; decide)
  rw [HX3.out] at c3
  have c4 := Yh.out.cell 4 (by rw [hvl]; decide)
  rw [HX4.out] at c4
  have c5 := Yh.out.cell 5 (by rw [hvl]; decide)
  rw [HX5.out] at c5
  have c6 := Yh.out.cell 6 (by rw [hvl]; decide)
  rw [HX6.out] at c6
  have c7 := Yh.out.cell 7 (by rw [hvl]; decide)
  rw [HX7.out] at c7
  go_upto_region 33 with (fail)
  rw [show bits .xor .u32 (bits .and .u32 x4 x5) (bits .and .u32 (bits .xor .u32 (if IntKind.u32.signed = true then -1 else IntKind.u32.max) x4) x6) = chF x4 x5 x6 from rfl, show bits BinOp.xor IntKind.u32 (bits BinOp.xor IntKind.u32 r1 r2) r3 = big1 x4 from HB1.out.symm]
  obtain ⟨ch, hch⟩ : ∃ x, chF x4 x5 x6 = x := ⟨_, rfl⟩
  obtain ⟨bg, hbg⟩ : ∃ x, big1 x4 = x := ⟨_, rfl⟩
  rw [hch, hbg]
  have HCH := Lib.hid hch; have HBG := Lib.hid hbg
  clear hch hbg
  clear c0 c1 c2 c3 c4 c5 c6 c7
  have c0 := fun x : GrownW wh => x.cell Yh.out.lt (Yh.out.cell 0 (by rw [hvl]; decide))
  rw [HX0.out] at c0
  have c1 := fun x : GrownW wh => x.cell Yh.out.lt (Yh.out.cell 1 (by rw [hvl]; decide))
  rw [HX1.out] at c1
  have c2 := fun x : GrownW wh => x.cell Yh.out.lt (Yh.out.cell 2 (by rw [hvl]; decide))
  rw [HX2.out] at c2
  have c3 := fun x : GrownW wh => x.cell Yh.out.lt (Yh.out.cell 3 (by rw [hvl]; decide))
  rw [HX3.out] at c3
  have c4 := fun x : GrownW wh => x.cell Yh.out.lt (Yh.out.cell 4 (by rw [hvl]; decide))
  rw [HX4.out] at c4
  have c5 := fun x : GrownW wh => x.cell Yh.out.lt (Yh.out.cell 5 (by rw [hvl]; decide))
  rw [HX5.out] at c5
  have c6 := fun x : GrownW wh => x.cell Yh.out.lt (Yh.out.cell 6 (by rw [hvl]; decide))
  rw [HX6.out] at c6
  have c7 := fun x : GrownW wh => x.cell Yh.out.lt (Yh.out.cell 7 (by rw [hvl]; decide))
  rw [HX7.out] at c7
  have dk := fun x : GrownW wh => x.cell Kh.out.lt (Kh.out.cell i (by show i < 64; exact hlt))
  have dw := fun x : GrownW wh => x.cell Xh.out.lt (Xh.out.cell i (by rw [HWL.out]; exact hlt))
  rw [HKK.out] at dk
  rw [HWD.out] at dw
  refine wp_region_grow_lit (by kernel_rfl) (by kernel_rfl) ?_
  repeat (go_big_quiet_step (fail))
  refine wpQuiet_nil ?_
  intro wg hw'
  obtain ⟨⟨wz, hbg⟩, hw''⟩ := hw'
  subst hw''
  obtain ⟨wi, rfl⟩ : ∃ wi : World, wi = wg := ⟨_, rfl⟩
  rw [show ((x7 + bg + ch + kk) % 4294967296 + wd) % 4294967296 = add32 (add32 (add32 (add32 x7 bg) ch) kk) wd by unfold add32; omega]
  obtain ⟨t1, ht1⟩ : ∃ x, add32 (add32 (add32 (add32 x7 bg) ch) kk) wd = x := ⟨_, rfl⟩
  rw [ht1]
  have HT1 := Lib.hid ht1
  go_upto_region 34 with (fail)
  clear ht1 c0 c1 c2 c3 c4 c5 c6 c7 dk dw
  have Yi := Lib.hid (Yh.out.below hbg); have Vi := Lib.hid (Vh.out.trans (hbg.mono (Nat.le_of_lt Yh.out.lt)))
  clear hbg
  have c0 := fun x : GrownW wi => x.cell Yi.out.lt (Yi.out.cell 0 (by rw [hvl]; decide))
  rw [HX0.out] at c0
  have c1 := fun x : GrownW wi => x.cell Yi.out.lt (Yi.out.cell 1 (by rw [hvl]; decide))
  rw [HX1.out] at c1
  have c2 := fun x : GrownW wi => x.cell Yi.out.lt (Yi.out.cell 2 (by rw [hvl]; decide))
  rw [HX2.out] at c2
  have c3 := fun x : GrownW wi => x.cell Yi.out.lt (Yi.out.cell 3 (by rw [hvl]; decide))
  rw [HX3.out] at c3
  have c4 := fun x : GrownW wi => x.cell Yi.out.lt (Yi.out.cell 4 (by rw [hvl]; decide))
  rw [HX4.out] at c4
  have c5 := fun x : GrownW wi => x.cell Yi.out.lt (Yi.out.cell 5 (by rw [hvl]; decide))
  rw [HX5.out] at c5
  have c6 := fun x : GrownW wi => x.cell Yi.out.lt (Yi.out.cell 6 (by rw [hvl]; decide))
  rw [HX6.out] at c6
  have c7 := fun x : GrownW wi => x.cell Yi.out.lt (Yi.out.cell 7 (by rw [hvl]; decide))
  rw [HX7.out] at c7
  refine wp_region_grow_lit (by kernel_rfl) (by kernel_rfl) ?_
  repeat (go_big_quiet_step (first
    | (go_at_call 20; (with_reducible refine grow_call (H2.out _)))
    | (go_at_call 20; (with_reducible refine grow_call (H13.out _)))
    | (go_at_call 20; (with_reducible refine grow_call (H22.out _)))))
  refine wpQuiet_nil ?_
  intro wg hw'
  obtain ⟨⟨wz, hbg⟩, hw''⟩ := hw'
  subst hw''
  obtain ⟨wj, rfl⟩ : ∃ wj : World, wj = wg := ⟨_, rfl⟩
  rw [show bits BinOp.xor IntKind.u32 (bits BinOp.xor IntKind.u32 r4 r5) r6 = big0 x0 from HB0.out.symm]
  obtain ⟨bh, hbh⟩ : ∃ x, big0 x0 = x := ⟨_, rfl⟩
  rw [hbh]
  have HBH := Lib.hid hbh
  go_upto_region 35 with (fail)
  clear hbh c0 c1 c2 c3 c4 c5 c6 c7
  have Yj := Lib.hid (Yi.out.below hbg); have Vj := Lib.hid (Vi.out.trans (hbg.mono (Nat.le_of_lt Yi.out.lt)))
  clear hbg
  have c0 := Yj.out.cell 0 (by rw [hvl]; decide)
  rw [HX0.out] at c0
  have c1 := Yj.out.cell 1 (by rw [hvl]; decide)
  rw [HX1.out] at c1
  have c2 := Yj.out.cell 2 (by rw [hvl]; decide)
  rw [HX2.out] at c2
  have c3 := Yj.out.cell 3 (by rw [hvl]; decide)
  rw [HX3.out] at c3
  have c4 := Yj.out.cell 4 (by rw [hvl]; decide)
  rw [HX4.out] at c4
  have c5 := Yj.out.cell 5 (by rw [hvl]; decide)
  rw [HX5.out] at c5
  have c6 := Yj.out.cell 6 (by rw [hvl]; decide)
  rw [HX6.out] at c6
  have c7 := Yj.out.cell 7 (by rw [hvl]; decide)
  rw [HX7.out] at c7
  go_upto_region 36 with (fail)
  rw [show bits BinOp.xor IntKind.u32 (bits BinOp.xor IntKind.u32 (bits BinOp.and IntKind.u32 x0 x1) (bits BinOp.and IntKind.u32 x0 x2)) (bits BinOp.and IntKind.u32 x1 x2) = maF x0 x1 x2 from rfl]
  obtain ⟨mj, hmj⟩ : ∃ x, maF x0 x1 x2 = x := ⟨_, rfl⟩
  rw [hmj]
  have HMJ := Lib.hid hmj
  clear hmj
  have f0 := Yj.out.frozen 0
  have f1 := Yj.out.frozen 1
  have f2 := Yj.out.frozen 2
  have f3 := Yj.out.frozen 3
  have f4 := Yj.out.frozen 4
  have f5 := Yj.out.frozen 5
  have f6 := Yj.out.frozen 6
  have f7 := Yj.out.frozen 7
  go_wp2_with (fail)
  refine hQ _ _ _ _ _ _ _ _ _ _ _ _ _ _ _ _ _ _ _ _ _ _ _ _ _ _ _ _ _ _ _ _ _ _ _ _ _ _ _ _ _ _ _ _ _ _ _ _ _ _ _ _ _ _ _ _ _ _ _ _ _ _ _ _ _ _ _ _ _ _ _ _ _ _ _ _ _ _ _ _ _ _ _ _ _ _ _ _ _ _ _ _ _ _ _ _ _ _ _ _ (by go_num) ?_ ?_
  · have HY := (((((((Yj.out.set 0 ((t1 + bh + mj) % 4294967296)).set 1 x0).set 2 x1).set 3 x2).set 4 ((x3 + t1) % 4294967296)).set 5 x4).set 6 x5).set 7 x6
    rw [set8 hvl] at HY
    unfold rnd t1F
    rw [HX0.out, HX1.out, HX2.out, HX3.out, HX4.out, HX5.out, HX6.out, HX7.out, HBG.out, HCH.out, HT1.out, HBH.out, HMJ.out, add32_2]
    exact HY
  · iterate 8 (refine Below.setCell ?_ (by exact Nat.le_refl _) _)
    exact Vj.out
end Go.Proofs.Ytkfcjlegeccgjaa
