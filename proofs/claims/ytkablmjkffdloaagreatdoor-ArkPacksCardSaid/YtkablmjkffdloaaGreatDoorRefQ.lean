/-
  The reference's SHA-256: a row of words copied; the plain facts of a block.
-/
import Derived.Test.YtkablmjkffdloaaGreatDoorLeaf
import Derived.BigRegion
import Derived.Deep.RegionHeld3
namespace Go.Proofs.YtkablmjkffdloaaGreatDoor
open Go.RowKit

theorem turn_any (x : UInt32) {k j p q : Nat} (h0 : 0 < k) (hk : k < 32) (hj : k + j = 32) (hp : 2 ^ j = p) (hq : 2 ^ k = q) (w : World) : Calls Tryz.prog 89 #[.int .u32 (x.toNat : Int), .int .i64 (k : Int)] w fun e w' => e = .returned (.int .u32 ((rotr x k).toNat : Int)) ∧ ∃ m, w' = w.drewN m := by
  have e1 : (32 : Int) - (k : Int) = (j : Int) := by omega
  have e2 : (x.toNat : Int) / 2 ^ k = ((x >>> (UInt32.ofNat k)).toNat : Int) := by rw [pow_int, hq]; exact shrN x hk hq
  have e3 : (x.toNat : Int) * 2 ^ j % 4294967296 = ((x <<< (UInt32.ofNat j)).toNat : Int) := by rw [pow_int, hp]; exact shlN x (by omega) hp
  have e4 : bits .or .u32 ((x >>> (UInt32.ofNat k)).toNat : Int) ((x <<< (UInt32.ofNat j)).toNat : Int) = ((rotr x k).toNat : Int) := by
    rw [bor]
    unfold rotr
    rw [show 32 - k = j by omega, UInt32.or_comm]
  have hx := u32_lt x
  have hj32 : j < 32 := by omega
  obtain ⟨y, hy⟩ : ∃ y, x >>> (UInt32.ofNat k) = y := ⟨_, rfl⟩
  obtain ⟨z, hz⟩ : ∃ z, x <<< (UInt32.ofNat j) = z := ⟨_, rfl⟩
  rw [hy] at e2 e4
  rw [hz] at e3 e4
  clear hj hp hq hy hz
  go_enter Tryz.func89, Tryz.ntmps89
  go_wp2
  go_quiet (fail)
  go_wp2
  go_ret
  exact ⟨rfl, nq, rfl⟩

/-- A row of words. -/
abbrev WBlk (w : World) (B : Nat) (l : List UInt32) : Prop := Blk w B (l.map encW).toArray 39
theorem WBlk.at {w : World} {B : Nat} {l : List UInt32} (h : WBlk w B l) {i : Nat} (hi : i < l.length) : w.cell? ⟨B, i, none⟩ = some (.int .u32 (l[i].toNat : Int)) := by
  rw [h.cell i]
  simp [encW, hi]
theorem WBlk.put {w : World} {B : Nat} {l : List UInt32} (h : WBlk w B l) (i : Nat) (x : UInt32) : WBlk (w.setCell ⟨B, i, none⟩ (.int .u32 (x.toNat : Int))) B (l.set i x) := by
  have := h.set i (encW x)
  have e : ((l.map encW).toArray.setIfInBounds i (encW x)) = ((l.set i x).map encW).toArray := by simp
  rw [e] at this
  exact this

/-- Words lie at the front of a block. -/
def WAt (w : World) (B : Nat) (l : List UInt32) : Prop := ∀ k (hk : k < l.length), w.cell? ⟨B, k, none⟩ = some (.int .u32 (l[k].toNat : Int))
theorem WBlk.wat {w : World} {B : Nat} {l : List UInt32} (h : WBlk w B l) : WAt w B l := fun _ hk => h.at hk
theorem WAt.lt {w : World} {B : Nat} {l : List UInt32} (h : WAt w B l) (hl : 0 < l.length) : B < w.heap.size := lt_of_cell (h 0 hl)

/-- What a loop leaves that may write into one block alone. -/
structure Fr1 (B : Nat) (w w' : World) : Prop where
  os : w'.os = w.os
  tape : w'.tape = w.tape
  output : w'.output = w.output
  size : w.heap.size ≤ w'.heap.size
  block : ∀ k, k < w.heap.size → k ≠ B → w'.heap[k]? = w.heap[k]?
theorem Fr1.refl (B : Nat) (w : World) : Fr1 B w w := ⟨rfl, rfl, rfl, Nat.le_refl _, fun _ _ _ => rfl⟩
theorem Fr1.trans {B : Nat} {a b c : World} (h : Fr1 B a b) (k : Fr1 B b c) : Fr1 B a c := ⟨k.os.trans h.os, k.tape.trans h.tape, k.output.trans h.output, Nat.le_trans h.size k.size, fun i hi hn => (k.block i (Nat.lt_of_lt_of_le hi h.size) hn).trans (h.block i hi hn)⟩
theorem Fr1.set {B : Nat} {a w : World} (h : Fr1 B a w) (i : Nat) (v : Value) : Fr1 B a (w.setCell ⟨B, i, none⟩ v) := h.trans ⟨rfl, rfl, rfl, by simp [World.setCell], fun k _ hk => Below.heap_setCell _ _ _ _ hk⟩
theorem Fr1.drewN {B : Nat} {a w : World} (h : Fr1 B a w) (n : Nat) : Fr1 B a (w.drewN n) := h.trans ⟨rfl, rfl, rfl, Nat.le_refl _, fun _ _ _ => rfl⟩
theorem Fr1.drew {B : Nat} {a w : World} (h : Fr1 B a w) : Fr1 B a w.drew := h.trans ⟨rfl, rfl, rfl, Nat.le_refl _, fun _ _ _ => rfl⟩
theorem Fr1.blk {B C : Nat} {w w' : World} {cs : Array Value} {t : TypeId} (h : Fr1 B w w') (hne : C ≠ B) (hb : Blk w C cs t) : Blk w' C cs t := (h.block C hb.lt hne).trans hb

theorem Fr1.wat {B C : Nat} {w w' : World} {l : List UInt32} (h : Fr1 B w w') (hne : C ≠ B) (hl : 0 < l.length) (hb : WAt w C l) : WAt w' C l := fun k hk => (World.cell?_of_block (h.block C (hb.lt hl) hne)).trans (hb k hk)

/-- A piece of code that is left by one exit alone. -/
def OnExit (n : Nat) (Post : Act → World → Prop) : Exit → Act → World → Prop
  | .exit m, a, w => m = n ∧ Post a w
  | _, _, _ => False

theorem onExit_out {Q : Exit → Act → World → Prop} {n : Nat} : ∀ e a w, OnExit n (fun a w => Q (.exit n) a w) e a w → Q e a w := by
  intro e a w h
  cases e with
  | exit m => obtain ⟨rfl, h⟩ := h; exact h
  | _ => exact h.elim
theorem useLoop {P : Program} {c : Code} {Q : Exit → Act → World → Prop} {a : Act} {w : World} (n : Nat) (h : Code.wp P c (OnExit n (fun a w => Q (.exit n) a w)) a w) : Code.wp P c Q a w := Code.wp_mono onExit_out h

/-- The loops of a body, the outer ones ahead of those within them. -/
def loopsOf : Code → List Code
  | .loop c => c :: loopsOf c
  | .seq a b => loopsOf a ++ loopsOf b
  | .block _ c => loopsOf c
  | .scope c => loopsOf c
  | .cond _ a b => loopsOf a ++ loopsOf b
  | _ => []
noncomputable def body7 : Code := ((Tryz.f28.body.map loopsOf).getD []).getD 6 .skip
theorem body7_is : Tryz.f28.body.isSome = true := by kernel_rfl
end Go.Proofs.YtkablmjkffdloaaGreatDoor

namespace Go.Proofs.YtkablmjkffdloaaGreatDoor
open Go.RowKit

noncomputable def body4 : Code := ((Tryz.f28.body.map loopsOf).getD []).getD 3 .skip

theorem be_spell (a b c d : UInt8) : ∃ A B C AB ABC : UInt32, (a.toNat : Int) * 16777216 = (A.toNat : Int) ∧ (b.toNat : Int) * 65536 = (B.toNat : Int) ∧ (c.toNat : Int) * 256 = (C.toNat : Int) ∧
    bits .or .u32 (A.toNat : Int) (B.toNat : Int) = (AB.toNat : Int) ∧ bits .or .u32 (AB.toNat : Int) (C.toNat : Int) = (ABC.toNat : Int) ∧ bits .or .u32 (ABC.toNat : Int) (d.toNat : Int) = ((be32 a b c d).toNat : Int) := by
  refine ⟨a.toUInt32 <<< 24, b.toUInt32 <<< 16, c.toUInt32 <<< 8, _, _, ?_, ?_, ?_, bor _ _, bor _ _, ?_⟩
  · have h := shlN a.toUInt32 (k := 24) (p := 16777216) (by decide) (by decide)
    have hb := u8_lt a
    rw [← u8_32] at h
    have e : ((a.toNat : Int) * ((16777216 : Nat) : Int)) % 4294967296 = (a.toNat : Int) * 16777216 := by omega
    rw [← e, h]; rfl
  · have h := shlN b.toUInt32 (k := 16) (p := 65536) (by decide) (by decide)
    have hb := u8_lt b
    rw [← u8_32] at h
    have e : ((b.toNat : Int) * ((65536 : Nat) : Int)) % 4294967296 = (b.toNat : Int) * 65536 := by omega
    rw [← e, h]; rfl
  · have h := shlN c.toUInt32 (k := 8) (p := 256) (by decide) (by decide)
    have hb := u8_lt c
    rw [← u8_32] at h
    have e : ((c.toNat : Int) * ((256 : Nat) : Int)) % 4294967296 = (c.toNat : Int) * 256 := by omega
    rw [← e, h]; rfl
  · rw [u8_32 d, bor]; rfl

theorem put_next {l m : List UInt32} {i : Nat} (hl : l.length = m.length) (hi : i < l.length) : (l.take i ++ m.drop i).set i l[i] = l.take (i + 1) ++ m.drop (i + 1) := by
  apply List.ext_getElem
  · simp; omega
  · intro k h1 h2
    simp only [List.getElem_set, List.getElem_append, List.length_take, List.getElem_take, List.getElem_drop]
    have e1 : min i l.length = i := by omega
    have e2 : min (i + 1) l.length = i + 1 := by omega
    by_cases hk : i = k
    · subst hk
      simp [e2]
    · by_cases hlt : k < i
      · simp [hk, e1, e2, hlt, show k < i + 1 by omega]
      · have e3 : ¬ k < i + 1 := by omega
        simp only [hk, e1, e2, hlt, e3, if_false, dif_neg, not_false_eq_true]
        congr 1
        omega

set_option maxRecDepth 1000000 in
set_option maxHeartbeats 4000000 in
theorem loop4 {c0 c1 c2 c3 c4 c6 c7 c11 c12 c13 c14 c15 c16 c17 c18 c19 c20 c21 c22 c23 c24 c25 c26 c27 c28 c29 c30 c31 c32 c33 c34 c35 c36 c37 c38 c39 c40 c41 c42 c43 c44 c45 c46 c47 c48 c49 c50 c51 c52 c53 c54 c55 c56 c57 c58 c59 c60 c61 c62 c63 c64 c65 c66 c67 c68 c69 c70 c71 c72 c73 c74 c75 c76 c77 c78 c79 c80 c81 c82 c83 c84 c85 c86 c87 c88 c89 c90 c91 c92 c93 c94 c95 c96 c97 c98 c99 c100 c101 c102 c103 c104 c105 c106 c107 c108 c109 c110 c111 c112 c113 c114 c115 c116 c117 c118 c119 c120 c121 c122 c123 c124 c125 c126 c127 c128 c129 c130 c131 c132 c133 c134 c135 c136 c137 c138 c139 c140 c141 c142 c143 c144 c145 c146 c147 c148 c149 c150 c151 c152 c153 c154 c155 c156 c157 c158 c159 c160 c161 c162 c163 c164 c165 c166 c167 c168 c169 c170 c171 c172 c173 c174 c175 c176 c177 c178 c179 c180 c181 c182 c183 c184 c185 c186 c187 c188 c189 c190 c191 c192 c193 c194 c195 c196 c197 c198 c199 c200 c201 c202 c203 c204 c205 c206 c207 c208 c209 c210 c211 c212 c213 c214 c215 c216 c217 c218 c219 c220 c221 c222 c223 c224 c225 c226 c227 c228 c229 c230 c231 c232 c233 c234 c235 c236 c237 c238 c239 c240 c241 c242 c243 c244 c245 c246 c247 c248 c249 c250 c251 c252 c253 c254 c255 c256 c257 c258 c259 c260 c261 c262 c263 c264 c265 c266 c267 c268 c269 c270 c271 c272 c273 c274 c275 c276 c277 c278 c279 c280 c281 c282 c283 c284 c285 c286 c287 c288 c289 c290 c291 c292 c293 c294 c295 c296 c297 c298 c299 c300 c301 c302 c303 c304 c305 c306 c307 c308 c309 c310 c311 c312 c313 c314 c315 c316 c317 c318 c319 c320 c321 c322 c323 c324 c325 c326 c327 c328 c329 : Value} {mB wB ml mc at0 : Nat} {bl : Bs} {ws nw : List UInt32} {w : World} {Post : Act → World → Prop} (hb : bl.length = 64) (hw : ws.length = 64) (hn : nw.length = 64) (hnw : nw.take 16 = words bl) (hml : at0 + 64 ≤ ml) (hmx : ml ≤ 4294967296) (hne : mB ≠ wB) (km : ∀ k (hk : k < bl.length), w.cell? ⟨mB, at0 + k, none⟩ = some (.int .u8 (bl[k].toNat : Int))) (hmw : mB < w.heap.size) (kw : WBlk w wB ws)
    (hexit : ∀ d11 d61 d62 d63 d64 d65 d66 d67 d68 d69 d70 d71 d72 d73 d74 d75 d76 d77 d78 d79 d80 d81 d82 d83 d84 d85 d86 d87 d88 d89 d90 d91 d92 d93 d94 d95 d96 d97 d98 d99 d100 w', WBlk w' wB (nw.take 16 ++ ws.drop 16) → Fr1 wB w w' → Post ⟨(List.toArray (c0 :: c1 :: c2 :: c3 :: c4 :: (.slice (some ⟨mB, 0, none⟩) ml mc) :: c6 :: c7 :: (.slice (some ⟨wB, 0, none⟩) 64 64) :: (.int .i64 (at0 : Int)) :: (.int .i64 16) :: d11 :: c12 :: c13 :: c14 :: c15 :: c16 :: c17 :: c18 :: c19 :: c20 :: c21 :: c22 :: c23 :: c24 :: c25 :: c26 :: c27 :: c28 :: c29 :: c30 :: c31 :: c32 :: c33 :: c34 :: c35 :: c36 :: c37 :: c38 :: c39 :: c40 :: c41 :: c42 :: c43 :: c44 :: c45 :: c46 :: c47 :: c48 :: c49 :: c50 :: c51 :: c52 :: c53 :: c54 :: c55 :: c56 :: c57 :: c58 :: c59 :: c60 :: d61 :: d62 :: d63 :: d64 :: d65 :: d66 :: d67 :: d68 :: d69 :: d70 :: d71 :: d72 :: d73 :: d74 :: d75 :: d76 :: d77 :: d78 :: d79 :: d80 :: d81 :: d82 :: d83 :: d84 :: d85 :: d86 :: d87 :: d88 :: d89 :: d90 :: d91 :: d92 :: d93 :: d94 :: d95 :: d96 :: d97 :: d98 :: d99 :: d100 :: c101 :: c102 :: c103 :: c104 :: c105 :: c106 :: c107 :: c108 :: c109 :: c110 :: c111 :: c112 :: c113 :: c114 :: c115 :: c116 :: c117 :: c118 :: c119 :: c120 :: c121 :: c122 :: c123 :: c124 :: c125 :: c126 :: c127 :: c128 :: c129 :: c130 :: c131 :: c132 :: c133 :: c134 :: c135 :: c136 :: c137 :: c138 :: c139 :: c140 :: c141 :: c142 :: c143 :: c144 :: c145 :: c146 :: c147 :: c148 :: c149 :: c150 :: c151 :: c152 :: c153 :: c154 :: c155 :: c156 :: c157 :: c158 :: c159 :: c160 :: c161 :: c162 :: c163 :: c164 :: c165 :: c166 :: c167 :: c168 :: c169 :: c170 :: c171 :: c172 :: c173 :: c174 :: c175 :: c176 :: c177 :: c178 :: c179 :: c180 :: c181 :: c182 :: c183 :: c184 :: c185 :: c186 :: c187 :: c188 :: c189 :: c190 :: c191 :: c192 :: c193 :: c194 :: c195 :: c196 :: c197 :: c198 :: c199 :: c200 :: c201 :: c202 :: c203 :: c204 :: c205 :: c206 :: c207 :: c208 :: c209 :: c210 :: c211 :: c212 :: c213 :: c214 :: c215 :: c216 :: c217 :: c218 :: c219 :: c220 :: c221 :: c222 :: c223 :: c224 :: c225 :: c226 :: c227 :: c228 :: c229 :: c230 :: c231 :: c232 :: c233 :: c234 :: c235 :: c236 :: c237 :: c238 :: c239 :: c240 :: c241 :: c242 :: c243 :: c244 :: c245 :: c246 :: c247 :: c248 :: c249 :: c250 :: c251 :: c252 :: c253 :: c254 :: c255 :: c256 :: c257 :: c258 :: c259 :: c260 :: c261 :: c262 :: c263 :: c264 :: c265 :: c266 :: c267 :: c268 :: c269 :: c270 :: c271 :: c272 :: c273 :: c274 :: c275 :: c276 :: c277 :: c278 :: c279 :: c280 :: c281 :: c282 :: c283 :: c284 :: c285 :: c286 :: c287 :: c288 :: c289 :: c290 :: c291 :: c292 :: c293 :: c294 :: c295 :: c296 :: c297 :: c298 :: c299 :: c300 :: c301 :: c302 :: c303 :: c304 :: c305 :: c306 :: c307 :: c308 :: c309 :: c310 :: c311 :: c312 :: c313 :: c314 :: c315 :: c316 :: c317 :: c318 :: c319 :: c320 :: c321 :: c322 :: c323 :: c324 :: c325 :: c326 :: c327 :: c328 :: c329 :: [])), []⟩ w') :
    Code.wp Tryz.prog (Code.loop body4) (OnExit 6 Post) ⟨(List.toArray (c0 :: c1 :: c2 :: c3 :: c4 :: (.slice (some ⟨mB, 0, none⟩) ml mc) :: c6 :: c7 :: (.slice (some ⟨wB, 0, none⟩) 64 64) :: (.int .i64 (at0 : Int)) :: (.int .i64 0) :: c11 :: c12 :: c13 :: c14 :: c15 :: c16 :: c17 :: c18 :: c19 :: c20 :: c21 :: c22 :: c23 :: c24 :: c25 :: c26 :: c27 :: c28 :: c29 :: c30 :: c31 :: c32 :: c33 :: c34 :: c35 :: c36 :: c37 :: c38 :: c39 :: c40 :: c41 :: c42 :: c43 :: c44 :: c45 :: c46 :: c47 :: c48 :: c49 :: c50 :: c51 :: c52 :: c53 :: c54 :: c55 :: c56 :: c57 :: c58 :: c59 :: c60 :: c61 :: c62 :: c63 :: c64 :: c65 :: c66 :: c67 :: c68 :: c69 :: c70 :: c71 :: c72 :: c73 :: c74 :: c75 :: c76 :: c77 :: c78 :: c79 :: c80 :: c81 :: c82 :: c83 :: c84 :: c85 :: c86 :: c87 :: c88 :: c89 :: c90 :: c91 :: c92 :: c93 :: c94 :: c95 :: c96 :: c97 :: c98 :: c99 :: c100 :: c101 :: c102 :: c103 :: c104 :: c105 :: c106 :: c107 :: c108 :: c109 :: c110 :: c111 :: c112 :: c113 :: c114 :: c115 :: c116 :: c117 :: c118 :: c119 :: c120 :: c121 :: c122 :: c123 :: c124 :: c125 :: c126 :: c127 :: c128 :: c129 :: c130 :: c131 :: c132 :: c133 :: c134 :: c135 :: c136 :: c137 :: c138 :: c139 :: c140 :: c141 :: c142 :: c143 :: c144 :: c145 :: c146 :: c147 :: c148 :: c149 :: c150 :: c151 :: c152 :: c153 :: c154 :: c155 :: c156 :: c157 :: c158 :: c159 :: c160 :: c161 :: c162 :: c163 :: c164 :: c165 :: c166 :: c167 :: c168 :: c169 :: c170 :: c171 :: c172 :: c173 :: c174 :: c175 :: c176 :: c177 :: c178 :: c179 :: c180 :: c181 :: c182 :: c183 :: c184 :: c185 :: c186 :: c187 :: c188 :: c189 :: c190 :: c191 :: c192 :: c193 :: c194 :: c195 :: c196 :: c197 :: c198 :: c199 :: c200 :: c201 :: c202 :: c203 :: c204 :: c205 :: c206 :: c207 :: c208 :: c209 :: c210 :: c211 :: c212 :: c213 :: c214 :: c215 :: c216 :: c217 :: c218 :: c219 :: c220 :: c221 :: c222 :: c223 :: c224 :: c225 :: c226 :: c227 :: c228 :: c229 :: c230 :: c231 :: c232 :: c233 :: c234 :: c235 :: c236 :: c237 :: c238 :: c239 :: c240 :: c241 :: c242 :: c243 :: c244 :: c245 :: c246 :: c247 :: c248 :: c249 :: c250 :: c251 :: c252 :: c253 :: c254 :: c255 :: c256 :: c257 :: c258 :: c259 :: c260 :: c261 :: c262 :: c263 :: c264 :: c265 :: c266 :: c267 :: c268 :: c269 :: c270 :: c271 :: c272 :: c273 :: c274 :: c275 :: c276 :: c277 :: c278 :: c279 :: c280 :: c281 :: c282 :: c283 :: c284 :: c285 :: c286 :: c287 :: c288 :: c289 :: c290 :: c291 :: c292 :: c293 :: c294 :: c295 :: c296 :: c297 :: c298 :: c299 :: c300 :: c301 :: c302 :: c303 :: c304 :: c305 :: c306 :: c307 :: c308 :: c309 :: c310 :: c311 :: c312 :: c313 :: c314 :: c315 :: c316 :: c317 :: c318 :: c319 :: c320 :: c321 :: c322 :: c323 :: c324 :: c325 :: c326 :: c327 :: c328 :: c329 :: [])), []⟩ w := by
  have HX := hide hexit
  have HNW := hide hnw
  have HMC := hide km
  clear hexit hnw km
  conv => arg 2; arg 1; whnf
  go_loopw [10, 11] (fun v10 _ wr => ∃ i : Nat, i ≤ 16 ∧ v10 = .int .i64 (i : Int) ∧ WBlk wr wB (nw.take i ++ ws.drop i) ∧ Fr1 wB w wr) (fun v10 _ _ => 16 - (intOf v10).toNat)
  case atStart => exact ⟨0, by omega, rfl, by simpa using kw, Fr1.refl _ _⟩
  case round =>
    rename World => wr
    obtain ⟨i, hi, rfl, kr, hf⟩ := hrel
    by_cases hlt : i < 16
    · have hcell : ∀ k (hk : k < bl.length), wr.cell? ⟨mB, at0 + k, none⟩ = some (.int .u8 (bl[k].toNat : Int)) := fun k hk => (World.cell?_of_block (hf.block mB hmw hne)).trans (unhide HMC k hk)
      obtain ⟨p, hp⟩ : ∃ p, at0 + 4 * i = p := ⟨_, rfl⟩
      obtain ⟨q, hq⟩ : ∃ q, 4 * i = q := ⟨_, rfl⟩
      have q0 : 4 * (i : Int) = (q : Int) := by omega
      have q1 : (at0 : Int) + (q : Int) = (p : Int) := by omega
      obtain ⟨a, ha⟩ : ∃ a, bl[4 * i]'(by omega) = a := ⟨_, rfl⟩
      obtain ⟨b, hbb⟩ : ∃ b, bl[4 * i + 1]'(by omega) = b := ⟨_, rfl⟩
      obtain ⟨c, hc⟩ : ∃ c, bl[4 * i + 2]'(by omega) = c := ⟨_, rfl⟩
      obtain ⟨dd, hd⟩ : ∃ dd, bl[4 * i + 3]'(by omega) = dd := ⟨_, rfl⟩
      have k0 : wr.cell? ⟨mB, p, none⟩ = some (.int .u8 (a.toNat : Int)) := by rw [← hp, hcell _ (by omega), ha]
      have k1 : wr.cell? ⟨mB, p + 1, none⟩ = some (.int .u8 (b.toNat : Int)) := by rw [← hp, Nat.add_assoc, hcell _ (by omega), hbb]
      have k2 : wr.cell? ⟨mB, p + 2, none⟩ = some (.int .u8 (c.toNat : Int)) := by rw [← hp, Nat.add_assoc, hcell _ (by omega), hc]
      have k3 : wr.cell? ⟨mB, p + 3, none⟩ = some (.int .u8 (dd.toNat : Int)) := by rw [← hp, Nat.add_assoc, hcell _ (by omega), hd]
      have kf := kr.free i
      obtain ⟨old, kold⟩ : ∃ old : UInt32, wr.cell? ⟨wB, i, none⟩ = some (.int .u32 (old.toNat : Int)) := ⟨_, kr.at (i := i) (by simp; omega)⟩
      obtain ⟨A, B, C, AB, ABC, e1, e2, e3, e4, e5, e6⟩ := be_spell a b c dd
      obtain ⟨x, hx⟩ : ∃ x, be32 a b c dd = x := ⟨_, rfl⟩
      rw [hx] at e6
      have hnx : nw[i]'(by omega) = x := by
        have h1 : (words bl)[i]? = some (be32 a b c dd) := by
          rw [words_at bl i (by omega), ha, hbb, hc, hd]
        rw [← unhide HNW, List.getElem?_take, if_pos hlt, List.getElem?_eq_getElem (by omega), hx] at h1
        exact Option.some.inj h1
      have HP : Hid (WBlk (wr.setCell ⟨wB, i, none⟩ (.int .u32 (x.toNat : Int))) wB (nw.take (i + 1) ++ ws.drop (i + 1))) := hide (by
        have := WBlk.put (w := wr) kr i x
        rw [← hnx, put_next (by omega) (by omega)] at this
        rw [← hnx]
        exact this)
      have HF := hide hf
      have p1 : p + 3 < ml := by omega
      have p2 : p ≤ 4294967296 := by omega
      have ba := u8_lt a
      have bb := u8_lt b
      have bc := u8_lt c
      have bd := u8_lt dd
      clear kr hf hx hnx hcell hp hq ha hbb hc hd hb hw hn
      go_wp2
      go_region
      go_wp2
      refine ⟨⟨i + 1, hlt, by push_cast; rfl, unhide HP, ((unhide HF).set i _).drew⟩, ?_⟩
      simp [intOf]
      omega
    · have hi8 : i = 16 := by omega
      subst hi8
      have HK := hide kr
      have HF := hide hf
      clear kr hf
      go_wp2
      refine ⟨rfl, unhide HX _ _ _ _ _ _ _ _ _ _ _ _ _ _ _ _ _ _ _ _ _ _ _ _ _ _ _ _ _ _ _ _ _ _ _ _ _ _ _ _ _ wr (unhide HK) (unhide HF)⟩
end Go.Proofs.YtkablmjkffdloaaGreatDoor

namespace Go.Proofs.YtkablmjkffdloaaGreatDoor
open Go.RowKit

noncomputable def body5 : Code := ((Tryz.f28.body.map loopsOf).getD []).getD 4 .skip

theorem turn7 (x : UInt32) (w : World) : Calls Tryz.prog 89 #[.int .u32 (x.toNat : Int), .int .i64 7] w fun e w' => e = .returned (.int .u32 ((rotr x 7).toNat : Int)) ∧ ∃ m, w' = w.drewN m := turn_any x (k := 7) (j := 25) (by decide) (by decide) (by decide) rfl rfl w
theorem turn18 (x : UInt32) (w : World) : Calls Tryz.prog 89 #[.int .u32 (x.toNat : Int), .int .i64 18] w fun e w' => e = .returned (.int .u32 ((rotr x 18).toNat : Int)) ∧ ∃ m, w' = w.drewN m := turn_any x (k := 18) (j := 14) (by decide) (by decide) (by decide) rfl rfl w
theorem turn17 (x : UInt32) (w : World) : Calls Tryz.prog 89 #[.int .u32 (x.toNat : Int), .int .i64 17] w fun e w' => e = .returned (.int .u32 ((rotr x 17).toNat : Int)) ∧ ∃ m, w' = w.drewN m := turn_any x (k := 17) (j := 15) (by decide) (by decide) (by decide) rfl rfl w
theorem turn19 (x : UInt32) (w : World) : Calls Tryz.prog 89 #[.int .u32 (x.toNat : Int), .int .i64 19] w fun e w' => e = .returned (.int .u32 ((rotr x 19).toNat : Int)) ∧ ∃ m, w' = w.drewN m := turn_any x (k := 19) (j := 13) (by decide) (by decide) (by decide) rfl rfl w

theorem WBlk.mid {w : World} {B : Nat} {l m : List UInt32} {i j : Nat} {x : UInt32} (h : WBlk w B (l.take i ++ m.drop i)) (hi : i ≤ l.length) (hj : j < i) (hx : l[j]? = some x) : w.cell? ⟨B, j, none⟩ = some (.int .u32 (x.toNat : Int)) := by
  have := h.at (i := j) (by simp; omega)
  rw [this]
  simp only [List.getElem_append, List.length_take]
  rw [dif_pos (by omega), List.getElem_take]
  rw [List.getElem?_eq_getElem (by omega)] at hx
  rw [Option.some.inj hx]

set_option maxRecDepth 1000000 in
set_option maxHeartbeats 4000000 in
theorem loop5 {c0 c1 c2 c3 c4 c5 c6 c7 c9 c10 c11 c13 c14 c15 c16 c17 c18 c19 c20 c21 c22 c23 c24 c25 c26 c27 c28 c29 c30 c31 c32 c33 c34 c35 c36 c37 c38 c39 c40 c41 c42 c43 c44 c45 c46 c47 c48 c49 c50 c51 c52 c53 c54 c55 c56 c57 c58 c59 c60 c61 c62 c63 c64 c65 c66 c67 c68 c69 c70 c71 c72 c73 c74 c75 c76 c77 c78 c79 c80 c81 c82 c83 c84 c85 c86 c87 c88 c89 c90 c91 c92 c93 c94 c95 c96 c97 c98 c99 c100 c101 c102 c103 c104 c105 c106 c107 c108 c109 c110 c111 c112 c113 c114 c115 c116 c117 c118 c119 c120 c121 c122 c123 c124 c125 c126 c127 c128 c129 c130 c131 c132 c133 c134 c135 c136 c137 c138 c139 c140 c141 c142 c143 c144 c145 c146 c147 c148 c149 c150 c151 c152 c153 c154 c155 c156 c157 c158 c159 c160 c161 c162 c163 c164 c165 c166 c167 c168 c169 c170 c171 c172 c173 c174 c175 c176 c177 c178 c179 c180 c181 c182 c183 c184 c185 c186 c187 c188 c189 c190 c191 c192 c193 c194 c195 c196 c197 c198 c199 c200 c201 c202 c203 c204 c205 c206 c207 c208 c209 c210 c211 c212 c213 c214 c215 c216 c217 c218 c219 c220 c221 c222 c223 c224 c225 c226 c227 c228 c229 c230 c231 c232 c233 c234 c235 c236 c237 c238 c239 c240 c241 c242 c243 c244 c245 c246 c247 c248 c249 c250 c251 c252 c253 c254 c255 c256 c257 c258 c259 c260 c261 c262 c263 c264 c265 c266 c267 c268 c269 c270 c271 c272 c273 c274 c275 c276 c277 c278 c279 c280 c281 c282 c283 c284 c285 c286 c287 c288 c289 c290 c291 c292 c293 c294 c295 c296 c297 c298 c299 c300 c301 c302 c303 c304 c305 c306 c307 c308 c309 c310 c311 c312 c313 c314 c315 c316 c317 c318 c319 c320 c321 c322 c323 c324 c325 c326 c327 c328 c329 : Value} {wB : Nat} {ws nw : List UInt32} {w : World} {Post : Act → World → Prop} (hw : ws.length = 64) (hn : nw.length = 64) (hstep : ∀ j (h : j + 16 < nw.length), nw[j + 16] = ((nw[j] + sg0 nw[j + 1]) + nw[j + 9]) + sg1 nw[j + 14]) (kw : WBlk w wB (nw.take 16 ++ ws.drop 16))
    (hexit : ∀ d13 d14 d101 d102 d103 d104 d105 d106 d107 d108 d109 d110 d111 d112 d113 d114 d115 d116 d117 d118 d119 d120 d121 d122 d123 d124 d125 d126 d127 d128 d129 d130 d131 d132 d133 d134 d135 d136 d137 d138 d139 d140 d141 d142 d143 d144 d145 d146 d147 d148 d149 d150 d151 d152 d153 d154 d155 d156 d157 d158 d159 d160 d161 d162 w', WBlk w' wB nw → Fr1 wB w w' → Post ⟨(List.toArray (c0 :: c1 :: c2 :: c3 :: c4 :: c5 :: c6 :: c7 :: (.slice (some ⟨wB, 0, none⟩) 64 64) :: c9 :: c10 :: c11 :: (.int .i64 64) :: d13 :: d14 :: c15 :: c16 :: c17 :: c18 :: c19 :: c20 :: c21 :: c22 :: c23 :: c24 :: c25 :: c26 :: c27 :: c28 :: c29 :: c30 :: c31 :: c32 :: c33 :: c34 :: c35 :: c36 :: c37 :: c38 :: c39 :: c40 :: c41 :: c42 :: c43 :: c44 :: c45 :: c46 :: c47 :: c48 :: c49 :: c50 :: c51 :: c52 :: c53 :: c54 :: c55 :: c56 :: c57 :: c58 :: c59 :: c60 :: c61 :: c62 :: c63 :: c64 :: c65 :: c66 :: c67 :: c68 :: c69 :: c70 :: c71 :: c72 :: c73 :: c74 :: c75 :: c76 :: c77 :: c78 :: c79 :: c80 :: c81 :: c82 :: c83 :: c84 :: c85 :: c86 :: c87 :: c88 :: c89 :: c90 :: c91 :: c92 :: c93 :: c94 :: c95 :: c96 :: c97 :: c98 :: c99 :: c100 :: d101 :: d102 :: d103 :: d104 :: d105 :: d106 :: d107 :: d108 :: d109 :: d110 :: d111 :: d112 :: d113 :: d114 :: d115 :: d116 :: d117 :: d118 :: d119 :: d120 :: d121 :: d122 :: d123 :: d124 :: d125 :: d126 :: d127 :: d128 :: d129 :: d130 :: d131 :: d132 :: d133 :: d134 :: d135 :: d136 :: d137 :: d138 :: d139 :: d140 :: d141 :: d142 :: d143 :: d144 :: d145 :: d146 :: d147 :: d148 :: d149 :: d150 :: d151 :: d152 :: d153 :: d154 :: d155 :: d156 :: d157 :: d158 :: d159 :: d160 :: d161 :: d162 :: c163 :: c164 :: c165 :: c166 :: c167 :: c168 :: c169 :: c170 :: c171 :: c172 :: c173 :: c174 :: c175 :: c176 :: c177 :: c178 :: c179 :: c180 :: c181 :: c182 :: c183 :: c184 :: c185 :: c186 :: c187 :: c188 :: c189 :: c190 :: c191 :: c192 :: c193 :: c194 :: c195 :: c196 :: c197 :: c198 :: c199 :: c200 :: c201 :: c202 :: c203 :: c204 :: c205 :: c206 :: c207 :: c208 :: c209 :: c210 :: c211 :: c212 :: c213 :: c214 :: c215 :: c216 :: c217 :: c218 :: c219 :: c220 :: c221 :: c222 :: c223 :: c224 :: c225 :: c226 :: c227 :: c228 :: c229 :: c230 :: c231 :: c232 :: c233 :: c234 :: c235 :: c236 :: c237 :: c238 :: c239 :: c240 :: c241 :: c242 :: c243 :: c244 :: c245 :: c246 :: c247 :: c248 :: c249 :: c250 :: c251 :: c252 :: c253 :: c254 :: c255 :: c256 :: c257 :: c258 :: c259 :: c260 :: c261 :: c262 :: c263 :: c264 :: c265 :: c266 :: c267 :: c268 :: c269 :: c270 :: c271 :: c272 :: c273 :: c274 :: c275 :: c276 :: c277 :: c278 :: c279 :: c280 :: c281 :: c282 :: c283 :: c284 :: c285 :: c286 :: c287 :: c288 :: c289 :: c290 :: c291 :: c292 :: c293 :: c294 :: c295 :: c296 :: c297 :: c298 :: c299 :: c300 :: c301 :: c302 :: c303 :: c304 :: c305 :: c306 :: c307 :: c308 :: c309 :: c310 :: c311 :: c312 :: c313 :: c314 :: c315 :: c316 :: c317 :: c318 :: c319 :: c320 :: c321 :: c322 :: c323 :: c324 :: c325 :: c326 :: c327 :: c328 :: c329 :: [])), []⟩ w') :
    Code.wp Tryz.prog (Code.loop body5) (OnExit 8 Post) ⟨(List.toArray (c0 :: c1 :: c2 :: c3 :: c4 :: c5 :: c6 :: c7 :: (.slice (some ⟨wB, 0, none⟩) 64 64) :: c9 :: c10 :: c11 :: (.int .i64 16) :: c13 :: c14 :: c15 :: c16 :: c17 :: c18 :: c19 :: c20 :: c21 :: c22 :: c23 :: c24 :: c25 :: c26 :: c27 :: c28 :: c29 :: c30 :: c31 :: c32 :: c33 :: c34 :: c35 :: c36 :: c37 :: c38 :: c39 :: c40 :: c41 :: c42 :: c43 :: c44 :: c45 :: c46 :: c47 :: c48 :: c49 :: c50 :: c51 :: c52 :: c53 :: c54 :: c55 :: c56 :: c57 :: c58 :: c59 :: c60 :: c61 :: c62 :: c63 :: c64 :: c65 :: c66 :: c67 :: c68 :: c69 :: c70 :: c71 :: c72 :: c73 :: c74 :: c75 :: c76 :: c77 :: c78 :: c79 :: c80 :: c81 :: c82 :: c83 :: c84 :: c85 :: c86 :: c87 :: c88 :: c89 :: c90 :: c91 :: c92 :: c93 :: c94 :: c95 :: c96 :: c97 :: c98 :: c99 :: c100 :: c101 :: c102 :: c103 :: c104 :: c105 :: c106 :: c107 :: c108 :: c109 :: c110 :: c111 :: c112 :: c113 :: c114 :: c115 :: c116 :: c117 :: c118 :: c119 :: c120 :: c121 :: c122 :: c123 :: c124 :: c125 :: c126 :: c127 :: c128 :: c129 :: c130 :: c131 :: c132 :: c133 :: c134 :: c135 :: c136 :: c137 :: c138 :: c139 :: c140 :: c141 :: c142 :: c143 :: c144 :: c145 :: c146 :: c147 :: c148 :: c149 :: c150 :: c151 :: c152 :: c153 :: c154 :: c155 :: c156 :: c157 :: c158 :: c159 :: c160 :: c161 :: c162 :: c163 :: c164 :: c165 :: c166 :: c167 :: c168 :: c169 :: c170 :: c171 :: c172 :: c173 :: c174 :: c175 :: c176 :: c177 :: c178 :: c179 :: c180 :: c181 :: c182 :: c183 :: c184 :: c185 :: c186 :: c187 :: c188 :: c189 :: c190 :: c191 :: c192 :: c193 :: c194 :: c195 :: c196 :: c197 :: c198 :: c199 :: c200 :: c201 :: c202 :: c203 :: c204 :: c205 :: c206 :: c207 :: c208 :: c209 :: c210 :: c211 :: c212 :: c213 :: c214 :: c215 :: c216 :: c217 :: c218 :: c219 :: c220 :: c221 :: c222 :: c223 :: c224 :: c225 :: c226 :: c227 :: c228 :: c229 :: c230 :: c231 :: c232 :: c233 :: c234 :: c235 :: c236 :: c237 :: c238 :: c239 :: c240 :: c241 :: c242 :: c243 :: c244 :: c245 :: c246 :: c247 :: c248 :: c249 :: c250 :: c251 :: c252 :: c253 :: c254 :: c255 :: c256 :: c257 :: c258 :: c259 :: c260 :: c261 :: c262 :: c263 :: c264 :: c265 :: c266 :: c267 :: c268 :: c269 :: c270 :: c271 :: c272 :: c273 :: c274 :: c275 :: c276 :: c277 :: c278 :: c279 :: c280 :: c281 :: c282 :: c283 :: c284 :: c285 :: c286 :: c287 :: c288 :: c289 :: c290 :: c291 :: c292 :: c293 :: c294 :: c295 :: c296 :: c297 :: c298 :: c299 :: c300 :: c301 :: c302 :: c303 :: c304 :: c305 :: c306 :: c307 :: c308 :: c309 :: c310 :: c311 :: c312 :: c313 :: c314 :: c315 :: c316 :: c317 :: c318 :: c319 :: c320 :: c321 :: c322 :: c323 :: c324 :: c325 :: c326 :: c327 :: c328 :: c329 :: [])), []⟩ w := by
  have HX := hide hexit
  have HS := hide hstep
  clear hexit hstep
  conv => arg 2; arg 1; whnf
  go_loopw [12, 13, 14] (fun v12 _ _ wr => ∃ i : Nat, i + 16 ≤ 64 ∧ v12 = .int .i64 ((i + 16 : Nat) : Int) ∧ WBlk wr wB (nw.take (i + 16) ++ ws.drop (i + 16)) ∧ Fr1 wB w wr) (fun v12 _ _ _ => 64 - (intOf v12).toNat)
  case atStart => exact ⟨0, by omega, rfl, kw, Fr1.refl _ _⟩
  case round =>
    rename World => wr
    clear kw
    obtain ⟨i, hi, rfl, kr, hf⟩ := hrel
    by_cases hlt : i + 16 < 64
    · obtain ⟨n, hn16⟩ : ∃ n, i + 16 = n := ⟨_, rfl⟩
      obtain ⟨x0, hx0⟩ : ∃ x, nw[i]'(by omega) = x := ⟨_, rfl⟩
      obtain ⟨x1, hx1⟩ : ∃ x, nw[i + 1]'(by omega) = x := ⟨_, rfl⟩
      obtain ⟨x9, hx9⟩ : ∃ x, nw[i + 9]'(by omega) = x := ⟨_, rfl⟩
      obtain ⟨x14, hx14⟩ : ∃ x, nw[i + 14]'(by omega) = x := ⟨_, rfl⟩
      obtain ⟨j1, hj1⟩ : ∃ j, i + 1 = j := ⟨_, rfl⟩
      obtain ⟨j9, hj9⟩ : ∃ j, i + 9 = j := ⟨_, rfl⟩
      obtain ⟨j14, hj14⟩ : ∃ j, i + 14 = j := ⟨_, rfl⟩
      have hst := unhide HS i (by omega)
      rw [hx0, hx1, hx9, hx14] at hst
      have k0 := kr.mid (j := i) (x := x0) (by omega) (by omega) (by rw [List.getElem?_eq_getElem (by omega), hx0])
      have k1 := kr.mid (j := j1) (x := x1) (by omega) (by omega) (by rw [← hj1, List.getElem?_eq_getElem (by omega), hx1])
      have k9 := kr.mid (j := j9) (x := x9) (by omega) (by omega) (by rw [← hj9, List.getElem?_eq_getElem (by omega), hx9])
      have k14 := kr.mid (j := j14) (x := x14) (by omega) (by omega) (by rw [← hj14, List.getElem?_eq_getElem (by omega), hx14])
      have kf := kr.free n
      obtain ⟨old, kold⟩ : ∃ old : UInt32, wr.cell? ⟨wB, n, none⟩ = some (.int .u32 (old.toNat : Int)) := ⟨_, kr.at (i := n) (by simp; omega)⟩
      rw [hn16]
      have i15 : (n : Int) - 15 = (j1 : Int) := by omega
      have i2 : (n : Int) - 2 = (j14 : Int) := by omega
      have i16 : (n : Int) - 16 = (i : Int) := by omega
      have i7 : (n : Int) - 7 = (j9 : Int) := by omega
      obtain ⟨s0, hs0⟩ : ∃ s, sg0 x1 = s := ⟨_, rfl⟩
      obtain ⟨s1, hs1⟩ : ∃ s, sg1 x14 = s := ⟨_, rfl⟩
      have e0 := sg0_eq x1
      have e1 := sg1_eq x14
      rw [hs0] at e0 hst
      rw [hs1] at e1 hst
      obtain ⟨z, hz⟩ : ∃ z, ((x0 + s0) + x9) + s1 = z := ⟨_, rfl⟩
      have e2 := madd4 x0 s0 x9 s1
      rw [hz] at e2 hst
      have HP : Hid (WBlk (wr.setCell ⟨wB, n, none⟩ (.int .u32 (z.toNat : Int))) wB (nw.take (i + 1 + 16) ++ ws.drop (i + 1 + 16))) := hide (by
        have := WBlk.put (w := wr) kr (i + 16) z
        rw [← hst, put_next (by omega) (by omega)] at this
        rw [← hn16, ← hst, show i + 1 + 16 = i + 16 + 1 by omega]
        exact this)
      have HF := hide hf
      have b0 := u32_lt x0
      have b1 := u32_lt x1
      have b9 := u32_lt x9
      have b14 := u32_lt x14
      have bs0 := u32_lt s0
      have bs1 := u32_lt s1
      have hn64 : n < 64 := by omega
      have hj1b : j1 < 64 := by omega
      have hj9b : j9 < 64 := by omega
      have hj14b : j14 < 64 := by omega
      have hib : i < 64 := by omega
      have HN : Hid (i + 16 = n) := hide hn16
      have ij1 : (j1 : Int) < 64 := by omega
      have ij9 : (j9 : Int) < 64 := by omega
      have ij14 : (j14 : Int) < 64 := by omega
      have ii : (i : Int) < 64 := by omega
      have iin : (n : Int) < 64 := by omega
      have wj1 := wrapI j1 (by omega)
      have wj9 := wrapI j9 (by omega)
      have wj14 : IntKind.i64.wrap (j14 : Int) = (j14 : Int) := wrapI j14 (by omega)
      have wi := wrapI i (by omega)
      clear kr hf hz hst hs0 hs1 hx0 hx1 hx9 hx14 hj1 hj9 hj14 hn16 hlt hi hw HS hn
      go_wp2
      go_quiet ((first | (go_at_call_of 89 (Value.int IntKind.i64 7); exact Calls.quiet_of (turn7 x1 _)) | (go_at_call_of 89 (Value.int IntKind.i64 18); exact Calls.quiet_of (turn18 x1 _))))
      obtain ⟨wa, hw_wa⟩ : ∃ W, wr.drewN nq = W := ⟨_, rfl⟩
      rw [hw_wa]
      replace k0 : wa.cell? ⟨wB, i, none⟩ = some (.int .u32 (x0.toNat : Int)) := by rw [← hw_wa]; exact k0
      replace k9 : wa.cell? ⟨wB, j9, none⟩ = some (.int .u32 (x9.toNat : Int)) := by rw [← hw_wa]; exact k9
      replace k14 : wa.cell? ⟨wB, j14, none⟩ = some (.int .u32 (x14.toNat : Int)) := by rw [← hw_wa]; exact k14
      replace kold : wa.cell? ⟨wB, n, none⟩ = some (.int .u32 (old.toNat : Int)) := by rw [← hw_wa]; exact kold
      replace kf : wa.frozen? ⟨wB, n, none⟩ = false := by rw [← hw_wa]; exact kf
      replace HP : Hid (WBlk (wa.setCell ⟨wB, n, none⟩ (.int .u32 (z.toNat : Int))) wB (nw.take (i + 1 + 16) ++ ws.drop (i + 1 + 16))) := hide (by rw [← hw_wa]; exact unhide HP)
      replace HF : Hid (Fr1 wB w wa) := hide (by rw [← hw_wa]; exact (unhide HF).drewN _)
      clear hw_wa
      clear k1
      go_wp2
      go_quiet ((first | (go_at_call_of 89 (Value.int IntKind.i64 17); exact Calls.quiet_of (turn17 x14 _)) | (go_at_call_of 89 (Value.int IntKind.i64 19); exact Calls.quiet_of (turn19 x14 _))))
      obtain ⟨wb, hw_wb⟩ : ∃ W, wa.drewN nq = W := ⟨_, rfl⟩
      rw [hw_wb]
      replace k0 : wb.cell? ⟨wB, i, none⟩ = some (.int .u32 (x0.toNat : Int)) := by rw [← hw_wb]; exact k0
      replace k9 : wb.cell? ⟨wB, j9, none⟩ = some (.int .u32 (x9.toNat : Int)) := by rw [← hw_wb]; exact k9
      replace k14 : wb.cell? ⟨wB, j14, none⟩ = some (.int .u32 (x14.toNat : Int)) := by rw [← hw_wb]; exact k14
      replace kold : wb.cell? ⟨wB, n, none⟩ = some (.int .u32 (old.toNat : Int)) := by rw [← hw_wb]; exact kold
      replace kf : wb.frozen? ⟨wB, n, none⟩ = false := by rw [← hw_wb]; exact kf
      replace HP : Hid (WBlk (wb.setCell ⟨wB, n, none⟩ (.int .u32 (z.toNat : Int))) wB (nw.take (i + 1 + 16) ++ ws.drop (i + 1 + 16))) := hide (by rw [← hw_wb]; exact unhide HP)
      replace HF : Hid (Fr1 wB w wb) := hide (by rw [← hw_wb]; exact (unhide HF).drewN _)
      clear hw_wb
      go_wp2
      go_region
      go_wp2
      have hN := unhide HN
      refine ⟨⟨i + 1, by omega, by rw [← hN]; push_cast; congr 1, unhide HP, ((unhide HF).set n _).drew⟩, ?_⟩
      simp [intOf]
      omega
    · have hi8 : i = 48 := by omega
      subst hi8
      have HK := hide kr
      have HF := hide hf
      clear kr hf
      go_wp2
      refine ⟨rfl, unhide HX _ _ _ _ _ _ _ _ _ _ _ _ _ _ _ _ _ _ _ _ _ _ _ _ _ _ _ _ _ _ _ _ _ _ _ _ _ _ _ _ _ _ _ _ _ _ _ _ _ _ _ _ _ _ _ _ _ _ _ _ _ _ _ _ wr ?_ (unhide HF)⟩
      have := unhide HK
      rw [List.take_of_length_le (by omega), List.drop_of_length_le (by omega), List.append_nil] at this
      exact this
end Go.Proofs.YtkablmjkffdloaaGreatDoor

namespace Go.Proofs.YtkablmjkffdloaaGreatDoor
open Go.RowKit

noncomputable def body1 : Code := ((Tryz.f28.body.map loopsOf).getD []).getD 0 .skip

set_option maxRecDepth 1000000 in
set_option maxHeartbeats 2000000 in
theorem loop1 {c0 c1 c2 c3 c4 c6 c7 c8 c9 c10 c11 c12 c13 c14 c15 c16 c17 c18 c19 c20 c21 c22 c23 c24 c25 c26 c27 c28 c29 c30 c31 c32 c33 c34 c35 c36 c37 c38 c39 c40 c41 c42 c43 c44 c45 c46 c47 c48 c49 c50 c51 c52 c53 c54 c55 c56 c57 c58 c59 c60 c61 c62 c63 c64 c65 c66 c67 c68 c69 c70 c71 c72 c73 c74 c75 c76 c77 c78 c79 c80 c81 c82 c83 c84 c85 c86 c87 c88 c89 c90 c91 c92 c93 c94 c95 c96 c97 c98 c99 c100 c101 c102 c103 c104 c105 c106 c107 c108 c109 c110 c111 c112 c113 c114 c115 c116 c117 c118 c119 c120 c121 c122 c123 c124 c125 c126 c127 c128 c129 c130 c131 c132 c133 c134 c135 c136 c137 c138 c139 c140 c141 c142 c143 c144 c145 c146 c147 c148 c149 c150 c151 c152 c153 c154 c155 c156 c157 c158 c159 c160 c161 c162 c163 c164 c165 c166 c167 c168 c169 c170 c171 c172 c173 c174 c175 c176 c177 c178 c179 c180 c181 c182 c183 c184 c185 c186 c187 c188 c189 c190 c191 c192 c193 c194 c195 c196 c197 c198 c199 c200 c201 c202 c203 c204 c205 c206 c207 c208 c209 c210 c211 c212 c213 c214 c215 c216 c217 c218 c219 c220 c221 c222 c223 c224 c225 c226 c227 c228 c229 c230 c231 c232 c233 c234 c235 c236 c237 c238 c239 c240 c241 c242 c243 c244 c245 c246 c247 c248 c249 c250 c251 c252 c253 c254 c255 c256 c257 c258 c259 c260 c261 c262 c263 c264 c265 c266 c267 c268 c269 c270 c271 c272 c273 c274 c275 c276 c277 c278 c279 c280 c281 c282 c283 c284 c285 c286 c287 c288 c289 c290 c291 c292 c293 c294 c295 c296 c297 c298 c299 c300 c301 c302 c303 c304 c305 c306 c307 c308 c309 c310 c311 c312 c313 c314 c315 c316 c317 c318 c319 c320 c321 c322 c323 c324 c325 c326 c327 c328 c329 : Value} {v0 : Value} {base z : Nat} {l : Bs} {w : World} {Post : Act → World → Prop} (hz : z < 64) (hl : l.length ≤ 1073741824) (hz1 : ∀ j, j < z → (l.length + j) % 64 ≠ 56) (hz2 : (l.length + z) % 64 = 56) (hb0 : base ≤ w.heap.size) (ho0 : OwnB base w v0 l)
    (hexit : ∀ vo d31 d32 d33 d34 d35 d36 d37 w', OwnB base w' vo (l ++ List.replicate z 0) → Below base w w' → Post ⟨(List.toArray (c0 :: c1 :: c2 :: c3 :: c4 :: vo :: c6 :: c7 :: c8 :: c9 :: c10 :: c11 :: c12 :: c13 :: c14 :: c15 :: c16 :: c17 :: c18 :: c19 :: c20 :: c21 :: c22 :: c23 :: c24 :: c25 :: c26 :: c27 :: c28 :: c29 :: c30 :: d31 :: d32 :: d33 :: d34 :: d35 :: d36 :: d37 :: c38 :: c39 :: c40 :: c41 :: c42 :: c43 :: c44 :: c45 :: c46 :: c47 :: c48 :: c49 :: c50 :: c51 :: c52 :: c53 :: c54 :: c55 :: c56 :: c57 :: c58 :: c59 :: c60 :: c61 :: c62 :: c63 :: c64 :: c65 :: c66 :: c67 :: c68 :: c69 :: c70 :: c71 :: c72 :: c73 :: c74 :: c75 :: c76 :: c77 :: c78 :: c79 :: c80 :: c81 :: c82 :: c83 :: c84 :: c85 :: c86 :: c87 :: c88 :: c89 :: c90 :: c91 :: c92 :: c93 :: c94 :: c95 :: c96 :: c97 :: c98 :: c99 :: c100 :: c101 :: c102 :: c103 :: c104 :: c105 :: c106 :: c107 :: c108 :: c109 :: c110 :: c111 :: c112 :: c113 :: c114 :: c115 :: c116 :: c117 :: c118 :: c119 :: c120 :: c121 :: c122 :: c123 :: c124 :: c125 :: c126 :: c127 :: c128 :: c129 :: c130 :: c131 :: c132 :: c133 :: c134 :: c135 :: c136 :: c137 :: c138 :: c139 :: c140 :: c141 :: c142 :: c143 :: c144 :: c145 :: c146 :: c147 :: c148 :: c149 :: c150 :: c151 :: c152 :: c153 :: c154 :: c155 :: c156 :: c157 :: c158 :: c159 :: c160 :: c161 :: c162 :: c163 :: c164 :: c165 :: c166 :: c167 :: c168 :: c169 :: c170 :: c171 :: c172 :: c173 :: c174 :: c175 :: c176 :: c177 :: c178 :: c179 :: c180 :: c181 :: c182 :: c183 :: c184 :: c185 :: c186 :: c187 :: c188 :: c189 :: c190 :: c191 :: c192 :: c193 :: c194 :: c195 :: c196 :: c197 :: c198 :: c199 :: c200 :: c201 :: c202 :: c203 :: c204 :: c205 :: c206 :: c207 :: c208 :: c209 :: c210 :: c211 :: c212 :: c213 :: c214 :: c215 :: c216 :: c217 :: c218 :: c219 :: c220 :: c221 :: c222 :: c223 :: c224 :: c225 :: c226 :: c227 :: c228 :: c229 :: c230 :: c231 :: c232 :: c233 :: c234 :: c235 :: c236 :: c237 :: c238 :: c239 :: c240 :: c241 :: c242 :: c243 :: c244 :: c245 :: c246 :: c247 :: c248 :: c249 :: c250 :: c251 :: c252 :: c253 :: c254 :: c255 :: c256 :: c257 :: c258 :: c259 :: c260 :: c261 :: c262 :: c263 :: c264 :: c265 :: c266 :: c267 :: c268 :: c269 :: c270 :: c271 :: c272 :: c273 :: c274 :: c275 :: c276 :: c277 :: c278 :: c279 :: c280 :: c281 :: c282 :: c283 :: c284 :: c285 :: c286 :: c287 :: c288 :: c289 :: c290 :: c291 :: c292 :: c293 :: c294 :: c295 :: c296 :: c297 :: c298 :: c299 :: c300 :: c301 :: c302 :: c303 :: c304 :: c305 :: c306 :: c307 :: c308 :: c309 :: c310 :: c311 :: c312 :: c313 :: c314 :: c315 :: c316 :: c317 :: c318 :: c319 :: c320 :: c321 :: c322 :: c323 :: c324 :: c325 :: c326 :: c327 :: c328 :: c329 :: [])), []⟩ w') :
    Code.wp Tryz.prog (Code.loop body1) (OnExit 0 Post) ⟨(List.toArray (c0 :: c1 :: c2 :: c3 :: c4 :: v0 :: c6 :: c7 :: c8 :: c9 :: c10 :: c11 :: c12 :: c13 :: c14 :: c15 :: c16 :: c17 :: c18 :: c19 :: c20 :: c21 :: c22 :: c23 :: c24 :: c25 :: c26 :: c27 :: c28 :: c29 :: c30 :: c31 :: c32 :: c33 :: c34 :: c35 :: c36 :: c37 :: c38 :: c39 :: c40 :: c41 :: c42 :: c43 :: c44 :: c45 :: c46 :: c47 :: c48 :: c49 :: c50 :: c51 :: c52 :: c53 :: c54 :: c55 :: c56 :: c57 :: c58 :: c59 :: c60 :: c61 :: c62 :: c63 :: c64 :: c65 :: c66 :: c67 :: c68 :: c69 :: c70 :: c71 :: c72 :: c73 :: c74 :: c75 :: c76 :: c77 :: c78 :: c79 :: c80 :: c81 :: c82 :: c83 :: c84 :: c85 :: c86 :: c87 :: c88 :: c89 :: c90 :: c91 :: c92 :: c93 :: c94 :: c95 :: c96 :: c97 :: c98 :: c99 :: c100 :: c101 :: c102 :: c103 :: c104 :: c105 :: c106 :: c107 :: c108 :: c109 :: c110 :: c111 :: c112 :: c113 :: c114 :: c115 :: c116 :: c117 :: c118 :: c119 :: c120 :: c121 :: c122 :: c123 :: c124 :: c125 :: c126 :: c127 :: c128 :: c129 :: c130 :: c131 :: c132 :: c133 :: c134 :: c135 :: c136 :: c137 :: c138 :: c139 :: c140 :: c141 :: c142 :: c143 :: c144 :: c145 :: c146 :: c147 :: c148 :: c149 :: c150 :: c151 :: c152 :: c153 :: c154 :: c155 :: c156 :: c157 :: c158 :: c159 :: c160 :: c161 :: c162 :: c163 :: c164 :: c165 :: c166 :: c167 :: c168 :: c169 :: c170 :: c171 :: c172 :: c173 :: c174 :: c175 :: c176 :: c177 :: c178 :: c179 :: c180 :: c181 :: c182 :: c183 :: c184 :: c185 :: c186 :: c187 :: c188 :: c189 :: c190 :: c191 :: c192 :: c193 :: c194 :: c195 :: c196 :: c197 :: c198 :: c199 :: c200 :: c201 :: c202 :: c203 :: c204 :: c205 :: c206 :: c207 :: c208 :: c209 :: c210 :: c211 :: c212 :: c213 :: c214 :: c215 :: c216 :: c217 :: c218 :: c219 :: c220 :: c221 :: c222 :: c223 :: c224 :: c225 :: c226 :: c227 :: c228 :: c229 :: c230 :: c231 :: c232 :: c233 :: c234 :: c235 :: c236 :: c237 :: c238 :: c239 :: c240 :: c241 :: c242 :: c243 :: c244 :: c245 :: c246 :: c247 :: c248 :: c249 :: c250 :: c251 :: c252 :: c253 :: c254 :: c255 :: c256 :: c257 :: c258 :: c259 :: c260 :: c261 :: c262 :: c263 :: c264 :: c265 :: c266 :: c267 :: c268 :: c269 :: c270 :: c271 :: c272 :: c273 :: c274 :: c275 :: c276 :: c277 :: c278 :: c279 :: c280 :: c281 :: c282 :: c283 :: c284 :: c285 :: c286 :: c287 :: c288 :: c289 :: c290 :: c291 :: c292 :: c293 :: c294 :: c295 :: c296 :: c297 :: c298 :: c299 :: c300 :: c301 :: c302 :: c303 :: c304 :: c305 :: c306 :: c307 :: c308 :: c309 :: c310 :: c311 :: c312 :: c313 :: c314 :: c315 :: c316 :: c317 :: c318 :: c319 :: c320 :: c321 :: c322 :: c323 :: c324 :: c325 :: c326 :: c327 :: c328 :: c329 :: [])), []⟩ w := by
  have HX := hide hexit
  have HZ1 := hide hz1
  have HZ2 := hide hz2
  clear hexit hz1 hz2
  conv => arg 2; arg 1; whnf
  go_loopw [5] (fun v5 wr => ∃ j : Nat, j ≤ z ∧ (∃ q : Nat, q = z - j ∧ OwnB base wr v5 (l ++ List.replicate j 0)) ∧ base ≤ wr.heap.size ∧ Below base w wr) (fun v5 _ => z + l.length - (match v5 with | .slice _ n _ => n | _ => 0))
  case atStart => exact ⟨0, Nat.zero_le _, ⟨z, rfl, by simpa using ho0⟩, hb0, Below.refl _ _⟩
  case round =>
    rename World => wr
    clear ho0
    obtain ⟨j, hj, ⟨_, _, ho⟩, hbr, hf⟩ := hrel
    obtain ⟨a, c, rfl, hb, h1, h2⟩ := OwnB.at ho
    have hlen : (l ++ List.replicate j (0 : UInt8)).length = l.length + j := by simp
    rw [hlen] at h1 ⊢
    obtain ⟨L, hL⟩ : ∃ L, l.length + j = L := ⟨_, rfl⟩
    by_cases hlt : j < z
    · have hne := unhide HZ1 j hlt
      have t1 : (((L : Nat) : Int) % 64 != 56) = true := by
        have : (L : Int) % 64 = ((L % 64 : Nat) : Int) := by omega
        rw [this, ← hL]
        simp
        omega
      obtain ⟨W1, hW1⟩ : ∃ W1, wr.alloc (.cells #[.int .u8 0] 5) = W1 := ⟨_, rfl⟩
      obtain ⟨v', w', happ, hown, hgr⟩ := app_byte (c := 0) (W1 := W1) ho hbr (by rw [hlen]; omega) hW1
      have hrep : (l ++ List.replicate j 0) ++ [0] = l ++ List.replicate (j + 1) (0 : UInt8) := by rw [List.append_assoc, ← List.replicate_succ']
      rw [hrep] at hown
      rw [hlen] at happ
      obtain ⟨a2, c2, hv2, _, _, _⟩ := OwnB.at hown
      have hlen2 : (l ++ List.replicate (j + 1) (0 : UInt8)).length = L + 1 := by rw [← hL]; simp; omega
      rw [hlen2] at hv2
      have HP : Hid (OwnB base w' v' (l ++ List.replicate (j + 1) 0) ∧ base ≤ w'.heap.size ∧ Below base w w') := hide ⟨hown, Nat.le_trans hbr hgr.size, hf.trans (hgr.low hbr (OwnB.base ho))⟩
      have HV2 := hide hv2
      have HL := hide hL
      have HW1 := hide hW1
      rw [hL] at happ ⊢
      clear ho hf hown hgr hW1 hrep hlen hlen2 hL hv2 hb hne h1 h2
      go_wp2_with (at_builtin; rw [unhide HW1]; refine Lib.wpList_append_run _ rfl (.tmp 35) (.tmp 36) 23 23 (by rfl) (.slice a L c) (.slice (some ⟨wr.heap.size, 0, none⟩) 1 1) (by kernel_rfl) (by kernel_rfl) v' w' happ ?_)
      refine ⟨⟨j + 1, hlt, ⟨_, rfl, (unhide HP).1⟩, (unhide HP).2.1, (unhide HP).2.2⟩, ?_⟩
      have h1 := unhide HV2
      have h2 := unhide HL
      rw [h1]
      simp only
      omega
    · have hjz : j = z := by omega
      subst hjz
      have t1 : (((L : Nat) : Int) % 64 != 56) = false := by
        have e := unhide HZ2
        rw [hL] at e
        have : (L : Int) % 64 = ((L % 64 : Nat) : Int) := by omega
        rw [this, e]
        rfl
      rw [hlen, hL] at ho
      rw [hL]
      have HK : Hid (OwnB base wr (.slice a L c) (l ++ List.replicate j 0)) := hide ho
      have HF := hide hf
      clear ho hf hb hlen hL h1 h2
      go_wp2
      refine ⟨rfl, unhide HX _ _ _ _ _ _ _ _ wr (unhide HK) (unhide HF)⟩

theorem kL_cells : (kL.map encW).toArray = lit64 := by kernel_rfl

set_option maxRecDepth 100000 in
set_option maxHeartbeats 1000000 in
theorem consts_any (w : World) : Calls Tryz.prog 88 #[] w fun e w' => e = .returned (.slice (some ⟨w.heap.size, 0, none⟩) 64 64) ∧ w' = w.alloc (.cells (kL.map encW).toArray 39) := by
  have HK := hide kL_cells
  go_enter Tryz.func88, Tryz.ntmps88
  go_wp2
  go_ret
  exact ⟨rfl, by rw [unhide HK]⟩

set_option maxRecDepth 100000 in
set_option maxHeartbeats 1000000 in
theorem bytes_any {w : World} {a : Option Addr} {n c : Nat} {b : Bs} (hn : b.length = n) (hN : n ≤ 1073741824) (h : BAt w a b) :
    Calls Tryz.prog 82 #[.slice a n c] w fun e w' => ∃ v, e = .returned v ∧ OwnB w.heap.size w' v b ∧ Below w.heap.size w w' := by
  obtain ⟨W1, hW1⟩ : ∃ W1, w.alloc (.cells #[] 5) = W1 := ⟨_, rfl⟩
  have hb1 : Below w.heap.size w W1 := by rw [← hW1]; exact (Below.refl _ _).alloc (Nat.le_refl _) _
  have ho : OwnB w.heap.size W1 (.slice (some ⟨w.heap.size, 0, none⟩) 0 0) [] := by
    refine ⟨rfl, Or.inr ⟨w.heap.size, 0, #[], rfl, Nat.le_refl _, ?_, Nat.le_refl _, by unfold maxLen; omega, rfl, rfl⟩⟩
    rw [← hW1]
    exact heap_alloc_new w _
  obtain ⟨v', w', happ, hown, hgr⟩ := app_at (c := c) hn (h.low hb1) ho hb1.size (by simp; omega)
  have HP : Hid (OwnB w.heap.size w' v' b ∧ Below w.heap.size w w') := hide ⟨by simpa using hown, hb1.trans (hgr.low hb1.size (OwnB.base ho))⟩
  have HW1 := hide hW1
  clear hown hgr ho hW1 h hn hb1
  go_enter Tryz.func82, Tryz.ntmps82
  go_wp2_with (at_builtin; rw [unhide HW1]; refine Lib.wpList_append_run _ rfl _ _ _ _ rfl _ _ rfl rfl _ _ happ ?_)
  go_ret
  exact ⟨_, rfl, (unhide HP).1, (unhide HP).2⟩
end Go.Proofs.YtkablmjkffdloaaGreatDoor

namespace Go.Proofs.YtkablmjkffdloaaGreatDoor
open Go.RowKit

noncomputable def body2 : Code := ((Tryz.f28.body.map loopsOf).getD []).getD 1 .skip

set_option maxRecDepth 1000000 in
set_option maxHeartbeats 4000000 in
theorem loop2 {c0 c1 c2 c3 c4 c8 c9 c10 c11 c12 c13 c14 c15 c16 c17 c18 c19 c20 c21 c22 c23 c24 c25 c26 c27 c28 c29 c30 c31 c32 c33 c34 c35 c36 c37 c38 c39 c40 c41 c42 c43 c44 c45 c46 c47 c48 c49 c50 c51 c52 c53 c54 c55 c56 c57 c58 c59 c60 c61 c62 c63 c64 c65 c66 c67 c68 c69 c70 c71 c72 c73 c74 c75 c76 c77 c78 c79 c80 c81 c82 c83 c84 c85 c86 c87 c88 c89 c90 c91 c92 c93 c94 c95 c96 c97 c98 c99 c100 c101 c102 c103 c104 c105 c106 c107 c108 c109 c110 c111 c112 c113 c114 c115 c116 c117 c118 c119 c120 c121 c122 c123 c124 c125 c126 c127 c128 c129 c130 c131 c132 c133 c134 c135 c136 c137 c138 c139 c140 c141 c142 c143 c144 c145 c146 c147 c148 c149 c150 c151 c152 c153 c154 c155 c156 c157 c158 c159 c160 c161 c162 c163 c164 c165 c166 c167 c168 c169 c170 c171 c172 c173 c174 c175 c176 c177 c178 c179 c180 c181 c182 c183 c184 c185 c186 c187 c188 c189 c190 c191 c192 c193 c194 c195 c196 c197 c198 c199 c200 c201 c202 c203 c204 c205 c206 c207 c208 c209 c210 c211 c212 c213 c214 c215 c216 c217 c218 c219 c220 c221 c222 c223 c224 c225 c226 c227 c228 c229 c230 c231 c232 c233 c234 c235 c236 c237 c238 c239 c240 c241 c242 c243 c244 c245 c246 c247 c248 c249 c250 c251 c252 c253 c254 c255 c256 c257 c258 c259 c260 c261 c262 c263 c264 c265 c266 c267 c268 c269 c270 c271 c272 c273 c274 c275 c276 c277 c278 c279 c280 c281 c282 c283 c284 c285 c286 c287 c288 c289 c290 c291 c292 c293 c294 c295 c296 c297 c298 c299 c300 c301 c302 c303 c304 c305 c306 c307 c308 c309 c310 c311 c312 c313 c314 c315 c316 c317 c318 c319 c320 c321 c322 c323 c324 c325 c326 c327 c328 c329 : Value} {v0 : Value} {base n : Nat} {l : Bs} {w : World} {Post : Act → World → Prop} (hl : l.length ≤ 1073741824) (hb0 : base ≤ w.heap.size) (ho0 : OwnB base w v0 l)
    (hexit : ∀ vo d42 d43 d44 d45 d46 d47 d48 d49 d50 d51 d52 d53 w', OwnB base w' vo (l ++ be8 n) → Below base w w' → Post ⟨(List.toArray (c0 :: c1 :: c2 :: c3 :: c4 :: vo :: (.int .u64 (n : Int)) :: (.int .i64 (-1)) :: c8 :: c9 :: c10 :: c11 :: c12 :: c13 :: c14 :: c15 :: c16 :: c17 :: c18 :: c19 :: c20 :: c21 :: c22 :: c23 :: c24 :: c25 :: c26 :: c27 :: c28 :: c29 :: c30 :: c31 :: c32 :: c33 :: c34 :: c35 :: c36 :: c37 :: c38 :: c39 :: c40 :: c41 :: d42 :: d43 :: d44 :: d45 :: d46 :: d47 :: d48 :: d49 :: d50 :: d51 :: d52 :: d53 :: c54 :: c55 :: c56 :: c57 :: c58 :: c59 :: c60 :: c61 :: c62 :: c63 :: c64 :: c65 :: c66 :: c67 :: c68 :: c69 :: c70 :: c71 :: c72 :: c73 :: c74 :: c75 :: c76 :: c77 :: c78 :: c79 :: c80 :: c81 :: c82 :: c83 :: c84 :: c85 :: c86 :: c87 :: c88 :: c89 :: c90 :: c91 :: c92 :: c93 :: c94 :: c95 :: c96 :: c97 :: c98 :: c99 :: c100 :: c101 :: c102 :: c103 :: c104 :: c105 :: c106 :: c107 :: c108 :: c109 :: c110 :: c111 :: c112 :: c113 :: c114 :: c115 :: c116 :: c117 :: c118 :: c119 :: c120 :: c121 :: c122 :: c123 :: c124 :: c125 :: c126 :: c127 :: c128 :: c129 :: c130 :: c131 :: c132 :: c133 :: c134 :: c135 :: c136 :: c137 :: c138 :: c139 :: c140 :: c141 :: c142 :: c143 :: c144 :: c145 :: c146 :: c147 :: c148 :: c149 :: c150 :: c151 :: c152 :: c153 :: c154 :: c155 :: c156 :: c157 :: c158 :: c159 :: c160 :: c161 :: c162 :: c163 :: c164 :: c165 :: c166 :: c167 :: c168 :: c169 :: c170 :: c171 :: c172 :: c173 :: c174 :: c175 :: c176 :: c177 :: c178 :: c179 :: c180 :: c181 :: c182 :: c183 :: c184 :: c185 :: c186 :: c187 :: c188 :: c189 :: c190 :: c191 :: c192 :: c193 :: c194 :: c195 :: c196 :: c197 :: c198 :: c199 :: c200 :: c201 :: c202 :: c203 :: c204 :: c205 :: c206 :: c207 :: c208 :: c209 :: c210 :: c211 :: c212 :: c213 :: c214 :: c215 :: c216 :: c217 :: c218 :: c219 :: c220 :: c221 :: c222 :: c223 :: c224 :: c225 :: c226 :: c227 :: c228 :: c229 :: c230 :: c231 :: c232 :: c233 :: c234 :: c235 :: c236 :: c237 :: c238 :: c239 :: c240 :: c241 :: c242 :: c243 :: c244 :: c245 :: c246 :: c247 :: c248 :: c249 :: c250 :: c251 :: c252 :: c253 :: c254 :: c255 :: c256 :: c257 :: c258 :: c259 :: c260 :: c261 :: c262 :: c263 :: c264 :: c265 :: c266 :: c267 :: c268 :: c269 :: c270 :: c271 :: c272 :: c273 :: c274 :: c275 :: c276 :: c277 :: c278 :: c279 :: c280 :: c281 :: c282 :: c283 :: c284 :: c285 :: c286 :: c287 :: c288 :: c289 :: c290 :: c291 :: c292 :: c293 :: c294 :: c295 :: c296 :: c297 :: c298 :: c299 :: c300 :: c301 :: c302 :: c303 :: c304 :: c305 :: c306 :: c307 :: c308 :: c309 :: c310 :: c311 :: c312 :: c313 :: c314 :: c315 :: c316 :: c317 :: c318 :: c319 :: c320 :: c321 :: c322 :: c323 :: c324 :: c325 :: c326 :: c327 :: c328 :: c329 :: [])), []⟩ w') :
    Code.wp Tryz.prog (Code.loop body2) (OnExit 2 Post) ⟨(List.toArray (c0 :: c1 :: c2 :: c3 :: c4 :: v0 :: (.int .u64 (n : Int)) :: (.int .i64 7) :: c8 :: c9 :: c10 :: c11 :: c12 :: c13 :: c14 :: c15 :: c16 :: c17 :: c18 :: c19 :: c20 :: c21 :: c22 :: c23 :: c24 :: c25 :: c26 :: c27 :: c28 :: c29 :: c30 :: c31 :: c32 :: c33 :: c34 :: c35 :: c36 :: c37 :: c38 :: c39 :: c40 :: c41 :: c42 :: c43 :: c44 :: c45 :: c46 :: c47 :: c48 :: c49 :: c50 :: c51 :: c52 :: c53 :: c54 :: c55 :: c56 :: c57 :: c58 :: c59 :: c60 :: c61 :: c62 :: c63 :: c64 :: c65 :: c66 :: c67 :: c68 :: c69 :: c70 :: c71 :: c72 :: c73 :: c74 :: c75 :: c76 :: c77 :: c78 :: c79 :: c80 :: c81 :: c82 :: c83 :: c84 :: c85 :: c86 :: c87 :: c88 :: c89 :: c90 :: c91 :: c92 :: c93 :: c94 :: c95 :: c96 :: c97 :: c98 :: c99 :: c100 :: c101 :: c102 :: c103 :: c104 :: c105 :: c106 :: c107 :: c108 :: c109 :: c110 :: c111 :: c112 :: c113 :: c114 :: c115 :: c116 :: c117 :: c118 :: c119 :: c120 :: c121 :: c122 :: c123 :: c124 :: c125 :: c126 :: c127 :: c128 :: c129 :: c130 :: c131 :: c132 :: c133 :: c134 :: c135 :: c136 :: c137 :: c138 :: c139 :: c140 :: c141 :: c142 :: c143 :: c144 :: c145 :: c146 :: c147 :: c148 :: c149 :: c150 :: c151 :: c152 :: c153 :: c154 :: c155 :: c156 :: c157 :: c158 :: c159 :: c160 :: c161 :: c162 :: c163 :: c164 :: c165 :: c166 :: c167 :: c168 :: c169 :: c170 :: c171 :: c172 :: c173 :: c174 :: c175 :: c176 :: c177 :: c178 :: c179 :: c180 :: c181 :: c182 :: c183 :: c184 :: c185 :: c186 :: c187 :: c188 :: c189 :: c190 :: c191 :: c192 :: c193 :: c194 :: c195 :: c196 :: c197 :: c198 :: c199 :: c200 :: c201 :: c202 :: c203 :: c204 :: c205 :: c206 :: c207 :: c208 :: c209 :: c210 :: c211 :: c212 :: c213 :: c214 :: c215 :: c216 :: c217 :: c218 :: c219 :: c220 :: c221 :: c222 :: c223 :: c224 :: c225 :: c226 :: c227 :: c228 :: c229 :: c230 :: c231 :: c232 :: c233 :: c234 :: c235 :: c236 :: c237 :: c238 :: c239 :: c240 :: c241 :: c242 :: c243 :: c244 :: c245 :: c246 :: c247 :: c248 :: c249 :: c250 :: c251 :: c252 :: c253 :: c254 :: c255 :: c256 :: c257 :: c258 :: c259 :: c260 :: c261 :: c262 :: c263 :: c264 :: c265 :: c266 :: c267 :: c268 :: c269 :: c270 :: c271 :: c272 :: c273 :: c274 :: c275 :: c276 :: c277 :: c278 :: c279 :: c280 :: c281 :: c282 :: c283 :: c284 :: c285 :: c286 :: c287 :: c288 :: c289 :: c290 :: c291 :: c292 :: c293 :: c294 :: c295 :: c296 :: c297 :: c298 :: c299 :: c300 :: c301 :: c302 :: c303 :: c304 :: c305 :: c306 :: c307 :: c308 :: c309 :: c310 :: c311 :: c312 :: c313 :: c314 :: c315 :: c316 :: c317 :: c318 :: c319 :: c320 :: c321 :: c322 :: c323 :: c324 :: c325 :: c326 :: c327 :: c328 :: c329 :: [])), []⟩ w := by
  have HX := hide hexit
  clear hexit
  conv => arg 2; arg 1; whnf
  go_loopw [5, 7] (fun v5 v7 wr => ∃ j : Nat, j ≤ 8 ∧ v7 = .int .i64 (7 - (j : Int)) ∧ OwnB base wr v5 (l ++ (be8 n).take j) ∧ base ≤ wr.heap.size ∧ Below base w wr) (fun _ v7 _ => (intOf v7 + 1).toNat)
  case atStart => exact ⟨0, Nat.zero_le _, rfl, by simpa using ho0, hb0, Below.refl _ _⟩
  case round =>
    rename World => wr
    clear ho0
    obtain ⟨j, hj, rfl, ho, hbr, hf⟩ := hrel
    have hlen : (l ++ (be8 n).take j).length ≤ 2147483648 := by rw [List.length_append, List.length_take]; omega
    by_cases hlt : j < 8
    · have hj8 : j = 0 ∨ j = 1 ∨ j = 2 ∨ j = 3 ∨ j = 4 ∨ j = 5 ∨ j = 6 ∨ j = 7 := by omega
      rcases hj8 with rfl | rfl | rfl | rfl | rfl | rfl | rfl | rfl
      · have hbv : IntKind.u8.wrap ((n : Int) / (72057594037927936 : Int)) = ((UInt8.ofNat (n >>> 56)).toNat : Int) := by rw [IntKind.wrap_u8']; exact byteN n (k := 56) (p := 72057594037927936) (by decide)
        obtain ⟨x, hx⟩ : ∃ x, UInt8.ofNat (n >>> 56) = x := ⟨_, rfl⟩
        rw [hx] at hbv
        obtain ⟨W1, hW1⟩ : ∃ W1, wr.alloc (.cells #[.int .u8 (x.toNat : Int)] 5) = W1 := ⟨_, rfl⟩
        obtain ⟨v', w', happ, hown, hgr⟩ := app_byte (c := x) (W1 := W1) ho hbr hlen hW1
        have HP : Hid (OwnB base w' v' (l ++ (be8 n).take 1) ∧ base ≤ w'.heap.size ∧ Below base w w') := hide ⟨by rw [← hx] at hown; have := hown; rw [List.append_assoc] at this; exact this, Nat.le_trans hbr hgr.size, hf.trans (hgr.low hbr (OwnB.base ho))⟩
        have HW1 := hide hW1
        clear ho hf hown hgr hW1 hx hlen hj hlt
        rw [show (7 : Int) - ((0 : Nat) : Int) = 7 from rfl]
        go_wp2_with (at_builtin; rw [unhide HW1]; refine Lib.wpList_append_run _ rfl (.tmp 46) (.tmp 52) 23 23 (by rfl) u5 (.slice (some ⟨wr.heap.size, 0, none⟩) 1 1) (by kernel_rfl) (by kernel_rfl) v' w' happ ?_)
        refine ⟨⟨1, by omega, rfl, (unhide HP).1, (unhide HP).2.1, (unhide HP).2.2⟩, ?_⟩
        simp [intOf]
      · have hbv : IntKind.u8.wrap ((n : Int) / (281474976710656 : Int)) = ((UInt8.ofNat (n >>> 48)).toNat : Int) := by rw [IntKind.wrap_u8']; exact byteN n (k := 48) (p := 281474976710656) (by decide)
        obtain ⟨x, hx⟩ : ∃ x, UInt8.ofNat (n >>> 48) = x := ⟨_, rfl⟩
        rw [hx] at hbv
        obtain ⟨W1, hW1⟩ : ∃ W1, wr.alloc (.cells #[.int .u8 (x.toNat : Int)] 5) = W1 := ⟨_, rfl⟩
        obtain ⟨v', w', happ, hown, hgr⟩ := app_byte (c := x) (W1 := W1) ho hbr hlen hW1
        have HP : Hid (OwnB base w' v' (l ++ (be8 n).take 2) ∧ base ≤ w'.heap.size ∧ Below base w w') := hide ⟨by rw [← hx] at hown; have := hown; rw [List.append_assoc] at this; exact this, Nat.le_trans hbr hgr.size, hf.trans (hgr.low hbr (OwnB.base ho))⟩
        have HW1 := hide hW1
        clear ho hf hown hgr hW1 hx hlen hj hlt
        rw [show (7 : Int) - ((1 : Nat) : Int) = 6 from rfl]
        go_wp2_with (at_builtin; rw [unhide HW1]; refine Lib.wpList_append_run _ rfl (.tmp 46) (.tmp 52) 23 23 (by rfl) u5 (.slice (some ⟨wr.heap.size, 0, none⟩) 1 1) (by kernel_rfl) (by kernel_rfl) v' w' happ ?_)
        refine ⟨⟨2, by omega, rfl, (unhide HP).1, (unhide HP).2.1, (unhide HP).2.2⟩, ?_⟩
        simp [intOf]
      · have hbv : IntKind.u8.wrap ((n : Int) / (1099511627776 : Int)) = ((UInt8.ofNat (n >>> 40)).toNat : Int) := by rw [IntKind.wrap_u8']; exact byteN n (k := 40) (p := 1099511627776) (by decide)
        obtain ⟨x, hx⟩ : ∃ x, UInt8.ofNat (n >>> 40) = x := ⟨_, rfl⟩
        rw [hx] at hbv
        obtain ⟨W1, hW1⟩ : ∃ W1, wr.alloc (.cells #[.int .u8 (x.toNat : Int)] 5) = W1 := ⟨_, rfl⟩
        obtain ⟨v', w', happ, hown, hgr⟩ := app_byte (c := x) (W1 := W1) ho hbr hlen hW1
        have HP : Hid (OwnB base w' v' (l ++ (be8 n).take 3) ∧ base ≤ w'.heap.size ∧ Below base w w') := hide ⟨by rw [← hx] at hown; have := hown; rw [List.append_assoc] at this; exact this, Nat.le_trans hbr hgr.size, hf.trans (hgr.low hbr (OwnB.base ho))⟩
        have HW1 := hide hW1
        clear ho hf hown hgr hW1 hx hlen hj hlt
        rw [show (7 : Int) - ((2 : Nat) : Int) = 5 from rfl]
        go_wp2_with (at_builtin; rw [unhide HW1]; refine Lib.wpList_append_run _ rfl (.tmp 46) (.tmp 52) 23 23 (by rfl) u5 (.slice (some ⟨wr.heap.size, 0, none⟩) 1 1) (by kernel_rfl) (by kernel_rfl) v' w' happ ?_)
        refine ⟨⟨3, by omega, rfl, (unhide HP).1, (unhide HP).2.1, (unhide HP).2.2⟩, ?_⟩
        simp [intOf]
      · have hbv : IntKind.u8.wrap ((n : Int) / (4294967296 : Int)) = ((UInt8.ofNat (n >>> 32)).toNat : Int) := by rw [IntKind.wrap_u8']; exact byteN n (k := 32) (p := 4294967296) (by decide)
        obtain ⟨x, hx⟩ : ∃ x, UInt8.ofNat (n >>> 32) = x := ⟨_, rfl⟩
        rw [hx] at hbv
        obtain ⟨W1, hW1⟩ : ∃ W1, wr.alloc (.cells #[.int .u8 (x.toNat : Int)] 5) = W1 := ⟨_, rfl⟩
        obtain ⟨v', w', happ, hown, hgr⟩ := app_byte (c := x) (W1 := W1) ho hbr hlen hW1
        have HP : Hid (OwnB base w' v' (l ++ (be8 n).take 4) ∧ base ≤ w'.heap.size ∧ Below base w w') := hide ⟨by rw [← hx] at hown; have := hown; rw [List.append_assoc] at this; exact this, Nat.le_trans hbr hgr.size, hf.trans (hgr.low hbr (OwnB.base ho))⟩
        have HW1 := hide hW1
        clear ho hf hown hgr hW1 hx hlen hj hlt
        rw [show (7 : Int) - ((3 : Nat) : Int) = 4 from rfl]
        go_wp2_with (at_builtin; rw [unhide HW1]; refine Lib.wpList_append_run _ rfl (.tmp 46) (.tmp 52) 23 23 (by rfl) u5 (.slice (some ⟨wr.heap.size, 0, none⟩) 1 1) (by kernel_rfl) (by kernel_rfl) v' w' happ ?_)
        refine ⟨⟨4, by omega, rfl, (unhide HP).1, (unhide HP).2.1, (unhide HP).2.2⟩, ?_⟩
        simp [intOf]
      · have hbv : IntKind.u8.wrap ((n : Int) / (16777216 : Int)) = ((UInt8.ofNat (n >>> 24)).toNat : Int) := by rw [IntKind.wrap_u8']; exact byteN n (k := 24) (p := 16777216) (by decide)
        obtain ⟨x, hx⟩ : ∃ x, UInt8.ofNat (n >>> 24) = x := ⟨_, rfl⟩
        rw [hx] at hbv
        obtain ⟨W1, hW1⟩ : ∃ W1, wr.alloc (.cells #[.int .u8 (x.toNat : Int)] 5) = W1 := ⟨_, rfl⟩
        obtain ⟨v', w', happ, hown, hgr⟩ := app_byte (c := x) (W1 := W1) ho hbr hlen hW1
        have HP : Hid (OwnB base w' v' (l ++ (be8 n).take 5) ∧ base ≤ w'.heap.size ∧ Below base w w') := hide ⟨by rw [← hx] at hown; have := hown; rw [List.append_assoc] at this; exact this, Nat.le_trans hbr hgr.size, hf.trans (hgr.low hbr (OwnB.base ho))⟩
        have HW1 := hide hW1
        clear ho hf hown hgr hW1 hx hlen hj hlt
        rw [show (7 : Int) - ((4 : Nat) : Int) = 3 from rfl]
        go_wp2_with (at_builtin; rw [unhide HW1]; refine Lib.wpList_append_run _ rfl (.tmp 46) (.tmp 52) 23 23 (by rfl) u5 (.slice (some ⟨wr.heap.size, 0, none⟩) 1 1) (by kernel_rfl) (by kernel_rfl) v' w' happ ?_)
        refine ⟨⟨5, by omega, rfl, (unhide HP).1, (unhide HP).2.1, (unhide HP).2.2⟩, ?_⟩
        simp [intOf]
      · have hbv : IntKind.u8.wrap ((n : Int) / (65536 : Int)) = ((UInt8.ofNat (n >>> 16)).toNat : Int) := by rw [IntKind.wrap_u8']; exact byteN n (k := 16) (p := 65536) (by decide)
        obtain ⟨x, hx⟩ : ∃ x, UInt8.ofNat (n >>> 16) = x := ⟨_, rfl⟩
        rw [hx] at hbv
        obtain ⟨W1, hW1⟩ : ∃ W1, wr.alloc (.cells #[.int .u8 (x.toNat : Int)] 5) = W1 := ⟨_, rfl⟩
        obtain ⟨v', w', happ, hown, hgr⟩ := app_byte (c := x) (W1 := W1) ho hbr hlen hW1
        have HP : Hid (OwnB base w' v' (l ++ (be8 n).take 6) ∧ base ≤ w'.heap.size ∧ Below base w w') := hide ⟨by rw [← hx] at hown; have := hown; rw [List.append_assoc] at this; exact this, Nat.le_trans hbr hgr.size, hf.trans (hgr.low hbr (OwnB.base ho))⟩
        have HW1 := hide hW1
        clear ho hf hown hgr hW1 hx hlen hj hlt
        rw [show (7 : Int) - ((5 : Nat) : Int) = 2 from rfl]
        go_wp2_with (at_builtin; rw [unhide HW1]; refine Lib.wpList_append_run _ rfl (.tmp 46) (.tmp 52) 23 23 (by rfl) u5 (.slice (some ⟨wr.heap.size, 0, none⟩) 1 1) (by kernel_rfl) (by kernel_rfl) v' w' happ ?_)
        refine ⟨⟨6, by omega, rfl, (unhide HP).1, (unhide HP).2.1, (unhide HP).2.2⟩, ?_⟩
        simp [intOf]
      · have hbv : IntKind.u8.wrap ((n : Int) / (256 : Int)) = ((UInt8.ofNat (n >>> 8)).toNat : Int) := by rw [IntKind.wrap_u8']; exact byteN n (k := 8) (p := 256) (by decide)
        obtain ⟨x, hx⟩ : ∃ x, UInt8.ofNat (n >>> 8) = x := ⟨_, rfl⟩
        rw [hx] at hbv
        obtain ⟨W1, hW1⟩ : ∃ W1, wr.alloc (.cells #[.int .u8 (x.toNat : Int)] 5) = W1 := ⟨_, rfl⟩
        obtain ⟨v', w', happ, hown, hgr⟩ := app_byte (c := x) (W1 := W1) ho hbr hlen hW1
        have HP : Hid (OwnB base w' v' (l ++ (be8 n).take 7) ∧ base ≤ w'.heap.size ∧ Below base w w') := hide ⟨by rw [← hx] at hown; have := hown; rw [List.append_assoc] at this; exact this, Nat.le_trans hbr hgr.size, hf.trans (hgr.low hbr (OwnB.base ho))⟩
        have HW1 := hide hW1
        clear ho hf hown hgr hW1 hx hlen hj hlt
        rw [show (7 : Int) - ((6 : Nat) : Int) = 1 from rfl]
        go_wp2_with (at_builtin; rw [unhide HW1]; refine Lib.wpList_append_run _ rfl (.tmp 46) (.tmp 52) 23 23 (by rfl) u5 (.slice (some ⟨wr.heap.size, 0, none⟩) 1 1) (by kernel_rfl) (by kernel_rfl) v' w' happ ?_)
        refine ⟨⟨7, by omega, rfl, (unhide HP).1, (unhide HP).2.1, (unhide HP).2.2⟩, ?_⟩
        simp [intOf]
      · have hbv : IntKind.u8.wrap ((n : Int)) = ((UInt8.ofNat n).toNat : Int) := by rw [IntKind.wrap_u8']; exact byteN0 n
        obtain ⟨x, hx⟩ : ∃ x, UInt8.ofNat n = x := ⟨_, rfl⟩
        rw [hx] at hbv
        obtain ⟨W1, hW1⟩ : ∃ W1, wr.alloc (.cells #[.int .u8 (x.toNat : Int)] 5) = W1 := ⟨_, rfl⟩
        obtain ⟨v', w', happ, hown, hgr⟩ := app_byte (c := x) (W1 := W1) ho hbr hlen hW1
        have HP : Hid (OwnB base w' v' (l ++ (be8 n).take 8) ∧ base ≤ w'.heap.size ∧ Below base w w') := hide ⟨by rw [← hx] at hown; have := hown; rw [List.append_assoc] at this; exact this, Nat.le_trans hbr hgr.size, hf.trans (hgr.low hbr (OwnB.base ho))⟩
        have HW1 := hide hW1
        clear ho hf hown hgr hW1 hx hlen hj hlt
        rw [show (7 : Int) - ((7 : Nat) : Int) = 0 from rfl]
        go_wp2_with (at_builtin; rw [unhide HW1]; refine Lib.wpList_append_run _ rfl (.tmp 46) (.tmp 52) 23 23 (by rfl) u5 (.slice (some ⟨wr.heap.size, 0, none⟩) 1 1) (by kernel_rfl) (by kernel_rfl) v' w' happ ?_)
        refine ⟨⟨8, by omega, rfl, (unhide HP).1, (unhide HP).2.1, (unhide HP).2.2⟩, ?_⟩
        simp [intOf]
    · have hj8 : j = 8 := by omega
      subst hj8
      rw [show (7 : Int) - ((8 : Nat) : Int) = -1 from rfl]
      have HK := hide ho
      have HF := hide hf
      clear ho hf hlen hj hlt
      go_wp2
      refine ⟨rfl, unhide HX _ _ _ _ _ _ _ _ _ _ _ _ _ wr (unhide HK) (unhide HF)⟩
end Go.Proofs.YtkablmjkffdloaaGreatDoor

namespace Go.Proofs.YtkablmjkffdloaaGreatDoor
open Go.RowKit

theorem zip_set {h v : List UInt32} {i : Nat} (hl : h.length = v.length) (hi : i < h.length) : ((List.zipWith (· + ·) (h.take i) (v.take i)) ++ h.drop i).set i (h[i] + v[i]'(by omega)) = (List.zipWith (· + ·) (h.take (i + 1)) (v.take (i + 1))) ++ h.drop (i + 1) := by
  apply List.ext_getElem
  · simp; omega
  · intro k h1 h2
    simp only [List.getElem_set, List.getElem_append, List.length_zipWith, List.length_take, List.getElem_zipWith, List.getElem_take, List.getElem_drop]
    by_cases hk : i = k
    · subst hk
      simp
      omega
    · have e1 : min (min i h.length) (min i v.length) = i := by omega
      have e2 : min (min (i + 1) h.length) (min (i + 1) v.length) = i + 1 := by omega
      by_cases hlt : k < i
      · simp [hk, e1, e2, hlt, show k < i + 1 by omega]
      · have e3 : ¬ k < i + 1 := by omega
        simp only [hk, e1, e2, hlt, e3, if_false, dif_neg, not_false_eq_true]
        congr 1
        omega

set_option maxRecDepth 1000000 in
set_option maxHeartbeats 4000000 in
theorem loop7 {c0 c1 c2 c3 c5 c6 c7 c8 c9 c10 c11 c12 c13 c14 c16 c17 c18 c19 c20 c21 c23 c24 c25 c26 c27 c28 c29 c30 c31 c32 c33 c34 c35 c36 c37 c38 c39 c40 c41 c42 c43 c44 c45 c46 c47 c48 c49 c50 c51 c52 c53 c54 c55 c56 c57 c58 c59 c60 c61 c62 c63 c64 c65 c66 c67 c68 c69 c70 c71 c72 c73 c74 c75 c76 c77 c78 c79 c80 c81 c82 c83 c84 c85 c86 c87 c88 c89 c90 c91 c92 c93 c94 c95 c96 c97 c98 c99 c100 c101 c102 c103 c104 c105 c106 c107 c108 c109 c110 c111 c112 c113 c114 c115 c116 c117 c118 c119 c120 c121 c122 c123 c124 c125 c126 c127 c128 c129 c130 c131 c132 c133 c134 c135 c136 c137 c138 c139 c140 c141 c142 c143 c144 c145 c146 c147 c148 c149 c150 c151 c152 c153 c154 c155 c156 c157 c158 c159 c160 c161 c162 c163 c164 c165 c166 c167 c168 c169 c170 c171 c172 c173 c174 c175 c176 c177 c178 c179 c180 c181 c182 c183 c184 c185 c186 c187 c188 c189 c190 c191 c192 c193 c194 c195 c196 c197 c198 c199 c200 c201 c202 c203 c204 c205 c206 c207 c208 c209 c210 c211 c212 c213 c214 c215 c216 c217 c218 c219 c220 c221 c222 c223 c224 c225 c226 c227 c228 c229 c230 c231 c232 c233 c234 c235 c236 c237 c238 c239 c240 c241 c242 c243 c244 c245 c246 c247 c248 c249 c250 c251 c252 c253 c254 c255 c256 c257 c258 c259 c260 c261 c262 c263 c264 c265 c266 c267 c268 c269 c270 c271 c272 c273 c274 c275 c276 c277 c278 c279 c280 c281 c282 c283 c284 c285 c286 c287 c288 c289 c290 c291 c292 c293 c294 c295 c296 c297 c298 c299 c300 c301 c302 c303 c304 c305 c306 c307 c308 c309 c310 c311 c312 c313 c314 c315 c316 c317 c318 c319 c320 c321 c322 c323 c324 c325 c326 c327 c328 c329 : Value} {hB vB vc : Nat} {hs vs : List UInt32} {w : World} {Post : Act → World → Prop} (hh : hs.length = 8) (hv : vs.length = 8) (hne : vB ≠ hB) (kh : WBlk w hB hs) (kv : WAt w vB vs)
    (hexit : ∀ d283 d284 d285 d286 d287 d288 d289 d290 d291 d292 d293 d294 d295 d296 d297 d298 w', WBlk w' hB (List.zipWith (· + ·) hs vs) → Fr1 hB w w' → Post ⟨(List.toArray (c0 :: c1 :: c2 :: c3 :: (.slice (some ⟨hB, 0, none⟩) 8 8) :: c5 :: c6 :: c7 :: c8 :: c9 :: c10 :: c11 :: c12 :: c13 :: c14 :: (.slice (some ⟨vB, 0, none⟩) 8 vc) :: c16 :: c17 :: c18 :: c19 :: c20 :: c21 :: (.int .i64 8) :: c23 :: c24 :: c25 :: c26 :: c27 :: c28 :: c29 :: c30 :: c31 :: c32 :: c33 :: c34 :: c35 :: c36 :: c37 :: c38 :: c39 :: c40 :: c41 :: c42 :: c43 :: c44 :: c45 :: c46 :: c47 :: c48 :: c49 :: c50 :: c51 :: c52 :: c53 :: c54 :: c55 :: c56 :: c57 :: c58 :: c59 :: c60 :: c61 :: c62 :: c63 :: c64 :: c65 :: c66 :: c67 :: c68 :: c69 :: c70 :: c71 :: c72 :: c73 :: c74 :: c75 :: c76 :: c77 :: c78 :: c79 :: c80 :: c81 :: c82 :: c83 :: c84 :: c85 :: c86 :: c87 :: c88 :: c89 :: c90 :: c91 :: c92 :: c93 :: c94 :: c95 :: c96 :: c97 :: c98 :: c99 :: c100 :: c101 :: c102 :: c103 :: c104 :: c105 :: c106 :: c107 :: c108 :: c109 :: c110 :: c111 :: c112 :: c113 :: c114 :: c115 :: c116 :: c117 :: c118 :: c119 :: c120 :: c121 :: c122 :: c123 :: c124 :: c125 :: c126 :: c127 :: c128 :: c129 :: c130 :: c131 :: c132 :: c133 :: c134 :: c135 :: c136 :: c137 :: c138 :: c139 :: c140 :: c141 :: c142 :: c143 :: c144 :: c145 :: c146 :: c147 :: c148 :: c149 :: c150 :: c151 :: c152 :: c153 :: c154 :: c155 :: c156 :: c157 :: c158 :: c159 :: c160 :: c161 :: c162 :: c163 :: c164 :: c165 :: c166 :: c167 :: c168 :: c169 :: c170 :: c171 :: c172 :: c173 :: c174 :: c175 :: c176 :: c177 :: c178 :: c179 :: c180 :: c181 :: c182 :: c183 :: c184 :: c185 :: c186 :: c187 :: c188 :: c189 :: c190 :: c191 :: c192 :: c193 :: c194 :: c195 :: c196 :: c197 :: c198 :: c199 :: c200 :: c201 :: c202 :: c203 :: c204 :: c205 :: c206 :: c207 :: c208 :: c209 :: c210 :: c211 :: c212 :: c213 :: c214 :: c215 :: c216 :: c217 :: c218 :: c219 :: c220 :: c221 :: c222 :: c223 :: c224 :: c225 :: c226 :: c227 :: c228 :: c229 :: c230 :: c231 :: c232 :: c233 :: c234 :: c235 :: c236 :: c237 :: c238 :: c239 :: c240 :: c241 :: c242 :: c243 :: c244 :: c245 :: c246 :: c247 :: c248 :: c249 :: c250 :: c251 :: c252 :: c253 :: c254 :: c255 :: c256 :: c257 :: c258 :: c259 :: c260 :: c261 :: c262 :: c263 :: c264 :: c265 :: c266 :: c267 :: c268 :: c269 :: c270 :: c271 :: c272 :: c273 :: c274 :: c275 :: c276 :: c277 :: c278 :: c279 :: c280 :: c281 :: c282 :: d283 :: d284 :: d285 :: d286 :: d287 :: d288 :: d289 :: d290 :: d291 :: d292 :: d293 :: d294 :: d295 :: d296 :: d297 :: d298 :: c299 :: c300 :: c301 :: c302 :: c303 :: c304 :: c305 :: c306 :: c307 :: c308 :: c309 :: c310 :: c311 :: c312 :: c313 :: c314 :: c315 :: c316 :: c317 :: c318 :: c319 :: c320 :: c321 :: c322 :: c323 :: c324 :: c325 :: c326 :: c327 :: c328 :: c329 :: [])), []⟩ w') :
    Code.wp Tryz.prog (Code.loop body7) (OnExit 12 Post) ⟨(List.toArray (c0 :: c1 :: c2 :: c3 :: (.slice (some ⟨hB, 0, none⟩) 8 8) :: c5 :: c6 :: c7 :: c8 :: c9 :: c10 :: c11 :: c12 :: c13 :: c14 :: (.slice (some ⟨vB, 0, none⟩) 8 vc) :: c16 :: c17 :: c18 :: c19 :: c20 :: c21 :: (.int .i64 0) :: c23 :: c24 :: c25 :: c26 :: c27 :: c28 :: c29 :: c30 :: c31 :: c32 :: c33 :: c34 :: c35 :: c36 :: c37 :: c38 :: c39 :: c40 :: c41 :: c42 :: c43 :: c44 :: c45 :: c46 :: c47 :: c48 :: c49 :: c50 :: c51 :: c52 :: c53 :: c54 :: c55 :: c56 :: c57 :: c58 :: c59 :: c60 :: c61 :: c62 :: c63 :: c64 :: c65 :: c66 :: c67 :: c68 :: c69 :: c70 :: c71 :: c72 :: c73 :: c74 :: c75 :: c76 :: c77 :: c78 :: c79 :: c80 :: c81 :: c82 :: c83 :: c84 :: c85 :: c86 :: c87 :: c88 :: c89 :: c90 :: c91 :: c92 :: c93 :: c94 :: c95 :: c96 :: c97 :: c98 :: c99 :: c100 :: c101 :: c102 :: c103 :: c104 :: c105 :: c106 :: c107 :: c108 :: c109 :: c110 :: c111 :: c112 :: c113 :: c114 :: c115 :: c116 :: c117 :: c118 :: c119 :: c120 :: c121 :: c122 :: c123 :: c124 :: c125 :: c126 :: c127 :: c128 :: c129 :: c130 :: c131 :: c132 :: c133 :: c134 :: c135 :: c136 :: c137 :: c138 :: c139 :: c140 :: c141 :: c142 :: c143 :: c144 :: c145 :: c146 :: c147 :: c148 :: c149 :: c150 :: c151 :: c152 :: c153 :: c154 :: c155 :: c156 :: c157 :: c158 :: c159 :: c160 :: c161 :: c162 :: c163 :: c164 :: c165 :: c166 :: c167 :: c168 :: c169 :: c170 :: c171 :: c172 :: c173 :: c174 :: c175 :: c176 :: c177 :: c178 :: c179 :: c180 :: c181 :: c182 :: c183 :: c184 :: c185 :: c186 :: c187 :: c188 :: c189 :: c190 :: c191 :: c192 :: c193 :: c194 :: c195 :: c196 :: c197 :: c198 :: c199 :: c200 :: c201 :: c202 :: c203 :: c204 :: c205 :: c206 :: c207 :: c208 :: c209 :: c210 :: c211 :: c212 :: c213 :: c214 :: c215 :: c216 :: c217 :: c218 :: c219 :: c220 :: c221 :: c222 :: c223 :: c224 :: c225 :: c226 :: c227 :: c228 :: c229 :: c230 :: c231 :: c232 :: c233 :: c234 :: c235 :: c236 :: c237 :: c238 :: c239 :: c240 :: c241 :: c242 :: c243 :: c244 :: c245 :: c246 :: c247 :: c248 :: c249 :: c250 :: c251 :: c252 :: c253 :: c254 :: c255 :: c256 :: c257 :: c258 :: c259 :: c260 :: c261 :: c262 :: c263 :: c264 :: c265 :: c266 :: c267 :: c268 :: c269 :: c270 :: c271 :: c272 :: c273 :: c274 :: c275 :: c276 :: c277 :: c278 :: c279 :: c280 :: c281 :: c282 :: c283 :: c284 :: c285 :: c286 :: c287 :: c288 :: c289 :: c290 :: c291 :: c292 :: c293 :: c294 :: c295 :: c296 :: c297 :: c298 :: c299 :: c300 :: c301 :: c302 :: c303 :: c304 :: c305 :: c306 :: c307 :: c308 :: c309 :: c310 :: c311 :: c312 :: c313 :: c314 :: c315 :: c316 :: c317 :: c318 :: c319 :: c320 :: c321 :: c322 :: c323 :: c324 :: c325 :: c326 :: c327 :: c328 :: c329 :: [])), []⟩ w := by
  have HX := hide hexit
  clear hexit
  conv => arg 2; arg 1; whnf
  go_loopw [22] (fun v22 wr => ∃ i : Nat, i ≤ 8 ∧ v22 = .int .i64 (i : Int) ∧ WBlk wr hB ((List.zipWith (· + ·) (hs.take i) (vs.take i)) ++ hs.drop i) ∧ Fr1 hB w wr) (fun v22 _ => 8 - (intOf v22).toNat)
  case atStart => exact ⟨0, by omega, rfl, by simpa using kh, Fr1.refl _ _⟩
  case round =>
    rename World => wr
    obtain ⟨i, hi, rfl, kw, hf⟩ := hrel
    by_cases hlt : i < 8
    · have kv2 : WAt wr vB vs := hf.wat hne (by omega) kv
      obtain ⟨x, hx⟩ : ∃ x, hs[i]'(by omega) = x := ⟨_, rfl⟩
      obtain ⟨y, hy⟩ : ∃ y, vs[i]'(by omega) = y := ⟨_, rfl⟩
      have k1 : wr.cell? ⟨hB, i, none⟩ = some (.int .u32 (x.toNat : Int)) := by
        have := kw.at (i := i) (by simp; omega)
        rw [this]
        simp only [List.getElem_append, List.length_zipWith, List.length_take, List.getElem_drop]
        have e1 : min (min i hs.length) (min i vs.length) = i := by omega
        rw [dif_neg (by omega)]
        simp only [e1, Nat.sub_self, Nat.add_zero, hx]
      have k2 : wr.cell? ⟨vB, i, none⟩ = some (.int .u32 (y.toNat : Int)) := by
        rw [kv2 i (by omega), hy]
      have k3 := kw.free i
      obtain ⟨z, hz⟩ : ∃ z, x + y = z := ⟨_, rfl⟩
      have e1 : ((x.toNat : Int) + (y.toNat : Int)) % 4294967296 = (z.toNat : Int) := by rw [← hz, UInt32.toNat_add]; omega
      have hxl := u32_lt x
      have hyl := u32_lt y
      have HP : Hid (WBlk (wr.setCell ⟨hB, i, none⟩ (.int .u32 (z.toNat : Int))) hB ((List.zipWith (· + ·) (hs.take (i + 1)) (vs.take (i + 1))) ++ hs.drop (i + 1))) := hide (by
        have := WBlk.put (w := wr) kw i z
        rw [← hz, ← hx, ← hy, zip_set (by omega) (by omega)] at this
        rw [← hz, ← hx, ← hy]
        exact this)
      have HF := hide hf
      clear kw hf hx hy hz kv2
      go_wp2
      go_region
      go_wp2
      refine ⟨⟨i + 1, hlt, by push_cast; rfl, unhide HP, ((unhide HF).set i _).drew⟩, ?_⟩
      simp [intOf]
      omega
    · have hi8 : i = 8 := by omega
      subst hi8
      have HK := hide kw
      have HF := hide hf
      clear kw hf
      go_wp2
      refine ⟨rfl, unhide HX _ _ _ _ _ _ _ _ _ _ _ _ _ _ _ _ wr ?_ (unhide HF)⟩
      have := unhide HK
      rw [List.take_of_length_le (by omega), List.take_of_length_le (by omega), List.drop_of_length_le (by omega), List.append_nil] at this
      exact this
end Go.Proofs.YtkablmjkffdloaaGreatDoor

namespace Go.Proofs.YtkablmjkffdloaaGreatDoor
open Go.RowKit

theorem info115 : (Tryz.prog.info? 39).map (fun i => (i.zero, i.size, i.bytes)) = some (some (.int .u32 0), 1, 4) := by kernel_rfl

/-- append of a row of words onto an empty one. -/
theorem app_words {w W1 : World} {hB : Nat} {hs : List UInt32} (hh : hs.length = 8) (kh : WBlk w hB hs) (hW : w.alloc (.cells #[] 39) = W1) :
    ∃ vB vc w', (Builtin.append_ #[129, 129] 129 #[.slice (some ⟨w.heap.size, 0, none⟩) 0 0, .slice (some ⟨hB, 0, none⟩) 8 8]).run Tryz.prog W1 = .ok (.slice (some ⟨vB, 0, none⟩) 8 vc) w' ∧ 8 ≤ vc ∧ vc ≤ 9223372036854775807 ∧ WAt w' vB hs ∧ Below w.heap.size w w' ∧ w.heap.size ≤ vB := by
  obtain ⟨i0, hi, hz0, hz1, hz2⟩ := info_parts info115
  have hb1 : Below w.heap.size w W1 := by rw [← hW]; exact (Below.refl _ _).alloc (Nat.le_refl _) _
  have ho : W1.ownsRow w.heap.size 39 1 (.slice (some ⟨w.heap.size, 0, none⟩) 0 0) 0 [] := by
    refine ⟨rfl, Or.inr ⟨w.heap.size, 0, #[], rfl, Nat.le_refl _, ?_, Nat.le_refl _, by unfold maxLen; omega, rfl, rfl⟩⟩
    rw [← hW]
    exact heap_alloc_new w _
  have kh1 := kh.low hb1
  obtain ⟨v', w', h1, h2, h3, _, h5⟩ := run_append_own_at (P := Tryz.prog) W1 w.heap.size 129 129 39 i0 _ 1 4 Tryz.underlying129 hi hz0 hz1 hz2 rfl (by decide) (.slice (some ⟨w.heap.size, 0, none⟩) 0 0) 0 [] ho ⟨hB, 0, none⟩ 8 8 (hs.map encW) (by simp [hh]) (fun j u hu => by
    have hj : j < hs.length := by
      have := (List.getElem?_eq_some_iff.1 hu).1
      simpa using this
    have e : (⟨hB, 0, none⟩ : Addr).add j = ⟨hB, j, none⟩ := by unfold Addr.add; split <;> simp_all
    rw [e, WBlk.at (l := hs) kh1 hj]
    rw [List.getElem?_map, List.getElem?_eq_getElem hj] at hu
    exact hu) (by
      intro u hu
      obtain ⟨c, _, rfl⟩ := List.mem_map.1 hu
      rfl) (by unfold maxLen; omega) (by omega) hb1.size
  rcases h2.2 with ⟨_, h0⟩ | ⟨g, cap, cur, rfl, hb, hblk, hcap, hcm, hcs, hcur⟩
  · exact absurd h0 (by decide)
  · refine ⟨g, cap, w', h1, by omega, by unfold maxLen at hcm; omega, fun k hk => ?_, ?_, hb⟩
    · have e1 : cur.toList[k]? = (hs.map encW)[k]? := by
        have hc : cur.toList.take 8 = hs.map encW := by simpa using hcur
        rw [← hc, List.getElem?_take_of_lt (by omega)]
      have e2 : cur[k]? = cur.toList[k]? := by simp
      rw [Lib.cell_of_heap hblk, e2, e1]
      simp [hk, encW]
    · refine hb1.trans ⟨h3.os, h3.tape, h3.output, h3.size, fun k hk => h3.block k (Nat.lt_of_lt_of_le hk hb1.size) ?_⟩
      intro hh
      have : (Value.slice (some ⟨w.heap.size, 0, none⟩) 0 0).ownBlock = some w.heap.size := rfl
      rw [this] at hh
      cases hh
      omega

theorem growW_take : ∀ (n : Nat) (l : List UInt32) (j : Nat), j ≤ l.length → (growW n l).take j = l.take j
  | 0, l, j, _ => rfl
  | n + 1, l, j, h => by
    unfold growW
    rw [growW_take n (l ++ [nextW l]) j (by simp; omega), List.take_append_of_le_length h]
theorem growW_at : ∀ (n : Nat) (l : List UInt32) (j : Nat), l.length ≤ j → j < l.length + n → (growW n l)[j]? = some (nextW ((growW n l).take j))
  | 0, l, j, h1, h2 => by omega
  | n + 1, l, j, h1, h2 => by
    unfold growW
    by_cases hj : j = l.length
    · subst hj
      rw [growW_take n _ l.length (by simp), List.take_left]
      have e : ((growW n (l ++ [nextW l])).take (l.length + 1))[l.length]? = (growW n (l ++ [nextW l]))[l.length]? := by
        rw [List.getElem?_take_of_lt (by omega)]
      rw [← e, growW_take n _ (l.length + 1) (by simp)]
      simp
    · exact growW_at n (l ++ [nextW l]) j (by simp; omega) (by simp; omega)

theorem sched_length {b : Bs} (h : b.length = 64) : (sched b).length = 64 := by
  unfold sched
  rw [growW_length, words_length, h]
theorem sched_front {b : Bs} (h : b.length = 64) : (sched b).take 16 = words b := by
  have hw : (words b).length = 16 := by rw [words_length, h]
  unfold sched
  rw [growW_take 48 _ 16 (by omega), ← hw, List.take_length]
theorem sched_step {b : Bs} (h : b.length = 64) (j : Nat) (hj : j + 16 < (sched b).length) : (sched b)[j + 16] = (((sched b)[j] + sg0 (sched b)[j + 1]) + (sched b)[j + 9]) + sg1 (sched b)[j + 14] := by
  have hw : (words b).length = 16 := by rw [words_length, h]
  have hl := sched_length h
  have e := growW_at 48 (words b) (j + 16) (by omega) (by omega)
  have e2 : (sched b)[j + 16]? = some (nextW ((sched b).take (j + 16))) := e
  rw [List.getElem?_eq_getElem hj] at e2
  rw [Option.some.inj e2]
  unfold nextW
  have ht : ((sched b).take (j + 16)).length = j + 16 := by rw [List.length_take]; omega
  have g : ∀ k, (hk : k < j + 16) → ((sched b).take (j + 16)).getD k 0 = (sched b)[k]'(by omega) := by
    intro k hk
    rw [List.getD_eq_getElem?_getD, List.getElem?_take_of_lt hk, List.getElem?_eq_getElem (by omega)]
    rfl
  rw [ht, g _ (by omega), g _ (by omega), g _ (by omega), g _ (by omega)]
  simp only [show j + 16 - 16 = j by omega, show j + 16 - 15 = j + 1 by omega, show j + 16 - 7 = j + 9 by omega, show j + 16 - 2 = j + 14 by omega]

theorem stL_add (s t : St) : List.zipWith (· + ·) (stL s) (stL t) = stL (addS s t) := rfl
theorem stL_len (s : St) : (stL s).length = 8 := rfl
end Go.Proofs.YtkablmjkffdloaaGreatDoor
