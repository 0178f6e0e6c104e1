/-
  The reference's SHA-256: a block's other words.
-/
import Derived.Test.YtkpmbbeidcpclaaDoorRefD
namespace Go.Proofs.YtkpmbbeidcpclaaDoor
open Go.RowKit

noncomputable def body5 : Code := ((Tryd.f55.body.map loopsOf).getD []).getD 4 .skip

theorem turn7 (x : UInt32) (w : World) : Calls Tryd.prog 95 #[.int .u32 (x.toNat : Int), .int .i64 7] w fun e w' => e = .returned (.int .u32 ((rotr x 7).toNat : Int)) ∧ ∃ m, w' = w.drewN m := turn_any x (k := 7) (j := 25) (by decide) (by decide) (by decide) rfl rfl w
theorem turn18 (x : UInt32) (w : World) : Calls Tryd.prog 95 #[.int .u32 (x.toNat : Int), .int .i64 18] w fun e w' => e = .returned (.int .u32 ((rotr x 18).toNat : Int)) ∧ ∃ m, w' = w.drewN m := turn_any x (k := 18) (j := 14) (by decide) (by decide) (by decide) rfl rfl w
theorem turn17 (x : UInt32) (w : World) : Calls Tryd.prog 95 #[.int .u32 (x.toNat : Int), .int .i64 17] w fun e w' => e = .returned (.int .u32 ((rotr x 17).toNat : Int)) ∧ ∃ m, w' = w.drewN m := turn_any x (k := 17) (j := 15) (by decide) (by decide) (by decide) rfl rfl w
theorem turn19 (x : UInt32) (w : World) : Calls Tryd.prog 95 #[.int .u32 (x.toNat : Int), .int .i64 19] w fun e w' => e = .returned (.int .u32 ((rotr x 19).toNat : Int)) ∧ ∃ m, w' = w.drewN m := turn_any x (k := 19) (j := 13) (by decide) (by decide) (by decide) rfl rfl w

theorem WBlk.mid {w : World} {B : Nat} {l m : List UInt32} {i j : Nat} {x : UInt32} (h : WBlk w B (l.take i ++ m.drop i)) (hi : i ≤ l.length) (hj : j < i) (hx : l[j]? = some x) : w.cell? ⟨B, j, none⟩ = some (.int .u32 (x.toNat : Int)) := by
  have := h.at (i := j) (by simp; omega)
  rw [this]
  simp only [List.getElem_append, List.length_take]
  rw [dif_pos (by omega), List.getElem_take]
  rw [List.getElem?_eq_getElem (by omega)] at hx
  rw [Option.some.inj hx]

set_option maxRecDepth 1000000 in
set_option maxHeartbeats 4000000 in
theorem loop5 {c0 c1 c2 c3 c4 c5 c6 c7 c9 c10 c11 c13 c14 c15 c16 c17 c18 c19 c20 c21 c22 c23 c24 c25 c26 c27 c28 c29 c30 c31 c32 c33 c34 c35 c36 c37 c38 c39 c40 c41 c42 c43 c44 c45 c46 c47 c48 c49 c50 c51 c52 c53 c54 c55 c56 c57 c58 c59 c60 c61 c62 c63 c64 c65 c66 c67 c68 c69 c70 c71 c72 c73 c74 c75 c76 c77 c78 c79 c80 c81 c82 c83 c84 c85 c86 c87 c88 c89 c90 c91 c92 c93 c94 c95 c96 c97 c98 c99 c100 c101 c102 c103 c104 c105 c106 c107 c108 c109 c110 c111 c112 c113 c114 c115 c116 c117 c118 c119 c120 c121 c122 c123 c124 c125 c126 c127 c128 c129 c130 c131 c132 c133 c134 c135 c136 c137 c138 c139 c140 c141 c142 c143 c144 c145 c146 c147 c148 c149 c150 c151 c152 c153 c154 c155 c156 c157 c158 c159 c160 c161 c162 c163 c164 c165 c166 c167 c168 c169 c170 c171 c172 c173 c174 c175 c176 c177 c178 c179 c180 c181 c182 c183 c184 c185 c186 c187 c188 c189 c190 c191 c192 c193 c194 c195 c196 c197 c198 c199 c200 c201 c202 c203 c204 c205 c206 c207 c208 c209 c210 c211 c212 c213 c214 c215 c216 c217 c218 c219 c220 c221 c222 c223 c224 c225 c226 c227 c228 c229 c230 c231 c232 c233 c234 c235 c236 c237 c238 c239 c240 c241 c242 c243 c244 c245 c246 c247 c248 c249 c250 c251 c252 c253 c254 c255 c256 c257 c258 c259 c260 c261 c262 c263 c264 c265 c266 c267 c268 c269 c270 c271 c272 c273 c274 c275 c276 c277 c278 c279 c280 c281 c282 c283 c284 c285 c286 c287 c288 c289 c290 c291 c292 c293 c294 c295 c296 c297 c298 c299 c300 c301 c302 c303 c304 c305 c306 c307 c308 c309 c310 c311 c312 c313 c314 c315 c316 c317 c318 c319 c320 c321 c322 c323 c324 c325 c326 c327 c328 c329 : Value} {wB : Nat} {ws nw : List UInt32} {w : World} {Post : Act → World → Prop} (hw : ws.length = 64) (hn : nw.length = 64) (hstep : ∀ j (h : j + 16 < nw.length), nw[j + 16] = ((nw[j] + sg0 nw[j + 1]) + nw[j + 9]) + sg1 nw[j + 14]) (kw : WBlk w wB (nw.take 16 ++ ws.drop 16))
    (hexit : ∀ d13 d14 d101 d102 d103 d104 d105 d106 d107 d108 d109 d110 d111 d112 d113 d114 d115 d116 d117 d118 d119 d120 d121 d122 d123 d124 d125 d126 d127 d128 d129 d130 d131 d132 d133 d134 d135 d136 d137 d138 d139 d140 d141 d142 d143 d144 d145 d146 d147 d148 d149 d150 d151 d152 d153 d154 d155 d156 d157 d158 d159 d160 d161 d162 w', WBlk w' wB nw → Fr1 wB w w' → Post ⟨(List.toArray (c0 :: c1 :: c2 :: c3 :: c4 :: c5 :: c6 :: c7 :: (.slice (some ⟨wB, 0, none⟩) 64 64) :: c9 :: c10 :: c11 :: (.int .i64 64) :: d13 :: d14 :: c15 :: c16 :: c17 :: c18 :: c19 :: c20 :: c21 :: c22 :: c23 :: c24 :: c25 :: c26 :: c27 :: c28 :: c29 :: c30 :: c31 :: c32 :: c33 :: c34 :: c35 :: c36 :: c37 :: c38 :: c39 :: c40 :: c41 :: c42 :: c43 :: c44 :: c45 :: c46 :: c47 :: c48 :: c49 :: c50 :: c51 :: c52 :: c53 :: c54 :: c55 :: c56 :: c57 :: c58 :: c59 :: c60 :: c61 :: c62 :: c63 :: c64 :: c65 :: c66 :: c67 :: c68 :: c69 :: c70 :: c71 :: c72 :: c73 :: c74 :: c75 :: c76 :: c77 :: c78 :: c79 :: c80 :: c81 :: c82 :: c83 :: c84 :: c85 :: c86 :: c87 :: c88 :: c89 :: c90 :: c91 :: c92 :: c93 :: c94 :: c95 :: c96 :: c97 :: c98 :: c99 :: c100 :: d101 :: d102 :: d103 :: d104 :: d105 :: d106 :: d107 :: d108 :: d109 :: d110 :: d111 :: d112 :: d113 :: d114 :: d115 :: d116 :: d117 :: d118 :: d119 :: d120 :: d121 :: d122 :: d123 :: d124 :: d125 :: d126 :: d127 :: d128 :: d129 :: d130 :: d131 :: d132 :: d133 :: d134 :: d135 :: d136 :: d137 :: d138 :: d139 :: d140 :: d141 :: d142 :: d143 :: d144 :: d145 :: d146 :: d147 :: d148 :: d149 :: d150 :: d151 :: d152 :: d153 :: d154 :: d155 :: d156 :: d157 :: d158 :: d159 :: d160 :: d161 :: d162 :: c163 :: c164 :: c165 :: c166 :: c167 :: c168 :: c169 :: c170 :: c171 :: c172 :: c173 :: c174 :: c175 :: c176 :: c177 :: c178 :: c179 :: c180 :: c181 :: c182 :: c183 :: c184 :: c185 :: c186 :: c187 :: c188 :: c189 :: c190 :: c191 :: c192 :: c193 :: c194 :: c195 :: c196 :: c197 :: c198 :: c199 :: c200 :: c201 :: c202 :: c203 :: c204 :: c205 :: c206 :: c207 :: c208 :: c209 :: c210 :: c211 :: c212 :: c213 :: c214 :: c215 :: c216 :: c217 :: c218 :: c219 :: c220 :: c221 :: c222 :: c223 :: c224 :: c225 :: c226 :: c227 :: c228 :: c229 :: c230 :: c231 :: c232 :: c233 :: c234 :: c235 :: c236 :: c237 :: c238 :: c239 :: c240 :: c241 :: c242 :: c243 :: c244 :: c245 :: c246 :: c247 :: c248 :: c249 :: c250 :: c251 :: c252 :: c253 :: c254 :: c255 :: c256 :: c257 :: c258 :: c259 :: c260 :: c261 :: c262 :: c263 :: c264 :: c265 :: c266 :: c267 :: c268 :: c269 :: c270 :: c271 :: c272 :: c273 :: c274 :: c275 :: c276 :: c277 :: c278 :: c279 :: c280 :: c281 :: c282 :: c283 :: c284 :: c285 :: c286 :: c287 :: c288 :: c289 :: c290 :: c291 :: c292 :: c293 :: c294 :: c295 :: c296 :: c297 :: c298 :: c299 :: c300 :: c301 :: c302 :: c303 :: c304 :: c305 :: c306 :: c307 :: c308 :: c309 :: c310 :: c311 :: c312 :: c313 :: c314 :: c315 :: c316 :: c317 :: c318 :: c319 :: c320 :: c321 :: c322 :: c323 :: c324 :: c325 :: c326 :: c327 :: c328 :: c329 :: [])), []⟩ w') :
    Code.wp Tryd.prog (Code.loop body5) (OnExit 8 Post) ⟨(List.toArray (c0 :: c1 :: c2 :: c3 :: c4 :: c5 :: c6 :: c7 :: (.slice (some ⟨wB, 0, none⟩) 64 64) :: c9 :: c10 :: c11 :: (.int .i64 16) :: c13 :: c14 :: c15 :: c16 :: c17 :: c18 :: c19 :: c20 :: c21 :: c22 :: c23 :: c24 :: c25 :: c26 :: c27 :: c28 :: c29 :: c30 :: c31 :: c32 :: c33 :: c34 :: c35 :: c36 :: c37 :: c38 :: c39 :: c40 :: c41 :: c42 :: c43 :: c44 :: c45 :: c46 :: c47 :: c48 :: c49 :: c50 :: c51 :: c52 :: c53 :: c54 :: c55 :: c56 :: c57 :: c58 :: c59 :: c60 :: c61 :: c62 :: c63 :: c64 :: c65 :: c66 :: c67 :: c68 :: c69 :: c70 :: c71 :: c72 :: c73 :: c74 :: c75 :: c76 :: c77 :: c78 :: c79 :: c80 :: c81 :: c82 :: c83 :: c84 :: c85 :: c86 :: c87 :: c88 :: c89 :: c90 :: c91 :: c92 :: c93 :: c94 :: c95 :: c96 :: c97 :: c98 :: c99 :: c100 :: c101 :: c102 :: c103 :: c104 :: c105 :: c106 :: c107 :: c108 :: c109 :: c110 :: c111 :: c112 :: c113 :: c114 :: c115 :: c116 :: c117 :: c118 :: c119 :: c120 :: c121 :: c122 :: c123 :: c124 :: c125 :: c126 :: c127 :: c128 :: c129 :: c130 :: c131 :: c132 :: c133 :: c134 :: c135 :: c136 :: c137 :: c138 :: c139 :: c140 :: c141 :: c142 :: c143 :: c144 :: c145 :: c146 :: c147 :: c148 :: c149 :: c150 :: c151 :: c152 :: c153 :: c154 :: c155 :: c156 :: c157 :: c158 :: c159 :: c160 :: c161 :: c162 :: c163 :: c164 :: c165 :: c166 :: c167 :: c168 :: c169 :: c170 :: c171 :: c172 :: c173 :: c174 :: c175 :: c176 :: c177 :: c178 :: c179 :: c180 :: c181 :: c182 :: c183 :: c184 :: c185 :: c186 :: c187 :: c188 :: c189 :: c190 :: c191 :: c192 :: c193 :: c194 :: c195 :: c196 :: c197 :: c198 :: c199 :: c200 :: c201 :: c202 :: c203 :: c204 :: c205 :: c206 :: c207 :: c208 :: c209 :: c210 :: c211 :: c212 :: c213 :: c214 :: c215 :: c216 :: c217 :: c218 :: c219 :: c220 :: c221 :: c222 :: c223 :: c224 :: c225 :: c226 :: c227 :: c228 :: c229 :: c230 :: c231 :: c232 :: c233 :: c234 :: c235 :: c236 :: c237 :: c238 :: c239 :: c240 :: c241 :: c242 :: c243 :: c244 :: c245 :: c246 :: c247 :: c248 :: c249 :: c250 :: c251 :: c252 :: c253 :: c254 :: c255 :: c256 :: c257 :: c258 :: c259 :: c260 :: c261 :: c262 :: c263 :: c264 :: c265 :: c266 :: c267 :: c268 :: c269 :: c270 :: c271 :: c272 :: c273 :: c274 :: c275 :: c276 :: c277 :: c278 :: c279 :: c280 :: c281 :: c282 :: c283 :: c284 :: c285 :: c286 :: c287 :: c288 :: c289 :: c290 :: c291 :: c292 :: c293 :: c294 :: c295 :: c296 :: c297 :: c298 :: c299 :: c300 :: c301 :: c302 :: c303 :: c304 :: c305 :: c306 :: c307 :: c308 :: c309 :: c310 :: c311 :: c312 :: c313 :: c314 :: c315 :: c316 :: c317 :: c318 :: c319 :: c320 :: c321 :: c322 :: c323 :: c324 :: c325 :: c326 :: c327 :: c328 :: c329 :: [])), []⟩ w := by
  have HX := hide hexit
  have HS := hide hstep
  clear hexit hstep
  conv => arg 2; arg 1; whnf
  go_loopw [12, 13, 14] (fun v12 _ _ wr => ∃ i : Nat, i + 16 ≤ 64 ∧ v12 = .int .i64 ((i + 16 : Nat) : Int) ∧ WBlk wr wB (nw.take (i + 16) ++ ws.drop (i + 16)) ∧ Fr1 wB w wr) (fun v12 _ _ _ => 64 - (intOf v12).toNat)
  case atStart => exact ⟨0, by omega, rfl, kw, Fr1.refl _ _⟩
  case round =>
    rename World => wr
    clear kw
    obtain ⟨i, hi, rfl, kr, hf⟩ := hrel
    by_cases hlt : i + 16 < 64
    · obtain ⟨n, hn16⟩ : ∃ n, i + 16 = n := ⟨_, rfl⟩
      obtain ⟨x0, hx0⟩ : ∃ x, nw[i]'(by omega) = x := ⟨_, rfl⟩
      obtain ⟨x1, hx1⟩ : ∃ x, nw[i + 1]'(by omega) = x := ⟨_, rfl⟩
      obtain ⟨x9, hx9⟩ : ∃ x, nw[i + 9]'(by omega) = x := ⟨_, rfl⟩
      obtain ⟨x14, hx14⟩ : ∃ x, nw[i + 14]'(by omega) = x := ⟨_, rfl⟩
      obtain ⟨j1, hj1⟩ : ∃ j, i + 1 = j := ⟨_, rfl⟩
      obtain ⟨j9, hj9⟩ : ∃ j, i + 9 = j := ⟨_, rfl⟩
      obtain ⟨j14, hj14⟩ : ∃ j, i + 14 = j := ⟨_, rfl⟩
      have hst := unhide HS i (by omega)
      rw [hx0, hx1, hx9, hx14] at hst
      have k0 := kr.mid (j := i) (x := x0) (by omega) (by omega) (by rw [List.getElem?_eq_getElem (by omega), hx0])
      have k1 := kr.mid (j := j1) (x := x1) (by omega) (by omega) (by rw [← hj1, List.getElem?_eq_getElem (by omega), hx1])
      have k9 := kr.mid (j := j9) (x := x9) (by omega) (by omega) (by rw [← hj9, List.getElem?_eq_getElem (by omega), hx9])
      have k14 := kr.mid (j := j14) (x := x14) (by omega) (by omega) (by rw [← hj14, List.getElem?_eq_getElem (by omega), hx14])
      have kf := kr.free n
      obtain ⟨old, kold⟩ : ∃ old : UInt32, wr.cell? ⟨wB, n, none⟩ = some (.int .u32 (old.toNat : Int)) := ⟨_, kr.at (i := n) (by simp; omega)⟩
      rw [hn16]
      have i15 : (n : Int) - 15 = (j1 : Int) := by omega
      have i2 : (n : Int) - 2 = (j14 : Int) := by omega
      have i16 : (n : Int) - 16 = (i : Int) := by omega
      have i7 : (n : Int) - 7 = (j9 : Int) := by omega
      obtain ⟨s0, hs0⟩ : ∃ s, sg0 x1 = s := ⟨_, rfl⟩
      obtain ⟨s1, hs1⟩ : ∃ s, sg1 x14 = s := ⟨_, rfl⟩
      have e0 := sg0_eq x1
      have e1 := sg1_eq x14
      rw [hs0] at e0 hst
      rw [hs1] at e1 hst
      obtain ⟨z, hz⟩ : ∃ z, ((x0 + s0) + x9) + s1 = z := ⟨_, rfl⟩
      have e2 := madd4 x0 s0 x9 s1
      rw [hz] at e2 hst
      have HP : Hid (WBlk (wr.setCell ⟨wB, n, none⟩ (.int .u32 (z.toNat : Int))) wB (nw.take (i + 1 + 16) ++ ws.drop (i + 1 + 16))) := hide (by
        have := WBlk.put (w := wr) kr (i + 16) z
        rw [← hst, put_next (by omega) (by omega)] at this
        rw [← hn16, ← hst, show i + 1 + 16 = i + 16 + 1 by omega]
        exact this)
      have HF := hide hf
      have b0 := u32_lt x0
      have b1 := u32_lt x1
      have b9 := u32_lt x9
      have b14 := u32_lt x14
      have bs0 := u32_lt s0
      have bs1 := u32_lt s1
      have hn64 : n < 64 := by omega
      have hj1b : j1 < 64 := by omega
      have hj9b : j9 < 64 := by omega
      have hj14b : j14 < 64 := by omega
      have hib : i < 64 := by omega
      have HN : Hid (i + 16 = n) := hide hn16
      have ij1 : (j1 : Int) < 64 := by omega
      have ij9 : (j9 : Int) < 64 := by omega
      have ij14 : (j14 : Int) < 64 := by omega
      have ii : (i : Int) < 64 := by omega
      have iin : (n : Int) < 64 := by omega
      have wj1 := wrapI j1 (by omega)
      have wj9 := wrapI j9 (by omega)
      have wj14 : IntKind.i64.wrap (j14 : Int) = (j14 : Int) := wrapI j14 (by omega)
      have wi := wrapI i (by omega)
      clear kr hf hz hst hs0 hs1 hx0 hx1 hx9 hx14 hj1 hj9 hj14 hn16 hlt hi hw HS hn
      go_wp2
      go_quiet ((first | (go_at_call_of 95 (Value.int IntKind.i64 7); exact Calls.quiet_of (turn7 x1 _)) | (go_at_call_of 95 (Value.int IntKind.i64 18); exact Calls.quiet_of (turn18 x1 _))))
      obtain ⟨wa, hw_wa⟩ : ∃ W, wr.drewN nq = W := ⟨_, rfl⟩
      rw [hw_wa]
      replace k0 : wa.cell? ⟨wB, i, none⟩ = some (.int .u32 (x0.toNat : Int)) := by rw [← hw_wa]; exact k0
      replace k9 : wa.cell? ⟨wB, j9, none⟩ = some (.int .u32 (x9.toNat : Int)) := by rw [← hw_wa]; exact k9
      replace k14 : wa.cell? ⟨wB, j14, none⟩ = some (.int .u32 (x14.toNat : Int)) := by rw [← hw_wa]; exact k14
      replace kold : wa.cell? ⟨wB, n, none⟩ = some (.int .u32 (old.toNat : Int)) := by rw [← hw_wa]; exact kold
      replace kf : wa.frozen? ⟨wB, n, none⟩ = false := by rw [← hw_wa]; exact kf
      replace HP : Hid (WBlk (wa.setCell ⟨wB, n, none⟩ (.int .u32 (z.toNat : Int))) wB (nw.take (i + 1 + 16) ++ ws.drop (i + 1 + 16))) := hide (by rw [← hw_wa]; exact unhide HP)
      replace HF : Hid (Fr1 wB w wa) := hide (by rw [← hw_wa]; exact (unhide HF).drewN _)
      clear hw_wa
      clear k1
      go_wp2
      go_quiet ((first | (go_at_call_of 95 (Value.int IntKind.i64 17); exact Calls.quiet_of (turn17 x14 _)) | (go_at_call_of 95 (Value.int IntKind.i64 19); exact Calls.quiet_of (turn19 x14 _))))
      obtain ⟨wb, hw_wb⟩ : ∃ W, wa.drewN nq = W := ⟨_, rfl⟩
      rw [hw_wb]
      replace k0 : wb.cell? ⟨wB, i, none⟩ = some (.int .u32 (x0.toNat : Int)) := by rw [← hw_wb]; exact k0
      replace k9 : wb.cell? ⟨wB, j9, none⟩ = some (.int .u32 (x9.toNat : Int)) := by rw [← hw_wb]; exact k9
      replace k14 : wb.cell? ⟨wB, j14, none⟩ = some (.int .u32 (x14.toNat : Int)) := by rw [← hw_wb]; exact k14
      replace kold : wb.cell? ⟨wB, n, none⟩ = some (.int .u32 (old.toNat : Int)) := by rw [← hw_wb]; exact kold
      replace kf : wb.frozen? ⟨wB, n, none⟩ = false := by rw [← hw_wb]; exact kf
      replace HP : Hid (WBlk (wb.setCell ⟨wB, n, none⟩ (.int .u32 (z.toNat : Int))) wB (nw.take (i + 1 + 16) ++ ws.drop (i + 1 + 16))) := hide (by rw [← hw_wb]; exact unhide HP)
      replace HF : Hid (Fr1 wB w wb) := hide (by rw [← hw_wb]; exact (unhide HF).drewN _)
      clear hw_wb
      go_wp2
      go_region
      go_wp2
      have hN := unhide HN
      refine ⟨⟨i + 1, by omega, by rw [← hN]; push_cast; congr 1, unhide HP, ((unhide HF).set n _).drew⟩, ?_⟩
      simp [intOf]
      omega
    · have hi8 : i = 48 := by omega
      subst hi8
      have HK := hide kr
      have HF := hide hf
      clear kr hf
      go_wp2
      refine ⟨rfl, unhide HX _ _ _ _ _ _ _ _ _ _ _ _ _ _ _ _ _ _ _ _ _ _ _ _ _ _ _ _ _ _ _ _ _ _ _ _ _ _ _ _ _ _ _ _ _ _ _ _ _ _ _ _ _ _ _ _ _ _ _ _ _ _ _ _ wr ?_ (unhide HF)⟩
      have := unhide HK
      rw [List.take_of_length_le (by omega), List.drop_of_length_le (by omega), List.append_nil] at this
      exact this
end Go.Proofs.YtkpmbbeidcpclaaDoor
