/-
  The reference's SHA-256: a block's first sixteen words.
-/
import Derived.Test.YtkpmbbeidcpclaaDoorRefA
import Derived.BigRegion
namespace Go.Proofs.YtkpmbbeidcpclaaDoor
open Go.RowKit

noncomputable def body4 : Code := ((Tryd.f55.body.map loopsOf).getD []).getD 3 .skip

theorem be_spell (a b c d : UInt8) : ∃ A B C AB ABC : UInt32, (a.toNat : Int) * 16777216 = (A.toNat : Int) ∧ (b.toNat : Int) * 65536 = (B.toNat : Int) ∧ (c.toNat : Int) * 256 = (C.toNat : Int) ∧
    bits .or .u32 (A.toNat : Int) (B.toNat : Int) = (AB.toNat : Int) ∧ bits .or .u32 (AB.toNat : Int) (C.toNat : Int) = (ABC.toNat : Int) ∧ bits .or .u32 (ABC.toNat : Int) (d.toNat : Int) = ((be32 a b c d).toNat : Int) := by
  refine ⟨a.toUInt32 <<< 24, b.toUInt32 <<< 16, c.toUInt32 <<< 8, _, _, ?_, ?_, ?_, bor _ _, bor _ _, ?_⟩
  · have h := shlN a.toUInt32 (k := 24) (p := 16777216) (by decide) (by decide)
    have hb := u8_lt a
    rw [← u8_32] at h
    have e : ((a.toNat : Int) * ((16777216 : Nat) : Int)) % 4294967296 = (a.toNat : Int) * 16777216 := by omega
    rw [← e, h]; rfl
  · have h := shlN b.toUInt32 (k := 16) (p := 65536) (by decide) (by decide)
    have hb := u8_lt b
    rw [← u8_32] at h
    have e : ((b.toNat : Int) * ((65536 : Nat) : Int)) % 4294967296 = (b.toNat : Int) * 65536 := by omega
    rw [← e, h]; rfl
  · have h := shlN c.toUInt32 (k := 8) (p := 256) (by decide) (by decide)
    have hb := u8_lt c
    rw [← u8_32] at h
    have e : ((c.toNat : Int) * ((256 : Nat) : Int)) % 4294967296 = (c.toNat : Int) * 256 := by omega
    rw [← e, h]; rfl
  · rw [u8_32 d, bor]; rfl

theorem put_next {l m : List UInt32} {i : Nat} (hl : l.length = m.length) (hi : i < l.length) : (l.take i ++ m.drop i).set i l[i] = l.take (i + 1) ++ m.drop (i + 1) := by
  apply List.ext_getElem
  · simp; omega
  · intro k h1 h2
    simp only [List.getElem_set, List.getElem_append, List.length_take, List.getElem_take, List.getElem_drop]
    have e1 : min i l.length = i := by omega
    have e2 : min (i + 1) l.length = i + 1 := by omega
    by_cases hk : i = k
    · subst hk
      simp [e2]
    · by_cases hlt : k < i
      · simp [hk, e1, e2, hlt, show k < i + 1 by omega]
      · have e3 : ¬ k < i + 1 := by omega
        simp only [hk, e1, e2, hlt, e3, if_false, dif_neg, not_false_eq_true]
        congr 1
        omega

set_option maxRecDepth 1000000 in
set_option maxHeartbeats 4000000 in
theorem loop4 {c0 c1 c2 c3 c4 c6 c7 c11 c12 c13 c14 c15 c16 c17 c18 c19 c20 c21 c22 c23 c24 c25 c26 c27 c28 c29 c30 c31 c32 c33 c34 c35 c36 c37 c38 c39 c40 c41 c42 c43 c44 c45 c46 c47 c48 c49 c50 c51 c52 c53 c54 c55 c56 c57 c58 c59 c60 c61 c62 c63 c64 c65 c66 c67 c68 c69 c70 c71 c72 c73 c74 c75 c76 c77 c78 c79 c80 c81 c82 c83 c84 c85 c86 c87 c88 c89 c90 c91 c92 c93 c94 c95 c96 c97 c98 c99 c100 c101 c102 c103 c104 c105 c106 c107 c108 c109 c110 c111 c112 c113 c114 c115 c116 c117 c118 c119 c120 c121 c122 c123 c124 c125 c126 c127 c128 c129 c130 c131 c132 c133 c134 c135 c136 c137 c138 c139 c140 c141 c142 c143 c144 c145 c146 c147 c148 c149 c150 c151 c152 c153 c154 c155 c156 c157 c158 c159 c160 c161 c162 c163 c164 c165 c166 c167 c168 c169 c170 c171 c172 c173 c174 c175 c176 c177 c178 c179 c180 c181 c182 c183 c184 c185 c186 c187 c188 c189 c190 c191 c192 c193 c194 c195 c196 c197 c198 c199 c200 c201 c202 c203 c204 c205 c206 c207 c208 c209 c210 c211 c212 c213 c214 c215 c216 c217 c218 c219 c220 c221 c222 c223 c224 c225 c226 c227 c228 c229 c230 c231 c232 c233 c234 c235 c236 c237 c238 c239 c240 c241 c242 c243 c244 c245 c246 c247 c248 c249 c250 c251 c252 c253 c254 c255 c256 c257 c258 c259 c260 c261 c262 c263 c264 c265 c266 c267 c268 c269 c270 c271 c272 c273 c274 c275 c276 c277 c278 c279 c280 c281 c282 c283 c284 c285 c286 c287 c288 c289 c290 c291 c292 c293 c294 c295 c296 c297 c298 c299 c300 c301 c302 c303 c304 c305 c306 c307 c308 c309 c310 c311 c312 c313 c314 c315 c316 c317 c318 c319 c320 c321 c322 c323 c324 c325 c326 c327 c328 c329 : Value} {mB wB ml mc at0 : Nat} {bl : Bs} {ws nw : List UInt32} {w : World} {Post : Act → World → Prop} (hb : bl.length = 64) (hw : ws.length = 64) (hn : nw.length = 64) (hnw : nw.take 16 = words bl) (hml : at0 + 64 ≤ ml) (hmx : ml ≤ 4294967296) (hne : mB ≠ wB) (km : ∀ k (hk : k < bl.length), w.cell? ⟨mB, at0 + k, none⟩ = some (.int .u8 (bl[k].toNat : Int))) (hmw : mB < w.heap.size) (kw : WBlk w wB ws)
    (hexit : ∀ d11 d61 d62 d63 d64 d65 d66 d67 d68 d69 d70 d71 d72 d73 d74 d75 d76 d77 d78 d79 d80 d81 d82 d83 d84 d85 d86 d87 d88 d89 d90 d91 d92 d93 d94 d95 d96 d97 d98 d99 d100 w', WBlk w' wB (nw.take 16 ++ ws.drop 16) → Fr1 wB w w' → Post ⟨(List.toArray (c0 :: c1 :: c2 :: c3 :: c4 :: (.slice (some ⟨mB, 0, none⟩) ml mc) :: c6 :: c7 :: (.slice (some ⟨wB, 0, none⟩) 64 64) :: (.int .i64 (at0 : Int)) :: (.int .i64 16) :: d11 :: c12 :: c13 :: c14 :: c15 :: c16 :: c17 :: c18 :: c19 :: c20 :: c21 :: c22 :: c23 :: c24 :: c25 :: c26 :: c27 :: c28 :: c29 :: c30 :: c31 :: c32 :: c33 :: c34 :: c35 :: c36 :: c37 :: c38 :: c39 :: c40 :: c41 :: c42 :: c43 :: c44 :: c45 :: c46 :: c47 :: c48 :: c49 :: c50 :: c51 :: c52 :: c53 :: c54 :: c55 :: c56 :: c57 :: c58 :: c59 :: c60 :: d61 :: d62 :: d63 :: d64 :: d65 :: d66 :: d67 :: d68 :: d69 :: d70 :: d71 :: d72 :: d73 :: d74 :: d75 :: d76 :: d77 :: d78 :: d79 :: d80 :: d81 :: d82 :: d83 :: d84 :: d85 :: d86 :: d87 :: d88 :: d89 :: d90 :: d91 :: d92 :: d93 :: d94 :: d95 :: d96 :: d97 :: d98 :: d99 :: d100 :: c101 :: c102 :: c103 :: c104 :: c105 :: c106 :: c107 :: c108 :: c109 :: c110 :: c111 :: c112 :: c113 :: c114 :: c115 :: c116 :: c117 :: c118 :: c119 :: c120 :: c121 :: c122 :: c123 :: c124 :: c125 :: c126 :: c127 :: c128 :: c129 :: c130 :: c131 :: c132 :: c133 :: c134 :: c135 :: c136 :: c137 :: c138 :: c139 :: c140 :: c141 :: c142 :: c143 :: c144 :: c145 :: c146 :: c147 :: c148 :: c149 :: c150 :: c151 :: c152 :: c153 :: c154 :: c155 :: c156 :: c157 :: c158 :: c159 :: c160 :: c161 :: c162 :: c163 :: c164 :: c165 :: c166 :: c167 :: c168 :: c169 :: c170 :: c171 :: c172 :: c173 :: c174 :: c175 :: c176 :: c177 :: c178 :: c179 :: c180 :: c181 :: c182 :: c183 :: c184 :: c185 :: c186 :: c187 :: c188 :: c189 :: c190 :: c191 :: c192 :: c193 :: c194 :: c195 :: c196 :: c197 :: c198 :: c199 :: c200 :: c201 :: c202 :: c203 :: c204 :: c205 :: c206 :: c207 :: c208 :: c209 :: c210 :: c211 :: c212 :: c213 :: c214 :: c215 :: c216 :: c217 :: c218 :: c219 :: c220 :: c221 :: c222 :: c223 :: c224 :: c225 :: c226 :: c227 :: c228 :: c229 :: c230 :: c231 :: c232 :: c233 :: c234 :: c235 :: c236 :: c237 :: c238 :: c239 :: c240 :: c241 :: c242 :: c243 :: c244 :: c245 :: c246 :: c247 :: c248 :: c249 :: c250 :: c251 :: c252 :: c253 :: c254 :: c255 :: c256 :: c257 :: c258 :: c259 :: c260 :: c261 :: c262 :: c263 :: c264 :: c265 :: c266 :: c267 :: c268 :: c269 :: c270 :: c271 :: c272 :: c273 :: c274 :: c275 :: c276 :: c277 :: c278 :: c279 :: c280 :: c281 :: c282 :: c283 :: c284 :: c285 :: c286 :: c287 :: c288 :: c289 :: c290 :: c291 :: c292 :: c293 :: c294 :: c295 :: c296 :: c297 :: c298 :: c299 :: c300 :: c301 :: c302 :: c303 :: c304 :: c305 :: c306 :: c307 :: c308 :: c309 :: c310 :: c311 :: c312 :: c313 :: c314 :: c315 :: c316 :: c317 :: c318 :: c319 :: c320 :: c321 :: c322 :: c323 :: c324 :: c325 :: c326 :: c327 :: c328 :: c329 :: [])), []⟩ w') :
    Code.wp Tryd.prog (Code.loop body4) (OnExit 6 Post) ⟨(List.toArray (c0 :: c1 :: c2 :: c3 :: c4 :: (.slice (some ⟨mB, 0, none⟩) ml mc) :: c6 :: c7 :: (.slice (some ⟨wB, 0, none⟩) 64 64) :: (.int .i64 (at0 : Int)) :: (.int .i64 0) :: c11 :: c12 :: c13 :: c14 :: c15 :: c16 :: c17 :: c18 :: c19 :: c20 :: c21 :: c22 :: c23 :: c24 :: c25 :: c26 :: c27 :: c28 :: c29 :: c30 :: c31 :: c32 :: c33 :: c34 :: c35 :: c36 :: c37 :: c38 :: c39 :: c40 :: c41 :: c42 :: c43 :: c44 :: c45 :: c46 :: c47 :: c48 :: c49 :: c50 :: c51 :: c52 :: c53 :: c54 :: c55 :: c56 :: c57 :: c58 :: c59 :: c60 :: c61 :: c62 :: c63 :: c64 :: c65 :: c66 :: c67 :: c68 :: c69 :: c70 :: c71 :: c72 :: c73 :: c74 :: c75 :: c76 :: c77 :: c78 :: c79 :: c80 :: c81 :: c82 :: c83 :: c84 :: c85 :: c86 :: c87 :: c88 :: c89 :: c90 :: c91 :: c92 :: c93 :: c94 :: c95 :: c96 :: c97 :: c98 :: c99 :: c100 :: c101 :: c102 :: c103 :: c104 :: c105 :: c106 :: c107 :: c108 :: c109 :: c110 :: c111 :: c112 :: c113 :: c114 :: c115 :: c116 :: c117 :: c118 :: c119 :: c120 :: c121 :: c122 :: c123 :: c124 :: c125 :: c126 :: c127 :: c128 :: c129 :: c130 :: c131 :: c132 :: c133 :: c134 :: c135 :: c136 :: c137 :: c138 :: c139 :: c140 :: c141 :: c142 :: c143 :: c144 :: c145 :: c146 :: c147 :: c148 :: c149 :: c150 :: c151 :: c152 :: c153 :: c154 :: c155 :: c156 :: c157 :: c158 :: c159 :: c160 :: c161 :: c162 :: c163 :: c164 :: c165 :: c166 :: c167 :: c168 :: c169 :: c170 :: c171 :: c172 :: c173 :: c174 :: c175 :: c176 :: c177 :: c178 :: c179 :: c180 :: c181 :: c182 :: c183 :: c184 :: c185 :: c186 :: c187 :: c188 :: c189 :: c190 :: c191 :: c192 :: c193 :: c194 :: c195 :: c196 :: c197 :: c198 :: c199 :: c200 :: c201 :: c202 :: c203 :: c204 :: c205 :: c206 :: c207 :: c208 :: c209 :: c210 :: c211 :: c212 :: c213 :: c214 :: c215 :: c216 :: c217 :: c218 :: c219 :: c220 :: c221 :: c222 :: c223 :: c224 :: c225 :: c226 :: c227 :: c228 :: c229 :: c230 :: c231 :: c232 :: c233 :: c234 :: c235 :: c236 :: c237 :: c238 :: c239 :: c240 :: c241 :: c242 :: c243 :: c244 :: c245 :: c246 :: c247 :: c248 :: c249 :: c250 :: c251 :: c252 :: c253 :: c254 :: c255 :: c256 :: c257 :: c258 :: c259 :: c260 :: c261 :: c262 :: c263 :: c264 :: c265 :: c266 :: c267 :: c268 :: c269 :: c270 :: c271 :: c272 :: c273 :: c274 :: c275 :: c276 :: c277 :: c278 :: c279 :: c280 :: c281 :: c282 :: c283 :: c284 :: c285 :: c286 :: c287 :: c288 :: c289 :: c290 :: c291 :: c292 :: c293 :: c294 :: c295 :: c296 :: c297 :: c298 :: c299 :: c300 :: c301 :: c302 :: c303 :: c304 :: c305 :: c306 :: c307 :: c308 :: c309 :: c310 :: c311 :: c312 :: c313 :: c314 :: c315 :: c316 :: c317 :: c318 :: c319 :: c320 :: c321 :: c322 :: c323 :: c324 :: c325 :: c326 :: c327 :: c328 :: c329 :: [])), []⟩ w := by
  have HX := hide hexit
  have HNW := hide hnw
  have HMC := hide km
  clear hexit hnw km
  conv => arg 2; arg 1; whnf
  go_loopw [10, 11] (fun v10 _ wr => ∃ i : Nat, i ≤ 16 ∧ v10 = .int .i64 (i : Int) ∧ WBlk wr wB (nw.take i ++ ws.drop i) ∧ Fr1 wB w wr) (fun v10 _ _ => 16 - (intOf v10).toNat)
  case atStart => exact ⟨0, by omega, rfl, by simpa using kw, Fr1.refl _ _⟩
  case round =>
    rename World => wr
    obtain ⟨i, hi, rfl, kr, hf⟩ := hrel
    by_cases hlt : i < 16
    · have hcell : ∀ k (hk : k < bl.length), wr.cell? ⟨mB, at0 + k, none⟩ = some (.int .u8 (bl[k].toNat : Int)) := fun k hk => (World.cell?_of_block (hf.block mB hmw hne)).trans (unhide HMC k hk)
      obtain ⟨p, hp⟩ : ∃ p, at0 + 4 * i = p := ⟨_, rfl⟩
      obtain ⟨q, hq⟩ : ∃ q, 4 * i = q := ⟨_, rfl⟩
      have q0 : 4 * (i : Int) = (q : Int) := by omega
      have q1 : (at0 : Int) + (q : Int) = (p : Int) := by omega
      obtain ⟨a, ha⟩ : ∃ a, bl[4 * i]'(by omega) = a := ⟨_, rfl⟩
      obtain ⟨b, hbb⟩ : ∃ b, bl[4 * i + 1]'(by omega) = b := ⟨_, rfl⟩
      obtain ⟨c, hc⟩ : ∃ c, bl[4 * i + 2]'(by omega) = c := ⟨_, rfl⟩
      obtain ⟨dd, hd⟩ : ∃ dd, bl[4 * i + 3]'(by omega) = dd := ⟨_, rfl⟩
      have k0 : wr.cell? ⟨mB, p, none⟩ = some (.int .u8 (a.toNat : Int)) := by rw [← hp, hcell _ (by omega), ha]
      have k1 : wr.cell? ⟨mB, p + 1, none⟩ = some (.int .u8 (b.toNat : Int)) := by rw [← hp, Nat.add_assoc, hcell _ (by omega), hbb]
      have k2 : wr.cell? ⟨mB, p + 2, none⟩ = some (.int .u8 (c.toNat : Int)) := by rw [← hp, Nat.add_assoc, hcell _ (by omega), hc]
      have k3 : wr.cell? ⟨mB, p + 3, none⟩ = some (.int .u8 (dd.toNat : Int)) := by rw [← hp, Nat.add_assoc, hcell _ (by omega), hd]
      have kf := kr.free i
      obtain ⟨old, kold⟩ : ∃ old : UInt32, wr.cell? ⟨wB, i, none⟩ = some (.int .u32 (old.toNat : Int)) := ⟨_, kr.at (i := i) (by simp; omega)⟩
      obtain ⟨A, B, C, AB, ABC, e1, e2, e3, e4, e5, e6⟩ := be_spell a b c dd
      obtain ⟨x, hx⟩ : ∃ x, be32 a b c dd = x := ⟨_, rfl⟩
      rw [hx] at e6
      have hnx : nw[i]'(by omega) = x := by
        have h1 : (words bl)[i]? = some (be32 a b c dd) := by
          rw [words_at bl i (by omega), ha, hbb, hc, hd]
        rw [← unhide HNW, List.getElem?_take, if_pos hlt, List.getElem?_eq_getElem (by omega), hx] at h1
        exact Option.some.inj h1
      have HP : Hid (WBlk (wr.setCell ⟨wB, i, none⟩ (.int .u32 (x.toNat : Int))) wB (nw.take (i + 1) ++ ws.drop (i + 1))) := hide (by
        have := WBlk.put (w := wr) kr i x
        rw [← hnx, put_next (by omega) (by omega)] at this
        rw [← hnx]
        exact this)
      have HF := hide hf
      have p1 : p + 3 < ml := by omega
      have p2 : p ≤ 4294967296 := by omega
      have ba := u8_lt a
      have bb := u8_lt b
      have bc := u8_lt c
      have bd := u8_lt dd
      clear kr hf hx hnx hcell hp hq ha hbb hc hd hb hw hn
      go_wp2
      go_region
      go_wp2
      refine ⟨⟨i + 1, hlt, by push_cast; rfl, unhide HP, ((unhide HF).set i _).drew⟩, ?_⟩
      simp [intOf]
      omega
    · have hi8 : i = 16 := by omega
      subst hi8
      have HK := hide kr
      have HF := hide hf
      clear kr hf
      go_wp2
      refine ⟨rfl, unhide HX _ _ _ _ _ _ _ _ _ _ _ _ _ _ _ _ _ _ _ _ _ _ _ _ _ _ _ _ _ _ _ _ _ _ _ _ _ _ _ _ _ wr (unhide HK) (unhide HF)⟩
end Go.Proofs.YtkpmbbeidcpclaaDoor
