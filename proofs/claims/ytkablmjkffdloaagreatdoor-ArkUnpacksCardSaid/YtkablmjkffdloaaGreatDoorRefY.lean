/-
  The reference's SHA-256: what is answered.
-/
import Derived.Test.YtkablmjkffdloaaGreatDoorRefQ
import Derived.Test.YtkablmjkffdloaaGreatDoorLow
import Derived.Deep.RegionHeld3
import Derived.Deep.RegionLaw
namespace Go.Proofs.YtkablmjkffdloaaGreatDoor
open Go.RowKit

noncomputable def body6 : Code := ((Tryz.f28.body.map loopsOf).getD []).getD 5 .skip
theorem turn6 (x : UInt32) (w : World) : Calls Tryz.prog 89 #[.int .u32 (x.toNat : Int), .int .i64 6] w fun e w' => e = .returned (.int .u32 ((rotr x 6).toNat : Int)) ∧ ∃ m, w' = w.drewN m := turn_any x (k := 6) (j := 26) (by decide) (by decide) (by decide) rfl rfl w
theorem turn11 (x : UInt32) (w : World) : Calls Tryz.prog 89 #[.int .u32 (x.toNat : Int), .int .i64 11] w fun e w' => e = .returned (.int .u32 ((rotr x 11).toNat : Int)) ∧ ∃ m, w' = w.drewN m := turn_any x (k := 11) (j := 21) (by decide) (by decide) (by decide) rfl rfl w
theorem turn25 (x : UInt32) (w : World) : Calls Tryz.prog 89 #[.int .u32 (x.toNat : Int), .int .i64 25] w fun e w' => e = .returned (.int .u32 ((rotr x 25).toNat : Int)) ∧ ∃ m, w' = w.drewN m := turn_any x (k := 25) (j := 7) (by decide) (by decide) (by decide) rfl rfl w
theorem turn2 (x : UInt32) (w : World) : Calls Tryz.prog 89 #[.int .u32 (x.toNat : Int), .int .i64 2] w fun e w' => e = .returned (.int .u32 ((rotr x 2).toNat : Int)) ∧ ∃ m, w' = w.drewN m := turn_any x (k := 2) (j := 30) (by decide) (by decide) (by decide) rfl rfl w
theorem turn13 (x : UInt32) (w : World) : Calls Tryz.prog 89 #[.int .u32 (x.toNat : Int), .int .i64 13] w fun e w' => e = .returned (.int .u32 ((rotr x 13).toNat : Int)) ∧ ∃ m, w' = w.drewN m := turn_any x (k := 13) (j := 19) (by decide) (by decide) (by decide) rfl rfl w
theorem turn22 (x : UInt32) (w : World) : Calls Tryz.prog 89 #[.int .u32 (x.toNat : Int), .int .i64 22] w fun e w' => e = .returned (.int .u32 ((rotr x 22).toNat : Int)) ∧ ∃ m, w' = w.drewN m := turn_any x (k := 22) (j := 10) (by decide) (by decide) (by decide) rfl rfl w

theorem rnds_snoc : ∀ (i : Nat) (s : St) (ks ws : List UInt32) (h1 : i < ks.length) (h2 : i < ws.length), rnds s (ks.take (i + 1)) (ws.take (i + 1)) = rnd (rnds s (ks.take i) (ws.take i)) ks[i] ws[i]
  | 0, s, k :: ks, x :: ws, _, _ => by simp [rnds]
  | i + 1, s, k :: ks, x :: ws, h1, h2 => by
    simp only [List.take_succ_cons, rnds, List.getElem_cons_succ]
    exact rnds_snoc i (rnd s k x) ks ws (by simpa using h1) (by simpa using h2)

set_option maxRecDepth 1000000 in
set_option maxHeartbeats 4000000 in
theorem loop6 {c0 c1 c2 c4 c5 c6 c7 c9 c10 c11 c12 c13 c14 c17 c18 c19 c20 c21 c22 c23 c24 c25 c26 c27 c28 c29 c30 c31 c32 c33 c34 c35 c36 c37 c38 c39 c40 c41 c42 c43 c44 c45 c46 c47 c48 c49 c50 c51 c52 c53 c54 c55 c56 c57 c58 c59 c60 c61 c62 c63 c64 c65 c66 c67 c68 c69 c70 c71 c72 c73 c74 c75 c76 c77 c78 c79 c80 c81 c82 c83 c84 c85 c86 c87 c88 c89 c90 c91 c92 c93 c94 c95 c96 c97 c98 c99 c100 c101 c102 c103 c104 c105 c106 c107 c108 c109 c110 c111 c112 c113 c114 c115 c116 c117 c118 c119 c120 c121 c122 c123 c124 c125 c126 c127 c128 c129 c130 c131 c132 c133 c134 c135 c136 c137 c138 c139 c140 c141 c142 c143 c144 c145 c146 c147 c148 c149 c150 c151 c152 c153 c154 c155 c156 c157 c158 c159 c160 c161 c162 c163 c164 c165 c166 c167 c168 c169 c170 c171 c172 c173 c174 c175 c176 c177 c178 c179 c180 c181 c182 c183 c184 c185 c186 c187 c188 c189 c190 c191 c192 c193 c194 c195 c196 c197 c198 c199 c200 c201 c202 c203 c204 c205 c206 c207 c208 c209 c210 c211 c212 c213 c214 c215 c216 c217 c218 c219 c220 c221 c222 c223 c224 c225 c226 c227 c228 c229 c230 c231 c232 c233 c234 c235 c236 c237 c238 c239 c240 c241 c242 c243 c244 c245 c246 c247 c248 c249 c250 c251 c252 c253 c254 c255 c256 c257 c258 c259 c260 c261 c262 c263 c264 c265 c266 c267 c268 c269 c270 c271 c272 c273 c274 c275 c276 c277 c278 c279 c280 c281 c282 c283 c284 c285 c286 c287 c288 c289 c290 c291 c292 c293 c294 c295 c296 c297 c298 c299 c300 c301 c302 c303 c304 c305 c306 c307 c308 c309 c310 c311 c312 c313 c314 c315 c316 c317 c318 c319 c320 c321 c322 c323 c324 c325 c326 c327 c328 c329 : Value} {kB wB vB vc : Nat} {ks ws : List UInt32} {s0 : St} {w : World} {Post : Act → World → Prop} (hk : ks.length = 64) (hw : ws.length = 64) (hvc : 8 ≤ vc) (hvx : vc ≤ 9223372036854775807) (kk0 : WBlk w kB ks) (kw0 : WBlk w wB ws) (kv0 : WAt w vB (stL s0))
    (hexit : ∀ vB2 vc2 d17 d18 d19 d20 d21 d166 d167 d168 d169 d170 d171 d172 d173 d174 d175 d176 d177 d178 d179 d180 d181 d182 d183 d184 d185 d186 d187 d188 d189 d190 d191 d192 d193 d194 d195 d196 d197 d198 d199 d200 d201 d202 d203 d204 d205 d206 d207 d208 d209 d210 d211 d212 d213 d214 d215 d216 d217 d218 d219 d220 d221 d222 d223 d224 d225 d226 d227 d228 d229 d230 d231 d232 d233 d234 d235 d236 d237 d238 d239 d240 d241 d242 d243 d244 d245 d246 d247 d248 d249 d250 d251 d252 d253 d254 d255 d256 d257 d258 d259 d260 d261 d262 d263 d264 d265 d266 d267 d268 d269 d270 d271 d272 d273 d274 d275 d276 d277 d278 d279 d280 d281 d282 w', 8 ≤ vc2 → WAt w' vB2 (stL (rnds s0 ks ws)) → Below w.heap.size w w' → (vB2 = vB ∨ w.heap.size ≤ vB2) → Post ⟨(List.toArray (c0 :: c1 :: c2 :: (.slice (some ⟨kB, 0, none⟩) 64 64) :: c4 :: c5 :: c6 :: c7 :: (.slice (some ⟨wB, 0, none⟩) 64 64) :: c9 :: c10 :: c11 :: c12 :: c13 :: c14 :: (.slice (some ⟨vB2, 0, none⟩) 8 vc2) :: (.int .i64 64) :: d17 :: d18 :: d19 :: d20 :: d21 :: c22 :: c23 :: c24 :: c25 :: c26 :: c27 :: c28 :: c29 :: c30 :: c31 :: c32 :: c33 :: c34 :: c35 :: c36 :: c37 :: c38 :: c39 :: c40 :: c41 :: c42 :: c43 :: c44 :: c45 :: c46 :: c47 :: c48 :: c49 :: c50 :: c51 :: c52 :: c53 :: c54 :: c55 :: c56 :: c57 :: c58 :: c59 :: c60 :: c61 :: c62 :: c63 :: c64 :: c65 :: c66 :: c67 :: c68 :: c69 :: c70 :: c71 :: c72 :: c73 :: c74 :: c75 :: c76 :: c77 :: c78 :: c79 :: c80 :: c81 :: c82 :: c83 :: c84 :: c85 :: c86 :: c87 :: c88 :: c89 :: c90 :: c91 :: c92 :: c93 :: c94 :: c95 :: c96 :: c97 :: c98 :: c99 :: c100 :: c101 :: c102 :: c103 :: c104 :: c105 :: c106 :: c107 :: c108 :: c109 :: c110 :: c111 :: c112 :: c113 :: c114 :: c115 :: c116 :: c117 :: c118 :: c119 :: c120 :: c121 :: c122 :: c123 :: c124 :: c125 :: c126 :: c127 :: c128 :: c129 :: c130 :: c131 :: c132 :: c133 :: c134 :: c135 :: c136 :: c137 :: c138 :: c139 :: c140 :: c141 :: c142 :: c143 :: c144 :: c145 :: c146 :: c147 :: c148 :: c149 :: c150 :: c151 :: c152 :: c153 :: c154 :: c155 :: c156 :: c157 :: c158 :: c159 :: c160 :: c161 :: c162 :: c163 :: c164 :: c165 :: d166 :: d167 :: d168 :: d169 :: d170 :: d171 :: d172 :: d173 :: d174 :: d175 :: d176 :: d177 :: d178 :: d179 :: d180 :: d181 :: d182 :: d183 :: d184 :: d185 :: d186 :: d187 :: d188 :: d189 :: d190 :: d191 :: d192 :: d193 :: d194 :: d195 :: d196 :: d197 :: d198 :: d199 :: d200 :: d201 :: d202 :: d203 :: d204 :: d205 :: d206 :: d207 :: d208 :: d209 :: d210 :: d211 :: d212 :: d213 :: d214 :: d215 :: d216 :: d217 :: d218 :: d219 :: d220 :: d221 :: d222 :: d223 :: d224 :: d225 :: d226 :: d227 :: d228 :: d229 :: d230 :: d231 :: d232 :: d233 :: d234 :: d235 :: d236 :: d237 :: d238 :: d239 :: d240 :: d241 :: d242 :: d243 :: d244 :: d245 :: d246 :: d247 :: d248 :: d249 :: d250 :: d251 :: d252 :: d253 :: d254 :: d255 :: d256 :: d257 :: d258 :: d259 :: d260 :: d261 :: d262 :: d263 :: d264 :: d265 :: d266 :: d267 :: d268 :: d269 :: d270 :: d271 :: d272 :: d273 :: d274 :: d275 :: d276 :: d277 :: d278 :: d279 :: d280 :: d281 :: d282 :: c283 :: c284 :: c285 :: c286 :: c287 :: c288 :: c289 :: c290 :: c291 :: c292 :: c293 :: c294 :: c295 :: c296 :: c297 :: c298 :: c299 :: c300 :: c301 :: c302 :: c303 :: c304 :: c305 :: c306 :: c307 :: c308 :: c309 :: c310 :: c311 :: c312 :: c313 :: c314 :: c315 :: c316 :: c317 :: c318 :: c319 :: c320 :: c321 :: c322 :: c323 :: c324 :: c325 :: c326 :: c327 :: c328 :: c329 :: [])), []⟩ w') :
    Code.wp Tryz.prog (Code.loop body6) (OnExit 10 Post) ⟨(List.toArray (c0 :: c1 :: c2 :: (.slice (some ⟨kB, 0, none⟩) 64 64) :: c4 :: c5 :: c6 :: c7 :: (.slice (some ⟨wB, 0, none⟩) 64 64) :: c9 :: c10 :: c11 :: c12 :: c13 :: c14 :: (.slice (some ⟨vB, 0, none⟩) 8 vc) :: (.int .i64 0) :: c17 :: c18 :: c19 :: c20 :: c21 :: c22 :: c23 :: c24 :: c25 :: c26 :: c27 :: c28 :: c29 :: c30 :: c31 :: c32 :: c33 :: c34 :: c35 :: c36 :: c37 :: c38 :: c39 :: c40 :: c41 :: c42 :: c43 :: c44 :: c45 :: c46 :: c47 :: c48 :: c49 :: c50 :: c51 :: c52 :: c53 :: c54 :: c55 :: c56 :: c57 :: c58 :: c59 :: c60 :: c61 :: c62 :: c63 :: c64 :: c65 :: c66 :: c67 :: c68 :: c69 :: c70 :: c71 :: c72 :: c73 :: c74 :: c75 :: c76 :: c77 :: c78 :: c79 :: c80 :: c81 :: c82 :: c83 :: c84 :: c85 :: c86 :: c87 :: c88 :: c89 :: c90 :: c91 :: c92 :: c93 :: c94 :: c95 :: c96 :: c97 :: c98 :: c99 :: c100 :: c101 :: c102 :: c103 :: c104 :: c105 :: c106 :: c107 :: c108 :: c109 :: c110 :: c111 :: c112 :: c113 :: c114 :: c115 :: c116 :: c117 :: c118 :: c119 :: c120 :: c121 :: c122 :: c123 :: c124 :: c125 :: c126 :: c127 :: c128 :: c129 :: c130 :: c131 :: c132 :: c133 :: c134 :: c135 :: c136 :: c137 :: c138 :: c139 :: c140 :: c141 :: c142 :: c143 :: c144 :: c145 :: c146 :: c147 :: c148 :: c149 :: c150 :: c151 :: c152 :: c153 :: c154 :: c155 :: c156 :: c157 :: c158 :: c159 :: c160 :: c161 :: c162 :: c163 :: c164 :: c165 :: c166 :: c167 :: c168 :: c169 :: c170 :: c171 :: c172 :: c173 :: c174 :: c175 :: c176 :: c177 :: c178 :: c179 :: c180 :: c181 :: c182 :: c183 :: c184 :: c185 :: c186 :: c187 :: c188 :: c189 :: c190 :: c191 :: c192 :: c193 :: c194 :: c195 :: c196 :: c197 :: c198 :: c199 :: c200 :: c201 :: c202 :: c203 :: c204 :: c205 :: c206 :: c207 :: c208 :: c209 :: c210 :: c211 :: c212 :: c213 :: c214 :: c215 :: c216 :: c217 :: c218 :: c219 :: c220 :: c221 :: c222 :: c223 :: c224 :: c225 :: c226 :: c227 :: c228 :: c229 :: c230 :: c231 :: c232 :: c233 :: c234 :: c235 :: c236 :: c237 :: c238 :: c239 :: c240 :: c241 :: c242 :: c243 :: c244 :: c245 :: c246 :: c247 :: c248 :: c249 :: c250 :: c251 :: c252 :: c253 :: c254 :: c255 :: c256 :: c257 :: c258 :: c259 :: c260 :: c261 :: c262 :: c263 :: c264 :: c265 :: c266 :: c267 :: c268 :: c269 :: c270 :: c271 :: c272 :: c273 :: c274 :: c275 :: c276 :: c277 :: c278 :: c279 :: c280 :: c281 :: c282 :: c283 :: c284 :: c285 :: c286 :: c287 :: c288 :: c289 :: c290 :: c291 :: c292 :: c293 :: c294 :: c295 :: c296 :: c297 :: c298 :: c299 :: c300 :: c301 :: c302 :: c303 :: c304 :: c305 :: c306 :: c307 :: c308 :: c309 :: c310 :: c311 :: c312 :: c313 :: c314 :: c315 :: c316 :: c317 :: c318 :: c319 :: c320 :: c321 :: c322 :: c323 :: c324 :: c325 :: c326 :: c327 :: c328 :: c329 :: [])), []⟩ w := by
  have HX := hide hexit
  have HK0 := hide kk0
  have HW0 := hide kw0
  clear hexit kk0 kw0
  conv => arg 2; arg 1; whnf
  go_loopw [15, 16, 17, 18, 19, 20, 21] (fun v15 v16 _ _ _ _ _ wr => ∃ i vb vd : Nat, i ≤ 64 ∧ v16 = .int .i64 (i : Int) ∧ v15 = .slice (some ⟨vb, 0, none⟩) 8 vd ∧ 8 ≤ vd ∧ vd ≤ 9223372036854775807 ∧ (vb = vB ∨ w.heap.size ≤ vb) ∧ WAt wr vb (stL (rnds s0 (ks.take i) (ws.take i))) ∧ Below w.heap.size w wr) (fun _ v16 _ _ _ _ _ _ => 64 - (intOf v16).toNat)
  case atStart => exact ⟨0, vB, vc, by omega, rfl, rfl, hvc, hvx, Or.inl rfl, by simpa [rnds] using kv0, Below.refl _ _⟩
  case round =>
    rename World => wr
    clear kv0
    obtain ⟨i, vb, vd, hi, rfl, rfl, hvd, hvd2, hvor, kv, hf⟩ := hrel
    by_cases hlt : i < 64
    · obtain ⟨s, hs⟩ : ∃ s, rnds s0 (ks.take i) (ws.take i) = s := ⟨_, rfl⟩
      rw [hs] at kv
      obtain ⟨kx, hkx⟩ : ∃ x, ks[i]'(by omega) = x := ⟨_, rfl⟩
      obtain ⟨wx, hwx⟩ : ∃ x, ws[i]'(by omega) = x := ⟨_, rfl⟩
      have kk : wr.cell? ⟨kB, i, none⟩ = some (.int .u32 (kx.toNat : Int)) := by
        rw [WBlk.at (l := ks) ((unhide HK0).low hf) (i := i) (by omega), hkx]
      have kw : wr.cell? ⟨wB, i, none⟩ = some (.int .u32 (wx.toNat : Int)) := by
        rw [WBlk.at (l := ws) ((unhide HW0).low hf) (i := i) (by omega), hwx]
      have k0 : wr.cell? ⟨vb, 0, none⟩ = some (.int .u32 (s.a.toNat : Int)) := kv 0 (by simp [stL])
      have k1 : wr.cell? ⟨vb, 1, none⟩ = some (.int .u32 (s.b.toNat : Int)) := kv 1 (by simp [stL])
      have k2 : wr.cell? ⟨vb, 2, none⟩ = some (.int .u32 (s.c.toNat : Int)) := kv 2 (by simp [stL])
      have k3 : wr.cell? ⟨vb, 3, none⟩ = some (.int .u32 (s.d.toNat : Int)) := kv 3 (by simp [stL])
      have k4 : wr.cell? ⟨vb, 4, none⟩ = some (.int .u32 (s.e.toNat : Int)) := kv 4 (by simp [stL])
      have k5 : wr.cell? ⟨vb, 5, none⟩ = some (.int .u32 (s.f.toNat : Int)) := kv 5 (by simp [stL])
      have k6 : wr.cell? ⟨vb, 6, none⟩ = some (.int .u32 (s.g.toNat : Int)) := kv 6 (by simp [stL])
      have k7 : wr.cell? ⟨vb, 7, none⟩ = some (.int .u32 (s.h.toNat : Int)) := kv 7 (by simp [stL])
      have HS : Hid (rnds s0 (ks.take (i + 1)) (ws.take (i + 1)) = rnd s kx wx) := hide (by rw [rnds_snoc i s0 ks ws (by omega) (by omega), hs, hkx, hwx])
      have l0 := u32_lt s.a
      have l1 := u32_lt s.b
      have l2 := u32_lt s.c
      have l3 := u32_lt s.d
      have l4 := u32_lt s.e
      have l5 := u32_lt s.f
      have l6 := u32_lt s.g
      have l7 := u32_lt s.h
      have lk := u32_lt kx
      have lw := u32_lt wx
      obtain ⟨te, hte⟩ : ∃ x, (rotr s.e 6 ^^^ rotr s.e 11) ^^^ rotr s.e 25 = x := ⟨_, rfl⟩
      obtain ⟨ch, hch⟩ : ∃ x, (s.e &&& s.f) ^^^ (~~~ s.e &&& s.g) = x := ⟨_, rfl⟩
      obtain ⟨one, hone⟩ : ∃ x, (((s.h + te) + ch) + kx) + wx = x := ⟨_, rfl⟩
      obtain ⟨ta, hta⟩ : ∃ x, (rotr s.a 2 ^^^ rotr s.a 13) ^^^ rotr s.a 22 = x := ⟨_, rfl⟩
      obtain ⟨ma, hma⟩ : ∃ x, ((s.a &&& s.b) ^^^ (s.a &&& s.c)) ^^^ (s.b &&& s.c) = x := ⟨_, rfl⟩
      have e1 := te_eq s.e
      rw [hte] at e1
      have e2 := ch_eq s.e s.f s.g
      rw [hch] at e2
      have e3 := ta_eq s.a
      rw [hta] at e3
      have e4 := ma_eq s.a s.b s.c
      rw [hma] at e4
      have HR : Hid (rnd s kx wx = ⟨(one + ta) + ma, s.a, s.b, s.c, s.d + one, s.e, s.f, s.g⟩) := hide (by
        unfold rnd
        simp only [hte, hch, hone, hta, hma])
      have e5 : ((s.h.toNat : Int) + (te.toNat : Int) + (ch.toNat : Int) + (kx.toNat : Int) + (wx.toNat : Int)) % 4294967296 = (one.toNat : Int) := by
        rw [← hone]
        simp only [UInt32.toNat_add]
        omega
      obtain ⟨na, hna⟩ : ∃ x, (one + ta) + ma = x := ⟨_, rfl⟩
      obtain ⟨ne, hne⟩ : ∃ x, s.d + one = x := ⟨_, rfl⟩
      have e6 : ((one.toNat : Int) + (ta.toNat : Int) + (ma.toNat : Int)) % 4294967296 = (na.toNat : Int) := by
        rw [← hna]
        simp only [UInt32.toNat_add]
        omega
      have e7 : ((s.d.toNat : Int) + (one.toNat : Int)) % 4294967296 = (ne.toNat : Int) := by
        rw [← hne]
        simp only [UInt32.toNat_add]
        omega
      have HNA := hide hna
      have HNE := hide hne
      have m1 := u32_lt te
      have m2 := u32_lt ch
      have m3 := u32_lt one
      have m4 := u32_lt ta
      have m5 := u32_lt ma
      have HONE : Hid (((s.h + te + ch) + kx) + wx = one) := hide hone
      have HF := hide hf
      have HV := hide hvor
      have ii : (i : Int) < 64 := by omega
      clear hs hkx hwx kv hf hte hch hone hta hma hvor hna hne
      go_wp2
      go_quiet ((first | (go_at_call_of 89 (Value.int IntKind.i64 6); exact Calls.quiet_of (turn6 s.e _)) | (go_at_call_of 89 (Value.int IntKind.i64 11); exact Calls.quiet_of (turn11 s.e _)) | (go_at_call_of 89 (Value.int IntKind.i64 25); exact Calls.quiet_of (turn25 s.e _))))
      obtain ⟨wa, hw_wa⟩ : ∃ W, wr.drewN nq = W := ⟨_, rfl⟩
      rw [hw_wa]
      replace k0 : wa.cell? ⟨vb, 0, none⟩ = some (.int .u32 (s.a.toNat : Int)) := by rw [← hw_wa]; exact k0
      replace k1 : wa.cell? ⟨vb, 1, none⟩ = some (.int .u32 (s.b.toNat : Int)) := by rw [← hw_wa]; exact k1
      replace k2 : wa.cell? ⟨vb, 2, none⟩ = some (.int .u32 (s.c.toNat : Int)) := by rw [← hw_wa]; exact k2
      replace k3 : wa.cell? ⟨vb, 3, none⟩ = some (.int .u32 (s.d.toNat : Int)) := by rw [← hw_wa]; exact k3
      replace k4 : wa.cell? ⟨vb, 4, none⟩ = some (.int .u32 (s.e.toNat : Int)) := by rw [← hw_wa]; exact k4
      replace k5 : wa.cell? ⟨vb, 5, none⟩ = some (.int .u32 (s.f.toNat : Int)) := by rw [← hw_wa]; exact k5
      replace k6 : wa.cell? ⟨vb, 6, none⟩ = some (.int .u32 (s.g.toNat : Int)) := by rw [← hw_wa]; exact k6
      replace k7 : wa.cell? ⟨vb, 7, none⟩ = some (.int .u32 (s.h.toNat : Int)) := by rw [← hw_wa]; exact k7
      replace kk : wa.cell? ⟨kB, i, none⟩ = some (.int .u32 (kx.toNat : Int)) := by rw [← hw_wa]; exact kk
      replace kw : wa.cell? ⟨wB, i, none⟩ = some (.int .u32 (wx.toNat : Int)) := by rw [← hw_wa]; exact kw
      replace HF : Hid (Below w.heap.size w wa) := hide (by rw [← hw_wa]; exact lowN (unhide HF) _)
      clear hw_wa
      go_wp2
      go_quiet (fail)
      obtain ⟨wb, hw_wb⟩ : ∃ W, wa.drewN nq = W := ⟨_, rfl⟩
      rw [hw_wb]
      replace k0 : wb.cell? ⟨vb, 0, none⟩ = some (.int .u32 (s.a.toNat : Int)) := by rw [← hw_wb]; exact k0
      replace k1 : wb.cell? ⟨vb, 1, none⟩ = some (.int .u32 (s.b.toNat : Int)) := by rw [← hw_wb]; exact k1
      replace k2 : wb.cell? ⟨vb, 2, none⟩ = some (.int .u32 (s.c.toNat : Int)) := by rw [← hw_wb]; exact k2
      replace k3 : wb.cell? ⟨vb, 3, none⟩ = some (.int .u32 (s.d.toNat : Int)) := by rw [← hw_wb]; exact k3
      replace k4 : wb.cell? ⟨vb, 4, none⟩ = some (.int .u32 (s.e.toNat : Int)) := by rw [← hw_wb]; exact k4
      replace k5 : wb.cell? ⟨vb, 5, none⟩ = some (.int .u32 (s.f.toNat : Int)) := by rw [← hw_wb]; exact k5
      replace k6 : wb.cell? ⟨vb, 6, none⟩ = some (.int .u32 (s.g.toNat : Int)) := by rw [← hw_wb]; exact k6
      replace k7 : wb.cell? ⟨vb, 7, none⟩ = some (.int .u32 (s.h.toNat : Int)) := by rw [← hw_wb]; exact k7
      replace kk : wb.cell? ⟨kB, i, none⟩ = some (.int .u32 (kx.toNat : Int)) := by rw [← hw_wb]; exact kk
      replace kw : wb.cell? ⟨wB, i, none⟩ = some (.int .u32 (wx.toNat : Int)) := by rw [← hw_wb]; exact kw
      replace HF : Hid (Below w.heap.size w wb) := hide (by rw [← hw_wb]; exact lowN (unhide HF) _)
      clear hw_wb
      go_wp2
      go_quiet (fail)
      obtain ⟨wc, hw_wc⟩ : ∃ W, wb.drewN nq = W := ⟨_, rfl⟩
      rw [hw_wc]
      replace k0 : wc.cell? ⟨vb, 0, none⟩ = some (.int .u32 (s.a.toNat : Int)) := by rw [← hw_wc]; exact k0
      replace k1 : wc.cell? ⟨vb, 1, none⟩ = some (.int .u32 (s.b.toNat : Int)) := by rw [← hw_wc]; exact k1
      replace k2 : wc.cell? ⟨vb, 2, none⟩ = some (.int .u32 (s.c.toNat : Int)) := by rw [← hw_wc]; exact k2
      replace k3 : wc.cell? ⟨vb, 3, none⟩ = some (.int .u32 (s.d.toNat : Int)) := by rw [← hw_wc]; exact k3
      replace k4 : wc.cell? ⟨vb, 4, none⟩ = some (.int .u32 (s.e.toNat : Int)) := by rw [← hw_wc]; exact k4
      replace k5 : wc.cell? ⟨vb, 5, none⟩ = some (.int .u32 (s.f.toNat : Int)) := by rw [← hw_wc]; exact k5
      replace k6 : wc.cell? ⟨vb, 6, none⟩ = some (.int .u32 (s.g.toNat : Int)) := by rw [← hw_wc]; exact k6
      replace k7 : wc.cell? ⟨vb, 7, none⟩ = some (.int .u32 (s.h.toNat : Int)) := by rw [← hw_wc]; exact k7
      replace kk : wc.cell? ⟨kB, i, none⟩ = some (.int .u32 (kx.toNat : Int)) := by rw [← hw_wc]; exact kk
      replace kw : wc.cell? ⟨wB, i, none⟩ = some (.int .u32 (wx.toNat : Int)) := by rw [← hw_wc]; exact kw
      replace HF : Hid (Below w.heap.size w wc) := hide (by rw [← hw_wc]; exact lowN (unhide HF) _)
      clear hw_wc
      go_wp2
      go_quiet ((first | (go_at_call_of 89 (Value.int IntKind.i64 2); exact Calls.quiet_of (turn2 s.a _)) | (go_at_call_of 89 (Value.int IntKind.i64 13); exact Calls.quiet_of (turn13 s.a _)) | (go_at_call_of 89 (Value.int IntKind.i64 22); exact Calls.quiet_of (turn22 s.a _))))
      obtain ⟨wd, hw_wd⟩ : ∃ W, wc.drewN nq = W := ⟨_, rfl⟩
      rw [hw_wd]
      replace k0 : wd.cell? ⟨vb, 0, none⟩ = some (.int .u32 (s.a.toNat : Int)) := by rw [← hw_wd]; exact k0
      replace k1 : wd.cell? ⟨vb, 1, none⟩ = some (.int .u32 (s.b.toNat : Int)) := by rw [← hw_wd]; exact k1
      replace k2 : wd.cell? ⟨vb, 2, none⟩ = some (.int .u32 (s.c.toNat : Int)) := by rw [← hw_wd]; exact k2
      replace k3 : wd.cell? ⟨vb, 3, none⟩ = some (.int .u32 (s.d.toNat : Int)) := by rw [← hw_wd]; exact k3
      replace k4 : wd.cell? ⟨vb, 4, none⟩ = some (.int .u32 (s.e.toNat : Int)) := by rw [← hw_wd]; exact k4
      replace k5 : wd.cell? ⟨vb, 5, none⟩ = some (.int .u32 (s.f.toNat : Int)) := by rw [← hw_wd]; exact k5
      replace k6 : wd.cell? ⟨vb, 6, none⟩ = some (.int .u32 (s.g.toNat : Int)) := by rw [← hw_wd]; exact k6
      replace k7 : wd.cell? ⟨vb, 7, none⟩ = some (.int .u32 (s.h.toNat : Int)) := by rw [← hw_wd]; exact k7
      replace kk : wd.cell? ⟨kB, i, none⟩ = some (.int .u32 (kx.toNat : Int)) := by rw [← hw_wd]; exact kk
      replace kw : wd.cell? ⟨wB, i, none⟩ = some (.int .u32 (wx.toNat : Int)) := by rw [← hw_wd]; exact kw
      replace HF : Hid (Below w.heap.size w wd) := hide (by rw [← hw_wd]; exact lowN (unhide HF) _)
      clear hw_wd
      go_wp2
      go_quiet (fail)
      obtain ⟨we, hw_we⟩ : ∃ W, wd.drewN nq = W := ⟨_, rfl⟩
      rw [hw_we]
      replace k0 : we.cell? ⟨vb, 0, none⟩ = some (.int .u32 (s.a.toNat : Int)) := by rw [← hw_we]; exact k0
      replace k1 : we.cell? ⟨vb, 1, none⟩ = some (.int .u32 (s.b.toNat : Int)) := by rw [← hw_we]; exact k1
      replace k2 : we.cell? ⟨vb, 2, none⟩ = some (.int .u32 (s.c.toNat : Int)) := by rw [← hw_we]; exact k2
      replace k3 : we.cell? ⟨vb, 3, none⟩ = some (.int .u32 (s.d.toNat : Int)) := by rw [← hw_we]; exact k3
      replace k4 : we.cell? ⟨vb, 4, none⟩ = some (.int .u32 (s.e.toNat : Int)) := by rw [← hw_we]; exact k4
      replace k5 : we.cell? ⟨vb, 5, none⟩ = some (.int .u32 (s.f.toNat : Int)) := by rw [← hw_we]; exact k5
      replace k6 : we.cell? ⟨vb, 6, none⟩ = some (.int .u32 (s.g.toNat : Int)) := by rw [← hw_we]; exact k6
      replace k7 : we.cell? ⟨vb, 7, none⟩ = some (.int .u32 (s.h.toNat : Int)) := by rw [← hw_we]; exact k7
      replace kk : we.cell? ⟨kB, i, none⟩ = some (.int .u32 (kx.toNat : Int)) := by rw [← hw_we]; exact kk
      replace kw : we.cell? ⟨wB, i, none⟩ = some (.int .u32 (wx.toNat : Int)) := by rw [← hw_we]; exact kw
      replace HF : Hid (Below w.heap.size w we) := hide (by rw [← hw_we]; exact lowN (unhide HF) _)
      clear hw_we
      go_wp2
      have hvl := lt_of_cell k0
      have HN8 : Hid (stL (rnds s0 (ks.take (i + 1)) (ws.take (i + 1))) = [na, s.a, s.b, s.c, ne, s.e, s.f, s.g]) := hide (by rw [unhide HS, unhide HR, unhide HNA, unhide HNE]; rfl)
      go_region_held3 (fun w' => w'.cell? ⟨vb, 0, none⟩ = some (.int .u32 (s.a.toNat : Int)) ∧ w'.cell? ⟨vb, 1, none⟩ = some (.int .u32 (s.b.toNat : Int)) ∧ w'.cell? ⟨vb, 2, none⟩ = some (.int .u32 (s.c.toNat : Int)) ∧ w'.cell? ⟨vb, 3, none⟩ = some (.int .u32 (s.d.toNat : Int)) ∧ w'.cell? ⟨vb, 4, none⟩ = some (.int .u32 (s.e.toNat : Int)) ∧ w'.cell? ⟨vb, 5, none⟩ = some (.int .u32 (s.f.toNat : Int)) ∧ w'.cell? ⟨vb, 6, none⟩ = some (.int .u32 (s.g.toNat : Int)))
        (go_keep)
        (fail)
      go_wp2
      have e8 : (((one.toNat : Int) + (ta.toNat : Int)) % 4294967296 + (ma.toNat : Int)) % 4294967296 = (na.toNat : Int) := by rw [← e6]; omega
      rw [e8]
      try rw [e7]
      refine ⟨⟨i + 1, we.heap.size, 8, hlt, by push_cast; rfl, rfl, by omega, by omega, Or.inr (unhide HF).size, ?_, ((unhide HF).alloc (unhide HF).size _).drew⟩, ?_⟩
      · rw [unhide HN8]
        exact WBlk.wat (w := (we.alloc _).drew) (l := [na, s.a, s.b, s.c, ne, s.e, s.f, s.g]) (Blk.new we _ 39)
      · simp [intOf]
        omega
    · have hi8 : i = 64 := by omega
      subst hi8
      rw [List.take_of_length_le (by omega), List.take_of_length_le (by omega)] at kv
      have HK := hide kv
      have HF := hide hf
      have HV := hide hvor
      clear kv hf hvor
      go_wp2
      refine ⟨rfl, unhide HX vb vd _ _ _ _ _ _ _ _ _ _ _ _ _ _ _ _ _ _ _ _ _ _ _ _ _ _ _ _ _ _ _ _ _ _ _ _ _ _ _ _ _ _ _ _ _ _ _ _ _ _ _ _ _ _ _ _ _ _ _ _ _ _ _ _ _ _ _ _ _ _ _ _ _ _ _ _ _ _ _ _ _ _ _ _ _ _ _ _ _ _ _ _ _ _ _ _ _ _ _ _ _ _ _ _ _ _ _ _ _ _ _ _ _ _ _ _ _ _ _ _ _ _ wr hvd (unhide HK) (unhide HF) (unhide HV)⟩
end Go.Proofs.YtkablmjkffdloaaGreatDoor

namespace Go.Proofs.YtkablmjkffdloaaGreatDoor
open Go.RowKit

noncomputable def body8 : Code := ((Tryz.f28.body.map loopsOf).getD []).getD 7 .skip

/-- append of four bytes, laid into a block of their own. -/
theorem app_four {B : Nat} {w W1 : World} {v : Value} {l : Bs} {c d e f : UInt8} (ho : OwnB B w v l) (hB : B ≤ w.heap.size) (hl : l.length ≤ 2147483648) (hW : w.alloc (.cells #[.int .u8 (c.toNat : Int), .int .u8 (d.toNat : Int), .int .u8 (e.toNat : Int), .int .u8 (f.toNat : Int)] 5) = W1) :
    ∃ v' w', (Builtin.append_ #[23, 23] 23 #[v, .slice (some ⟨w.heap.size, 0, none⟩) 4 4]).run Tryz.prog W1 = .ok v' w' ∧ OwnB B w' v' (l ++ [c, d, e, f]) ∧ GrB w w' v v' := by
  have hb : Below w.heap.size w W1 := by rw [← hW]; exact (Below.refl _ _).alloc (Nat.le_refl _) _
  have hblk : Blk W1 w.heap.size #[.int .u8 (c.toNat : Int), .int .u8 (d.toNat : Int), .int .u8 (e.toNat : Int), .int .u8 (f.toNat : Int)] 5 := by rw [← hW]; exact Blk.new _ _ _
  obtain ⟨v', w', h1, h2, h3⟩ := app_bytes (a := ⟨w.heap.size, 0, none⟩) (m := [c, d, e, f]) (n := 4) (c := 4) (ho.low hb) (Nat.le_trans hB hb.size) rfl (fun k hk => by
    have : k = 0 ∨ k = 1 ∨ k = 2 ∨ k = 3 := by simp at hk; omega
    rcases this with rfl | rfl | rfl | rfl
    · exact hblk.cell 0
    · exact hblk.cell 1
    · exact hblk.cell 2
    · exact hblk.cell 3) (by omega)
  have ha : GrB w W1 v v := by rw [← hW]; exact GrB.alloc _ _ _
  exact ⟨v', w', h1, h2, ha.trans h3⟩

theorem flat4_len (l : List UInt32) : (l.flatMap be4).length = 4 * l.length := by
  induction l with
  | nil => rfl
  | cons x l ih => rw [List.flatMap_cons, List.length_append, ih]; simp [be4]; omega

set_option maxRecDepth 1000000 in
set_option maxHeartbeats 1500000 in
theorem loop8 {c0 c1 c2 c3 c5 c6 c7 c8 c9 c10 c11 c12 c13 c14 c15 c16 c17 c18 c19 c20 c21 c22 c25 c26 c27 c28 c29 c30 c31 c32 c33 c34 c35 c36 c37 c38 c39 c40 c41 c42 c43 c44 c45 c46 c47 c48 c49 c50 c51 c52 c53 c54 c55 c56 c57 c58 c59 c60 c61 c62 c63 c64 c65 c66 c67 c68 c69 c70 c71 c72 c73 c74 c75 c76 c77 c78 c79 c80 c81 c82 c83 c84 c85 c86 c87 c88 c89 c90 c91 c92 c93 c94 c95 c96 c97 c98 c99 c100 c101 c102 c103 c104 c105 c106 c107 c108 c109 c110 c111 c112 c113 c114 c115 c116 c117 c118 c119 c120 c121 c122 c123 c124 c125 c126 c127 c128 c129 c130 c131 c132 c133 c134 c135 c136 c137 c138 c139 c140 c141 c142 c143 c144 c145 c146 c147 c148 c149 c150 c151 c152 c153 c154 c155 c156 c157 c158 c159 c160 c161 c162 c163 c164 c165 c166 c167 c168 c169 c170 c171 c172 c173 c174 c175 c176 c177 c178 c179 c180 c181 c182 c183 c184 c185 c186 c187 c188 c189 c190 c191 c192 c193 c194 c195 c196 c197 c198 c199 c200 c201 c202 c203 c204 c205 c206 c207 c208 c209 c210 c211 c212 c213 c214 c215 c216 c217 c218 c219 c220 c221 c222 c223 c224 c225 c226 c227 c228 c229 c230 c231 c232 c233 c234 c235 c236 c237 c238 c239 c240 c241 c242 c243 c244 c245 c246 c247 c248 c249 c250 c251 c252 c253 c254 c255 c256 c257 c258 c259 c260 c261 c262 c263 c264 c265 c266 c267 c268 c269 c270 c271 c272 c273 c274 c275 c276 c277 c278 c279 c280 c281 c282 c283 c284 c285 c286 c287 c288 c289 c290 c291 c292 c293 c294 c295 c296 c297 c298 c299 c300 c301 c302 c303 c304 c305 c306 c307 c308 c309 c310 c311 c312 c313 c314 c315 c316 c317 c318 c319 c320 c321 c322 c323 c324 c325 c326 c327 c328 c329 : Value} {hB : Nat} {hs : List UInt32} {w : World} {Post : Act → World → Prop} (hh : hs.length = 8) (kh0 : WBlk w hB hs)
    (hexit : ∀ vo d299 d300 d301 d302 d303 d304 d305 d306 d307 d308 d309 d310 d311 d312 d313 d314 d315 d316 d317 d318 d319 d320 d321 d322 d323 d324 d325 d326 d327 d328 w', OwnB w.heap.size w' vo (hs.flatMap be4) → Below w.heap.size w w' → Post ⟨(List.toArray (c0 :: c1 :: c2 :: c3 :: (.slice (some ⟨hB, 0, none⟩) 8 8) :: c5 :: c6 :: c7 :: c8 :: c9 :: c10 :: c11 :: c12 :: c13 :: c14 :: c15 :: c16 :: c17 :: c18 :: c19 :: c20 :: c21 :: c22 :: vo :: (.int .i64 8) :: c25 :: c26 :: c27 :: c28 :: c29 :: c30 :: c31 :: c32 :: c33 :: c34 :: c35 :: c36 :: c37 :: c38 :: c39 :: c40 :: c41 :: c42 :: c43 :: c44 :: c45 :: c46 :: c47 :: c48 :: c49 :: c50 :: c51 :: c52 :: c53 :: c54 :: c55 :: c56 :: c57 :: c58 :: c59 :: c60 :: c61 :: c62 :: c63 :: c64 :: c65 :: c66 :: c67 :: c68 :: c69 :: c70 :: c71 :: c72 :: c73 :: c74 :: c75 :: c76 :: c77 :: c78 :: c79 :: c80 :: c81 :: c82 :: c83 :: c84 :: c85 :: c86 :: c87 :: c88 :: c89 :: c90 :: c91 :: c92 :: c93 :: c94 :: c95 :: c96 :: c97 :: c98 :: c99 :: c100 :: c101 :: c102 :: c103 :: c104 :: c105 :: c106 :: c107 :: c108 :: c109 :: c110 :: c111 :: c112 :: c113 :: c114 :: c115 :: c116 :: c117 :: c118 :: c119 :: c120 :: c121 :: c122 :: c123 :: c124 :: c125 :: c126 :: c127 :: c128 :: c129 :: c130 :: c131 :: c132 :: c133 :: c134 :: c135 :: c136 :: c137 :: c138 :: c139 :: c140 :: c141 :: c142 :: c143 :: c144 :: c145 :: c146 :: c147 :: c148 :: c149 :: c150 :: c151 :: c152 :: c153 :: c154 :: c155 :: c156 :: c157 :: c158 :: c159 :: c160 :: c161 :: c162 :: c163 :: c164 :: c165 :: c166 :: c167 :: c168 :: c169 :: c170 :: c171 :: c172 :: c173 :: c174 :: c175 :: c176 :: c177 :: c178 :: c179 :: c180 :: c181 :: c182 :: c183 :: c184 :: c185 :: c186 :: c187 :: c188 :: c189 :: c190 :: c191 :: c192 :: c193 :: c194 :: c195 :: c196 :: c197 :: c198 :: c199 :: c200 :: c201 :: c202 :: c203 :: c204 :: c205 :: c206 :: c207 :: c208 :: c209 :: c210 :: c211 :: c212 :: c213 :: c214 :: c215 :: c216 :: c217 :: c218 :: c219 :: c220 :: c221 :: c222 :: c223 :: c224 :: c225 :: c226 :: c227 :: c228 :: c229 :: c230 :: c231 :: c232 :: c233 :: c234 :: c235 :: c236 :: c237 :: c238 :: c239 :: c240 :: c241 :: c242 :: c243 :: c244 :: c245 :: c246 :: c247 :: c248 :: c249 :: c250 :: c251 :: c252 :: c253 :: c254 :: c255 :: c256 :: c257 :: c258 :: c259 :: c260 :: c261 :: c262 :: c263 :: c264 :: c265 :: c266 :: c267 :: c268 :: c269 :: c270 :: c271 :: c272 :: c273 :: c274 :: c275 :: c276 :: c277 :: c278 :: c279 :: c280 :: c281 :: c282 :: c283 :: c284 :: c285 :: c286 :: c287 :: c288 :: c289 :: c290 :: c291 :: c292 :: c293 :: c294 :: c295 :: c296 :: c297 :: c298 :: d299 :: d300 :: d301 :: d302 :: d303 :: d304 :: d305 :: d306 :: d307 :: d308 :: d309 :: d310 :: d311 :: d312 :: d313 :: d314 :: d315 :: d316 :: d317 :: d318 :: d319 :: d320 :: d321 :: d322 :: d323 :: d324 :: d325 :: d326 :: d327 :: d328 :: c329 :: [])), []⟩ w') :
    Code.wp Tryz.prog (Code.loop body8) (OnExit 14 Post) ⟨(List.toArray (c0 :: c1 :: c2 :: c3 :: (.slice (some ⟨hB, 0, none⟩) 8 8) :: c5 :: c6 :: c7 :: c8 :: c9 :: c10 :: c11 :: c12 :: c13 :: c14 :: c15 :: c16 :: c17 :: c18 :: c19 :: c20 :: c21 :: c22 :: (.slice none 0 0) :: (.int .i64 0) :: c25 :: c26 :: c27 :: c28 :: c29 :: c30 :: c31 :: c32 :: c33 :: c34 :: c35 :: c36 :: c37 :: c38 :: c39 :: c40 :: c41 :: c42 :: c43 :: c44 :: c45 :: c46 :: c47 :: c48 :: c49 :: c50 :: c51 :: c52 :: c53 :: c54 :: c55 :: c56 :: c57 :: c58 :: c59 :: c60 :: c61 :: c62 :: c63 :: c64 :: c65 :: c66 :: c67 :: c68 :: c69 :: c70 :: c71 :: c72 :: c73 :: c74 :: c75 :: c76 :: c77 :: c78 :: c79 :: c80 :: c81 :: c82 :: c83 :: c84 :: c85 :: c86 :: c87 :: c88 :: c89 :: c90 :: c91 :: c92 :: c93 :: c94 :: c95 :: c96 :: c97 :: c98 :: c99 :: c100 :: c101 :: c102 :: c103 :: c104 :: c105 :: c106 :: c107 :: c108 :: c109 :: c110 :: c111 :: c112 :: c113 :: c114 :: c115 :: c116 :: c117 :: c118 :: c119 :: c120 :: c121 :: c122 :: c123 :: c124 :: c125 :: c126 :: c127 :: c128 :: c129 :: c130 :: c131 :: c132 :: c133 :: c134 :: c135 :: c136 :: c137 :: c138 :: c139 :: c140 :: c141 :: c142 :: c143 :: c144 :: c145 :: c146 :: c147 :: c148 :: c149 :: c150 :: c151 :: c152 :: c153 :: c154 :: c155 :: c156 :: c157 :: c158 :: c159 :: c160 :: c161 :: c162 :: c163 :: c164 :: c165 :: c166 :: c167 :: c168 :: c169 :: c170 :: c171 :: c172 :: c173 :: c174 :: c175 :: c176 :: c177 :: c178 :: c179 :: c180 :: c181 :: c182 :: c183 :: c184 :: c185 :: c186 :: c187 :: c188 :: c189 :: c190 :: c191 :: c192 :: c193 :: c194 :: c195 :: c196 :: c197 :: c198 :: c199 :: c200 :: c201 :: c202 :: c203 :: c204 :: c205 :: c206 :: c207 :: c208 :: c209 :: c210 :: c211 :: c212 :: c213 :: c214 :: c215 :: c216 :: c217 :: c218 :: c219 :: c220 :: c221 :: c222 :: c223 :: c224 :: c225 :: c226 :: c227 :: c228 :: c229 :: c230 :: c231 :: c232 :: c233 :: c234 :: c235 :: c236 :: c237 :: c238 :: c239 :: c240 :: c241 :: c242 :: c243 :: c244 :: c245 :: c246 :: c247 :: c248 :: c249 :: c250 :: c251 :: c252 :: c253 :: c254 :: c255 :: c256 :: c257 :: c258 :: c259 :: c260 :: c261 :: c262 :: c263 :: c264 :: c265 :: c266 :: c267 :: c268 :: c269 :: c270 :: c271 :: c272 :: c273 :: c274 :: c275 :: c276 :: c277 :: c278 :: c279 :: c280 :: c281 :: c282 :: c283 :: c284 :: c285 :: c286 :: c287 :: c288 :: c289 :: c290 :: c291 :: c292 :: c293 :: c294 :: c295 :: c296 :: c297 :: c298 :: c299 :: c300 :: c301 :: c302 :: c303 :: c304 :: c305 :: c306 :: c307 :: c308 :: c309 :: c310 :: c311 :: c312 :: c313 :: c314 :: c315 :: c316 :: c317 :: c318 :: c319 :: c320 :: c321 :: c322 :: c323 :: c324 :: c325 :: c326 :: c327 :: c328 :: c329 :: [])), []⟩ w := by
  have HX := hide hexit
  have HH := hide kh0
  clear hexit kh0
  conv => arg 2; arg 1; whnf
  go_loopw [23, 24] (fun v23 v24 wr => ∃ i : Nat, i ≤ 8 ∧ v24 = .int .i64 (i : Int) ∧ OwnB w.heap.size wr v23 ((hs.take i).flatMap be4) ∧ Below w.heap.size w wr) (fun _ v24 _ => 8 - (intOf v24).toNat)
  case atStart => exact ⟨0, by omega, rfl, World.ownsRow_nil _ _ _ _, Below.refl _ _⟩
  case round =>
    rename World => wr
    obtain ⟨i, hi, rfl, ho, hf⟩ := hrel
    by_cases hlt : i < 8
    · obtain ⟨x, hx⟩ : ∃ x, hs[i]'(by omega) = x := ⟨_, rfl⟩
      have k1 : wr.cell? ⟨hB, i, none⟩ = some (.int .u32 (x.toNat : Int)) := by
        rw [WBlk.at (l := hs) ((unhide HH).low hf) (i := i) (by omega), hx]
      have e1 := byte4_24 x
      have e2 := byte4_16 x
      have e3 := byte4_8 x
      have e4 := byte4_0 x
      obtain ⟨b1, h1⟩ : ∃ b, (x >>> 24).toUInt8 = b := ⟨_, rfl⟩
      obtain ⟨b2, h2⟩ : ∃ b, (x >>> 16).toUInt8 = b := ⟨_, rfl⟩
      obtain ⟨b3, h3⟩ : ∃ b, (x >>> 8).toUInt8 = b := ⟨_, rfl⟩
      obtain ⟨b4, h4⟩ : ∃ b, x.toUInt8 = b := ⟨_, rfl⟩
      rw [h1] at e1
      rw [h2] at e2
      rw [h3] at e3
      rw [h4] at e4
      have u1 : IntKind.u8.wrap ((x.toNat : Int) / 16777216) = (b1.toNat : Int) := by rw [← e1]; simp [IntKind.wrap, IntKind.bits, IntKind.signed]
      have u2 : IntKind.u8.wrap ((x.toNat : Int) / 65536) = (b2.toNat : Int) := by rw [← e2]; simp [IntKind.wrap, IntKind.bits, IntKind.signed]
      have u3 : IntKind.u8.wrap ((x.toNat : Int) / 256) = (b3.toNat : Int) := by rw [← e3]; simp [IntKind.wrap, IntKind.bits, IntKind.signed]
      have u4 : IntKind.u8.wrap (x.toNat : Int) = (b4.toNat : Int) := by rw [← e4]; simp [IntKind.wrap, IntKind.bits, IntKind.signed]
      have hbx := u32_lt x
      have hsn : (hs.take i).flatMap be4 ++ [b1, b2, b3, b4] = (hs.take (i + 1)).flatMap be4 := by
        have e : hs.take (i + 1) = hs.take i ++ [hs[i]'(by omega)] := by simp
        rw [e, List.flatMap_append, hx]
        simp [be4, h1, h2, h3, h4]
      have hlen : ((hs.take i).flatMap be4).length ≤ 2147483648 := by rw [flat4_len, List.length_take]; omega
      obtain ⟨W1, hW1⟩ : ∃ W1, wr.drew.alloc (.cells #[.int .u8 (b1.toNat : Int), .int .u8 (b2.toNat : Int), .int .u8 (b3.toNat : Int), .int .u8 (b4.toNat : Int)] 5) = W1 := ⟨_, rfl⟩
      obtain ⟨v', w', happ, hown, hgr⟩ := app_four (W1 := W1) (w := wr.drew) (ho.low (Below.refl _ _).drew) hf.size hlen hW1
      rw [hsn] at hown
      have HP : Hid (OwnB w.heap.size w' v' ((hs.take (i + 1)).flatMap be4) ∧ Below w.heap.size w w') := hide ⟨hown, hf.drew.trans (hgr.low hf.size (OwnB.base ho))⟩
      have HW1 : Hid ((wr.alloc (.cells #[.int .u8 (b1.toNat : Int), .int .u8 (b2.toNat : Int), .int .u8 (b3.toNat : Int), .int .u8 (b4.toNat : Int)] 5)).drew = W1) := hide hW1
      have ii : (i : Int) < 8 := by omega
      have kS : w'.cell? ⟨hB, i, none⟩ = some (.int .u32 (x.toNat : Int)) := by
        have := (unhide HP).2
        rw [WBlk.at (l := hs) ((unhide HH).low this) (i := i) (by omega), hx]
      have happ2 : (Builtin.append_ #[23, 23] 23 #[u23, .slice (some ⟨wr.heap.size, 0, none⟩) 4 4]).run Tryz.prog W1 = .ok v' w' := happ
      clear happ ho hf hown hgr hW1 hsn hx h1 h2 h3 h4 hlen
      go_wp2
      go_region_held3 (fun w' => w'.cell? ⟨hB, i, none⟩ = some (.int .u32 (x.toNat : Int)))
        (first | go_keep | exact kS | assumption)
        ((rw [unhide HW1]; refine Lib.wp_append_run _ (.tmp 303) (.tmp 327) 23 23 (by rfl) u23 (.slice (some ⟨wr.heap.size, 0, none⟩) 4 4) (by kernel_rfl) (by kernel_rfl) v' w' happ2 ?_))
      go_wp2
      refine ⟨⟨i + 1, hlt, by push_cast; rfl, (unhide HP).1, (unhide HP).2⟩, ?_⟩
      simp [intOf]
      omega
    · have hi8 : i = 8 := by omega
      subst hi8
      rw [List.take_of_length_le (by omega)] at ho
      have HK := hide ho
      have HF := hide hf
      clear ho hf
      go_wp2
      refine ⟨rfl, unhide HX _ _ _ _ _ _ _ _ _ _ _ _ _ _ _ _ _ _ _ _ _ _ _ _ _ _ _ _ _ _ _ wr (unhide HK) (unhide HF)⟩
end Go.Proofs.YtkablmjkffdloaaGreatDoor
