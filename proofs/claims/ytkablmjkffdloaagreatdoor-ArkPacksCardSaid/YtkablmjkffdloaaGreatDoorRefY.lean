/-
  The reference's SHA-256 answers what the plain one says.
-/
import Derived.Test.YtkablmjkffdloaaGreatDoorRefQ
import Derived.Test.YtkablmjkffdloaaGreatDoorLow
import Derived.Deep.RegionHeld3
import Derived.Deep.RegionLaw
namespace Go.Proofs.YtkablmjkffdloaaGreatDoor
open Go.RowKit

noncomputable def body6 : Code := ((Tryz.f28.body.map loopsOf).getD []).getD 5 .skip
theorem turn6 (x : UInt32) (w : World) : Calls Tryz.prog 89 #[.int .u32 (x.toNat : Int), .int .i64 6] w fun e w' => e = .returned (.int .u32 ((rotr x 6).toNat : Int)) ∧ ∃ m, w' = w.drewN m := turn_any x (k := 6) (j := 26) (by decide) (by decide) (by decide) rfl rfl w
theorem turn11 (x : UInt32) (w : World) : Calls Tryz.prog 89 #[.int .u32 (x.toNat : Int), .int .i64 11] w fun e w' => e = .returned (.int .u32 ((rotr x 11).toNat : Int)) ∧ ∃ m, w' = w.drewN m := turn_any x (k := 11) (j := 21) (by decide) (by decide) (by decide) rfl rfl w
theorem turn25 (x : UInt32) (w : World) : Calls Tryz.prog 89 #[.int .u32 (x.toNat : Int), .int .i64 25] w fun e w' => e = .returned (.int .u32 ((rotr x 25).toNat : Int)) ∧ ∃ m, w' = w.drewN m := turn_any x (k := 25) (j := 7) (by decide) (by decide) (by decide) rfl rfl w
theorem turn2 (x : UInt32) (w : World) : Calls Tryz.prog 89 #[.int .u32 (x.toNat : Int), .int .i64 2] w fun e w' => e = .returned (.int .u32 ((rotr x 2).toNat : Int)) ∧ ∃ m, w' = w.drewN m := turn_any x (k := 2) (j := 30) (by decide) (by decide) (by decide) rfl rfl w
theorem turn13 (x : UInt32) (w : World) : Calls Tryz.prog 89 #[.int .u32 (x.toNat : Int), .int .i64 13] w fun e w' => e = .returned (.int .u32 ((rotr x 13).toNat : Int)) ∧ ∃ m, w' = w.drewN m := turn_any x (k := 13) (j := 19) (by decide) (by decide) (by decide) rfl rfl w
theorem turn22 (x : UInt32) (w : World) : Calls Tryz.prog 89 #[.int .u32 (x.toNat : Int), .int .i64 22] w fun e w' => e = .returned (.int .u32 ((rotr x 22).toNat : Int)) ∧ ∃ m, w' = w.drewN m := turn_any x (k := 22) (j := 10) (by decide) (by decide) (by decide) rfl rfl w

theorem rnds_snoc : ∀ (i : Nat) (s : St) (ks ws : List UInt32) (h1 : i < ks.length) (h2 : i < ws.length), rnds s (ks.take (i + 1)) (ws.take (i + 1)) = rnd (rnds s (ks.take i) (ws.take i)) ks[i] ws[i]
  | 0, s, k :: ks, x :: ws, _, _ => by simp [rnds]
  | i + 1, s, k :: ks, x :: ws, h1, h2 => by
    simp only [List.take_succ_cons, rnds, List.getElem_cons_succ]
    exact rnds_snoc i (rnd s k x) ks ws (by simpa using h1) (by simpa using h2)

set_option maxRecDepth 1000000 in
set_option maxHeartbeats 4000000 in
theorem loop6 {c0 c1 c2 c4 c5 c6 c7 c9 c10 c11 c12 c13 c14 c17 c18 c19 c20 c21 c22 c23 c24 c25 c26 c27 c28 c29 c30 c31 c32 c33 c34 c35 c36 c37 c38 c39 c40 c41 c42 c43 c44 c45 c46 c47 c48 c49 c50 c51 c52 c53 c54 c55 c56 c57 c58 c59 c60 c61 c62 c63 c64 c65 c66 c67 c68 c69 c70 c71 c72 c73 c74 c75 c76 c77 c78 c79 c80 c81 c82 c83 c84 c85 c86 c87 c88 c89 c90 c91 c92 c93 c94 c95 c96 c97 c98 c99 c100 c101 c102 c103 c104 c105 c106 c107 c108 c109 c110 c111 c112 c113 c114 c115 c116 c117 c118 c119 c120 c121 c122 c123 c124 c125 c126 c127 c128 c129 c130 c131 c132 c133 c134 c135 c136 c137 c138 c139 c140 c141 c142 c143 c144 c145 c146 c147 c148 c149 c150 c151 c152 c153 c154 c155 c156 c157 c158 c159 c160 c161 c162 c163 c164 c165 c166 c167 c168 c169 c170 c171 c172 c173 c174 c175 c176 c177 c178 c179 c180 c181 c182 c183 c184 c185 c186 c187 c188 c189 c190 c191 c192 c193 c194 c195 c196 c197 c198 c199 c200 c201 c202 c203 c204 c205 c206 c207 c208 c209 c210 c211 c212 c213 c214 c215 c216 c217 c218 c219 c220 c221 c222 c223 c224 c225 c226 c227 c228 c229 c230 c231 c232 c233 c234 c235 c236 c237 c238 c239 c240 c241 c242 c243 c244 c245 c246 c247 c248 c249 c250 c251 c252 c253 c254 c255 c256 c257 c258 c259 c260 c261 c262 c263 c264 c265 c266 c267 c268 c269 c270 c271 c272 c273 c274 c275 c276 c277 c278 c279 c280 c281 c282 c283 c284 c285 c286 c287 c288 c289 c290 c291 c292 c293 c294 c295 c296 c297 c298 c299 c300 c301 c302 c303 c304 c305 c306 c307 c308 c309 c310 c311 c312 c313 c314 c315 c316 c317 c318 c319 c320 c321 c322 c323 c324 c325 c326 c327 c328 c329 : Value} {kB wB vB vc : Nat} {ks ws : List UInt32} {s0 : St} {w : World} {Post : Act → World → Prop} (hk : ks.length = 64) (hw : ws.length = 64) (hvc : 8 ≤ vc) (hvx : vc ≤ 9223372036854775807) (kk0 : WBlk w kB ks) (kw0 : WBlk w wB ws) (kv0 : WAt w vB (stL s0))
    (hexit : ∀ vB2 vc2 d17 d18 d19 d20 d21 d166 d167 d168 d169 d170 d171 d172 d173 d174 d175 d176 d177 d178 d179 d180 d181 d182 d183 d184 d185 d186 d187 d188 d189 d190 d191 d192 d193 d194 d195 d196 d197 d198 d199 d200 d201 d202 d203 d204 d205 d206 d207 d208 d209 d210 d211 d212 d213 d214 d215 d216 d217 d218 d219 d220 d221 d222 d223 d224 d225 d226 d227 d228 d229 d230 d231 d232 d233 d234 d235 d236 d237 d238 d239 d240 d241 d242 d243 d244 d245 d246 d247 d248 d249 d250 d251 d252 d253 d254 d255 d256 d257 d258 d259 d260 d261 d262 d263 d264 d265 d266 d267 d268 d269 d270 d271 d272 d273 d274 d275 d276 d277 d278 d279 d280 d281 d282 w', 8 ≤ vc2 → WAt w' vB2 (stL (rnds s0 ks ws)) → Below w.heap.size w w' → (vB2 = vB ∨ w.heap.size ≤ vB2) → Post ⟨(List.toArray (c0 :: c1 :: c2 :: (.slice (some ⟨kB, 0, none⟩) 64 64) :: c4 :: c5 :: c6 :: c7 :: (.slice (some ⟨wB, 0, none⟩) 64 64) :: c9 :: c10 :: c11 :: c12 :: c13 :: c14 :: (.slice (some ⟨vB2, 0, none⟩) 8 vc2) :: (.int .i64 64) :: d17 :: d18 :: d19 :: d20 :: d21 :: c22 :: c23 :: c24 :: c25 :: c26 :: c27 :: c28 :: c29 :: c30 :: c31 :: c32 :: c33 :: c34 :: c35 :: c36 :: c37 :: c38 :: c39 :: c40 :: c41 :: c42 :: c43 :: c44 :: c45 :: c46 :: c47 :: c48 :: c49 :: c50 :: c51 :: c52 :: c53 :: c54 :: c55 :: c56 :: c57 :: c58 :: c59 :: c60 :: c61 :: c62 :: c63 :: c64 :: c65 :: c66 :: c67 :: c68 :: c69 :: c70 :: c71 :: c72 :: c73 :: c74 :: c75 :: c76 :: c77 :: c78 :: c79 :: c80 :: c81 :: c82 :: c83 :: c84 :: c85 :: c86 :: c87 :: c88 :: c89 :: c90 :: c91 :: c92 :: c93 :: c94 :: c95 :: c96 :: c97 :: c98 :: c99 :: c100 :: c101 :: c102 :: c103 :: c104 :: c105 :: c106 :: c107 :: c108 :: c109 :: c110 :: c111 :: c112 :: c113 :: c114 :: c115 :: c116 :: c117 :: c118 :: c119 :: c120 :: c121 :: c122 :: c123 :: c124 :: c125 :: c126 :: c127 :: c128 :: c129 :: c130 :: c131 :: c132 :: c133 :: c134 :: c135 :: c136 :: c137 :: c138 :: c139 :: c140 :: c141 :: c142 :: c143 :: c144 :: c145 :: c146 :: c147 :: c148 :: c149 :: c150 :: c151 :: c152 :: c153 :: c154 :: c155 :: c156 :: c157 :: c158 :: c159 :: c160 :: c161 :: c162 :: c163 :: c164 :: c165 :: d166 :: d167 :: d168 :: d169 :: d170 :: d171 :: d172 :: d173 :: d174 :: d175 :: d176 :: d177 :: d178 :: d179 :: d180 :: d181 :: d182 :: d183 :: d184 :: d185 :: d186 :: d187 :: d188 :: d189 :: d190 :: d191 :: d192 :: d193 :: d194 :: d195 :: d196 :: d197 :: d198 :: d199 :: d200 :: d201 :: d202 :: d203 :: d204 :: d205 :: d206 :: d207 :: d208 :: d209 :: d210 :: d211 :: d212 :: d213 :: d214 :: d215 :: d216 :: d217 :: d218 :: d219 :: d220 :: d221 :: d222 :: d223 :: d224 :: d225 :: d226 :: d227 :: d228 :: d229 :: d230 :: d231 :: d232 :: d233 :: d234 :: d235 :: d236 :: d237 :: d238 :: d239 :: d240 :: d241 :: d242 :: d243 :: d244 :: d245 :: d246 :: d247 :: d248 :: d249 :: d250 :: d251 :: d252 :: d253 :: d254 :: d255 :: d256 :: d257 :: d258 :: d259 :: d260 :: d261 :: d262 :: d263 :: d264 :: d265 :: d266 :: d267 :: d268 :: d269 :: d270 :: d271 :: d272 :: d273 :: d274 :: d275 :: d276 :: d277 :: d278 :: d279 :: d280 :: d281 :: d282 :: c283 :: c284 :: c285 :: c286 :: c287 :: c288 :: c289 :: c290 :: c291 :: c292 :: c293 :: c294 :: c295 :: c296 :: c297 :: c298 :: c299 :: c300 :: c301 :: c302 :: c303 :: c304 :: c305 :: c306 :: c307 :: c308 :: c309 :: c310 :: c311 :: c312 :: c313 :: c314 :: c315 :: c316 :: c317 :: c318 :: c319 :: c320 :: c321 :: c322 :: c323 :: c324 :: c325 :: c326 :: c327 :: c328 :: c329 :: [])), []⟩ w') :
    Code.wp Tryz.prog (Code.loop body6) (OnExit 10 Post) ⟨(List.toArray (c0 :: c1 :: c2 :: (.slice (some ⟨kB, 0, none⟩) 64 64) :: c4 :: c5 :: c6 :: c7 :: (.slice (some ⟨wB, 0, none⟩) 64 64) :: c9 :: c10 :: c11 :: c12 :: c13 :: c14 :: (.slice (some ⟨vB, 0, none⟩) 8 vc) :: (.int .i64 0) :: c17 :: c18 :: c19 :: c20 :: c21 :: c22 :: c23 :: c24 :: c25 :: c26 :: c27 :: c28 :: c29 :: c30 :: c31 :: c32 :: c33 :: c34 :: c35 :: c36 :: c37 :: c38 :: c39 :: c40 :: c41 :: c42 :: c43 :: c44 :: c45 :: c46 :: c47 :: c48 :: c49 :: c50 :: c51 :: c52 :: c53 :: c54 :: c55 :: c56 :: c57 :: c58 :: c59 :: c60 :: c61 :: c62 :: c63 :: c64 :: c65 :: c66 :: c67 :: c68 :: c69 :: c70 :: c71 :: c72 :: c73 :: c74 :: c75 :: c76 :: c77 :: c78 :: c79 :: c80 :: c81 :: c82 :: c83 :: c84 :: c85 :: c86 :: c87 :: c88 :: c89 :: c90 :: c91 :: c92 :: c93 :: c94 :: c95 :: c96 :: c97 :: c98 :: c99 :: c100 :: c101 :: c102 :: c103 :: c104 :: c105 :: c106 :: c107 :: c108 :: c109 :: c110 :: c111 :: c112 :: c113 :: c114 :: c115 :: c116 :: c117 :: c118 :: c119 :: c120 :: c121 :: c122 :: c123 :: c124 :: c125 :: c126 :: c127 :: c128 :: c129 :: c130 :: c131 :: c132 :: c133 :: c134 :: c135 :: c136 :: c137 :: c138 :: c139 :: c140 :: c141 :: c142 :: c143 :: c144 :: c145 :: c146 :: c147 :: c148 :: c149 :: c150 :: c151 :: c152 :: c153 :: c154 :: c155 :: c156 :: c157 :: c158 :: c159 :: c160 :: c161 :: c162 :: c163 :: c164 :: c165 :: c166 :: c167 :: c168 :: c169 :: c170 :: c171 :: c172 :: c173 :: c174 :: c175 :: c176 :: c177 :: c178 :: c179 :: c180 :: c181 :: c182 :: c183 :: c184 :: c185 :: c186 :: c187 :: c188 :: c189 :: c190 :: c191 :: c192 :: c193 :: c194 :: c195 :: c196 :: c197 :: c198 :: c199 :: c200 :: c201 :: c202 :: c203 :: c204 :: c205 :: c206 :: c207 :: c208 :: c209 :: c210 :: c211 :: c212 :: c213 :: c214 :: c215 :: c216 :: c217 :: c218 :: c219 :: c220 :: c221 :: c222 :: c223 :: c224 :: c225 :: c226 :: c227 :: c228 :: c229 :: c230 :: c231 :: c232 :: c233 :: c234 :: c235 :: c236 :: c237 :: c238 :: c239 :: c240 :: c241 :: c242 :: c243 :: c244 :: c245 :: c246 :: c247 :: c248 :: c249 :: c250 :: c251 :: c252 :: c253 :: c254 :: c255 :: c256 :: c257 :: c258 :: c259 :: c260 :: c261 :: c262 :: c263 :: c264 :: c265 :: c266 :: c267 :: c268 :: c269 :: c270 :: c271 :: c272 :: c273 :: c274 :: c275 :: c276 :: c277 :: c278 :: c279 :: c280 :: c281 :: c282 :: c283 :: c284 :: c285 :: c286 :: c287 :: c288 :: c289 :: c290 :: c291 :: c292 :: c293 :: c294 :: c295 :: c296 :: c297 :: c298 :: c299 :: c300 :: c301 :: c302 :: c303 :: c304 :: c305 :: c306 :: c307 :: c308 :: c309 :: c310 :: c311 :: c312 :: c313 :: c314 :: c315 :: c316 :: c317 :: c318 :: c319 :: c320 :: c321 :: c322 :: c323 :: c324 :: c325 :: c326 :: c327 :: c328 :: c329 :: [])), []⟩ w := by
  have HX := hide hexit
  have HK0 := hide kk0
  have HW0 := hide kw0
  clear hexit kk0 kw0
  conv => arg 2; arg 1; whnf
  go_loopw [15, 16, 17, 18, 19, 20, 21] (fun v15 v16 _ _ _ _ _ wr => ∃ i vb vd : Nat, i ≤ 64 ∧ v16 = .int .i64 (i : Int) ∧ v15 = .slice (some ⟨vb, 0, none⟩) 8 vd ∧ 8 ≤ vd ∧ vd ≤ 9223372036854775807 ∧ (vb = vB ∨ w.heap.size ≤ vb) ∧ WAt wr vb (stL (rnds s0 (ks.take i) (ws.take i))) ∧ Below w.heap.size w wr) (fun _ v16 _ _ _ _ _ _ => 64 - (intOf v16).toNat)
  case atStart => exact ⟨0, vB, vc, by omega, rfl, rfl, hvc, hvx, Or.inl rfl, by simpa [rnds] using kv0, Below.refl _ _⟩
  case round =>
    rename World => wr
    clear kv0
    obtain ⟨i, vb, vd, hi, rfl, rfl, hvd, hvd2, hvor, kv, hf⟩ := hrel
    by_cases hlt : i < 64
    · obtain ⟨s, hs⟩ : ∃ s, rnds s0 (ks.take i) (ws.take i) = s := ⟨_, rfl⟩
      rw [hs] at kv
      obtain ⟨kx, hkx⟩ : ∃ x, ks[i]'(by omega) = x := ⟨_, rfl⟩
      obtain ⟨wx, hwx⟩ : ∃ x, ws[i]'(by omega) = x := ⟨_, rfl⟩
      have kk : wr.cell? ⟨kB, i, none⟩ = some (.int .u32 (kx.toNat : Int)) := by
        rw [WBlk.at (l := ks) ((unhide HK0).low hf) (i := i) (by omega), hkx]
      have kw : wr.cell? ⟨wB, i, none⟩ = some (.int .u32 (wx.toNat : Int)) := by
        rw [WBlk.at (l := ws) ((unhide HW0).low hf) (i := i) (by omega), hwx]
      have k0 : wr.cell? ⟨vb, 0, none⟩ = some (.int .u32 (s.a.toNat : Int)) := kv 0 (by simp [stL])
      have k1 : wr.cell? ⟨vb, 1, none⟩ = some (.int .u32 (s.b.toNat : Int)) := kv 1 (by simp [stL])
      have k2 : wr.cell? ⟨vb, 2, none⟩ = some (.int .u32 (s.c.toNat : Int)) := kv 2 (by simp [stL])
      have k3 : wr.cell? ⟨vb, 3, none⟩ = some (.int .u32 (s.d.toNat : Int)) := kv 3 (by simp [stL])
      have k4 : wr.cell? ⟨vb, 4, none⟩ = some (.int .u32 (s.e.toNat : Int)) := kv 4 (by simp [stL])
      have k5 : wr.cell? ⟨vb, 5, none⟩ = some (.int .u32 (s.f.toNat : Int)) := kv 5 (by simp [stL])
      have k6 : wr.cell? ⟨vb, 6, none⟩ = some (.int .u32 (s.g.toNat : Int)) := kv 6 (by simp [stL])
      have k7 : wr.cell? ⟨vb, 7, none⟩ = some (.int .u32 (s.h.toNat : Int)) := kv 7 (by simp [stL])
      have HS : Hid (rnds s0 (ks.take (i + 1)) (ws.take (i + 1)) = rnd s kx wx) := hide (by rw [rnds_snoc i s0 ks ws (by omega) (by omega), hs, hkx, hwx])
      have l0 := u32_lt s.a
      have l1 := u32_lt s.b
      have l2 := u32_lt s.c
      have l3 := u32_lt s.d
      have l4 := u32_lt s.e
      have l5 := u32_lt s.f
      have l6 := u32_lt s.g
      have l7 := u32_lt s.h
      have lk := u32_lt kx
      have lw := u32_lt wx
      obtain ⟨te, hte⟩ : ∃ x, (rotr s.e 6 ^^^ rotr s.e 11) ^^^ rotr s.e 25 = x := ⟨_, rfl⟩
      obtain ⟨ch, hch⟩ : ∃ x, (s.e &&& s.f) ^^^ (~~~ s.e &&& s.g) = x := ⟨_, rfl⟩
      obtain ⟨one, hone⟩ : ∃ x, (((s.h + te) + ch) + kx) + wx = x := ⟨_, rfl⟩
      obtain ⟨ta, hta⟩ : ∃ x, (rotr s.a 2 ^^^ rotr s.a 13) ^^^ rotr s.a 22 = x := ⟨_, rfl⟩
      obtain ⟨ma, hma⟩ : ∃ x, ((s.a &&& s.b) ^^^ (s.a &&& s.c)) ^^^ (s.b &&& s.c) = x := ⟨_, rfl⟩
      have e1 := te_eq s.e
      rw [hte] at e1
      have e2 := ch_eq s.e s.f s.g
      rw [hch] at e2
      have e3 := ta_eq s.a
      rw [hta] at e3
      have e4 := ma_eq s.a s.b s.c
      rw [hma] at e4
      have HR : Hid (rnd s kx wx = ⟨(one + ta) + ma, s.a, s.b, s.c, s.d + one, s.e, s.f, s.g⟩) := hide (by
        unfold rnd
        simp only [hte, hch, hone, hta, hma])
      have e5 : ((s.h.toNat : Int) + (te.toNat : Int) + (ch.toNat : Int) + (kx.toNat : Int) + (wx.toNat : Int)) % 4294967296 = (one.toNat : Int) := by
        rw [← hone]
        simp only [UInt32.toNat_add]
        omega
      obtain ⟨na, hna⟩ : ∃ x, (one + ta) + ma = x := ⟨_, rfl⟩
      obtain ⟨ne, hne⟩ : ∃ x, s.d + one = x := ⟨_, rfl⟩
      have e6 : ((one.toNat : Int) + (ta.toNat : Int) + (ma.toNat : Int)) % 4294967296 = (na.toNat : Int) := by
        rw [← hna]
        simp only [UInt32.toNat_add]
        omega
      have e7 : ((s.d.toNat : Int) + (one.toNat : Int)) % 4294967296 = (ne.toNat : Int) := by
        rw [← hne]
        simp only [UInt32.toNat_add]
        omega
      have HNA := hide hna
      have HNE := hide hne
      have m1 := u32_lt te
      have m2 := u32_lt ch
      have m3 := u32_lt one
      have m4 := u32_lt ta
      have m5 := u32_lt ma
      have HONE : Hid (((s.h + te + ch) + kx) + wx = one) := hide hone
      have HF := hide hf
      have HV := hide hvor
      have ii : (i : Int) < 64 := by omega
      clear hs hkx hwx kv hf hte hch hone hta hma hvor hna hne
      go_wp2
      go_quiet ((first | (go_at_call_of 89 (Value.int IntKind.i64 6); exact Calls.quiet_of (turn6 s.e _)) | (go_at_call_of 89 (Value.int IntKind.i64 11); exact Calls.quiet_of (turn11 s.e _)) | (go_at_call_of 89 (Value.int IntKind.i64 25); exact Calls.quiet_of (turn25 s.e _))))
      obtain ⟨wa, hw_wa⟩ : ∃ W, wr.drewN nq = W := ⟨_, rfl⟩
      rw [hw_wa]
      replace k0 : wa.cell? ⟨vb, 0, none⟩ = some (.int .u32 (s.a.toNat : Int)) := by rw [← hw_wa]; exact k0
      replace k1 : wa.cell? ⟨vb, 1, none⟩ = some (.int .u32 (s.b.toNat : Int)) := by rw [← hw_wa]; exact k1
      replace k2 : wa.cell? ⟨vb, 2, none⟩ = some (.int .u32 (s.c.toNat : Int)) := by rw [← hw_wa]; exact k2
      replace k3 : wa.cell? ⟨vb, 3, none⟩ = some (.int .u32 (s.d.toNat : Int)) := by rw [← hw_wa]; exact k3
      replace k4 : wa.cell? ⟨vb, 4, none⟩ = some (.int .u32 (s.e.toNat : Int)) := by rw [← hw_wa]; exact k4
      replace k5 : wa.cell? ⟨vb, 5, none⟩ = some (.int .u32 (s.f.toNat : Int)) := by rw [← hw_wa]; exact k5
      replace k6 : wa.cell? ⟨vb, 6, none⟩ = some (.int .u32 (s.g.toNat : Int)) := by rw [← hw_wa]; exact k6
      replace k7 : wa.cell? ⟨vb, 7, none⟩ = some (.int .u32 (s.h.toNat : Int)) := by rw [← hw_wa]; exact k7
      replace kk : wa.cell? ⟨kB, i, none⟩ = some (.int .u32 (kx.toNat : Int)) := by rw [← hw_wa]; exact kk
      replace kw : wa.cell? ⟨wB, i, none⟩ = some (.int .u32 (wx.toNat : Int)) := by rw [← hw_wa]; exact kw
      replace HF : Hid (Below w.heap.size w wa) := hide (by rw [← hw_wa]; exact lowN (unhide HF) _)
      clear hw_wa
      go_wp2
      go_quiet (fail)
      obtain ⟨wb, hw_wb⟩ : ∃ W, wa.drewN nq = W := ⟨_, rfl⟩
      rw [hw_wb]
      replace k0 : wb.cell? ⟨vb, 0, none⟩ = some (.int .u32 (s.a.toNat : Int)) := by rw [← hw_wb]; exact k0
      replace k1 : wb.cell? ⟨vb, 1, none⟩ = some (.int .u32 (s.b.toNat : Int)) := by rw [← hw_wb]; exact k1
      replace k2 : wb.cell? ⟨vb, 2, none⟩ = some (.int .u32 (s.c.toNat : Int)) := by rw [← hw_wb]; exact k2
      replace k3 : wb.cell? ⟨vb, 3, none⟩ = some (.int .u32 (s.d.toNat : Int)) := by rw [← hw_wb]; exact k3
      replace k4 : wb.cell? ⟨vb, 4, none⟩ = some (.int .u32 (s.e.toNat : Int)) := by rw [← hw_wb]; exact k4
      replace k5 : wb.cell? ⟨vb, 5, none⟩ = some (.int .u32 (s.f.toNat : Int)) := by rw [← hw_wb]; exact k5
      replace k6 : wb.cell? ⟨vb, 6, none⟩ = some (.int .u32 (s.g.toNat : Int)) := by rw [← hw_wb]; exact k6
      replace k7 : wb.cell? ⟨vb, 7, none⟩ = some (.int .u32 (s.h.toNat : Int)) := by rw [← hw_wb]; exact k7
      replace kk : wb.cell? ⟨kB, i, none⟩ = some (.int .u32 (kx.toNat : Int)) := by rw [← hw_wb]; exact kk
      replace kw : wb.cell? ⟨wB, i, none⟩ = some (.int .u32 (wx.toNat : Int)) := by rw [← hw_wb]; exact kw
      replace HF : Hid (Below w.heap.size w wb) := hide (by rw [← hw_wb]; exact lowN (unhide HF) _)
      clear hw_wb
      go_wp2
      go_quiet (fail)
      obtain ⟨wc, hw_wc⟩ : ∃ W, wb.drewN nq = W := ⟨_, rfl⟩
      rw [hw_wc]
      replace k0 : wc.cell? ⟨vb, 0, none⟩ = some (.int .u32 (s.a.toNat : Int)) := by rw [← hw_wc]; exact k0
      replace k1 : wc.cell? ⟨vb, 1, none⟩ = some (.int .u32 (s.b.toNat : Int)) := by rw [← hw_wc]; exact k1
      replace k2 : wc.cell? ⟨vb, 2, none⟩ = some (.int .u32 (s.c.toNat : Int)) := by rw [← hw_wc]; exact k2
      replace k3 : wc.cell? ⟨vb, 3, none⟩ = some (.int .u32 (s.d.toNat : Int)) := by rw [← hw_wc]; exact k3
      replace k4 : wc.cell? ⟨vb, 4, none⟩ = some (.int .u32 (s.e.toNat : Int)) := by rw [← hw_wc]; exact k4
      replace k5 : wc.cell? ⟨vb, 5, none⟩ = some (.int .u32 (s.f.toNat : Int)) := by rw [← hw_wc]; exact k5
      replace k6 : wc.cell? ⟨vb, 6, none⟩ = some (.int .u32 (s.g.toNat : Int)) := by rw [← hw_wc]; exact k6
      replace k7 : wc.cell? ⟨vb, 7, none⟩ = some (.int .u32 (s.h.toNat : Int)) := by rw [← hw_wc]; exact k7
      replace kk : wc.cell? ⟨kB, i, none⟩ = some (.int .u32 (kx.toNat : Int)) := by rw [← hw_wc]; exact kk
      replace kw : wc.cell? ⟨wB, i, none⟩ = some (.int .u32 (wx.toNat : Int)) := by rw [← hw_wc]; exact kw
      replace HF : Hid (Below w.heap.size w wc) := hide (by rw [← hw_wc]; exact lowN (unhide HF) _)
      clear hw_wc
      go_wp2
      go_quiet ((first | (go_at_call_of 89 (Value.int IntKind.i64 2); exact Calls.quiet_of (turn2 s.a _)) | (go_at_call_of 89 (Value.int IntKind.i64 13); exact Calls.quiet_of (turn13 s.a _)) | (go_at_call_of 89 (Value.int IntKind.i64 22); exact Calls.quiet_of (turn22 s.a _))))
      obtain ⟨wd, hw_wd⟩ : ∃ W, wc.drewN nq = W := ⟨_, rfl⟩
      rw [hw_wd]
      replace k0 : wd.cell? ⟨vb, 0, none⟩ = some (.int .u32 (s.a.toNat : Int)) := by rw [← hw_wd]; exact k0
      replace k1 : wd.cell? ⟨vb, 1, none⟩ = some (.int .u32 (s.b.toNat : Int)) := by rw [← hw_wd]; exact k1
      replace k2 : wd.cell? ⟨vb, 2, none⟩ = some (.int .u32 (s.c.toNat : Int)) := by rw [← hw_wd]; exact k2
      replace k3 : wd.cell? ⟨vb, 3, none⟩ = some (.int .u32 (s.d.toNat : Int)) := by rw [← hw_wd]; exact k3
      replace k4 : wd.cell? ⟨vb, 4, none⟩ = some (.int .u32 (s.e.toNat : Int)) := by rw [← hw_wd]; exact k4
      replace k5 : wd.cell? ⟨vb, 5, none⟩ = some (.int .u32 (s.f.toNat : Int)) := by rw [← hw_wd]; exact k5
      replace k6 : wd.cell? ⟨vb, 6, none⟩ = some (.int .u32 (s.g.toNat : Int)) := by rw [← hw_wd]; exact k6
      replace k7 : wd.cell? ⟨vb, 7, none⟩ = some (.int .u32 (s.h.toNat : Int)) := by rw [← hw_wd]; exact k7
      replace kk : wd.cell? ⟨kB, i, none⟩ = some (.int .u32 (kx.toNat : Int)) := by rw [← hw_wd]; exact kk
      replace kw : wd.cell? ⟨wB, i, none⟩ = some (.int .u32 (wx.toNat : Int)) := by rw [← hw_wd]; exact kw
      replace HF : Hid (Below w.heap.size w wd) := hide (by rw [← hw_wd]; exact lowN (unhide HF) _)
      clear hw_wd
      go_wp2
      go_quiet (fail)
      obtain ⟨we, hw_we⟩ : ∃ W, wd.drewN nq = W := ⟨_, rfl⟩
      rw [hw_we]
      replace k0 : we.cell? ⟨vb, 0, none⟩ = some (.int .u32 (s.a.toNat : Int)) := by rw [← hw_we]; exact k0
      replace k1 : we.cell? ⟨vb, 1, none⟩ = some (.int .u32 (s.b.toNat : Int)) := by rw [← hw_we]; exact k1
      replace k2 : we.cell? ⟨vb, 2, none⟩ = some (.int .u32 (s.c.toNat : Int)) := by rw [← hw_we]; exact k2
      replace k3 : we.cell? ⟨vb, 3, none⟩ = some (.int .u32 (s.d.toNat : Int)) := by rw [← hw_we]; exact k3
      replace k4 : we.cell? ⟨vb, 4, none⟩ = some (.int .u32 (s.e.toNat : Int)) := by rw [← hw_we]; exact k4
      replace k5 : we.cell? ⟨vb, 5, none⟩ = some (.int .u32 (s.f.toNat : Int)) := by rw [← hw_we]; exact k5
      replace k6 : we.cell? ⟨vb, 6, none⟩ = some (.int .u32 (s.g.toNat : Int)) := by rw [← hw_we]; exact k6
      replace k7 : we.cell? ⟨vb, 7, none⟩ = some (.int .u32 (s.h.toNat : Int)) := by rw [← hw_we]; exact k7
      replace kk : we.cell? ⟨kB, i, none⟩ = some (.int .u32 (kx.toNat : Int)) := by rw [← hw_we]; exact kk
      replace kw : we.cell? ⟨wB, i, none⟩ = some (.int .u32 (wx.toNat : Int)) := by rw [← hw_we]; exact kw
      replace HF : Hid (Below w.heap.size w we) := hide (by rw [← hw_we]; exact lowN (unhide HF) _)
      clear hw_we
      go_wp2
      have hvl := lt_of_cell k0
      have HN8 : Hid (stL (rnds s0 (ks.take (i + 1)) (ws.take (i + 1))) = [na, s.a, s.b, s.c, ne, s.e, s.f, s.g]) := hide (by rw [unhide HS, unhide HR, unhide HNA, unhide HNE]; rfl)
      go_region_held3 (fun w' => w'.cell? ⟨vb, 0, none⟩ = some (.int .u32 (s.a.toNat : Int)) ∧ w'.cell? ⟨vb, 1, none⟩ = some (.int .u32 (s.b.toNat : Int)) ∧ w'.cell? ⟨vb, 2, none⟩ = some (.int .u32 (s.c.toNat : Int)) ∧ w'.cell? ⟨vb, 3, none⟩ = some (.int .u32 (s.d.toNat : Int)) ∧ w'.cell? ⟨vb, 4, none⟩ = some (.int .u32 (s.e.toNat : Int)) ∧ w'.cell? ⟨vb, 5, none⟩ = some (.int .u32 (s.f.toNat : Int)) ∧ w'.cell? ⟨vb, 6, none⟩ = some (.int .u32 (s.g.toNat : Int)))
        (go_keep)
        (fail)
      go_wp2
      have e8 : (((one.toNat : Int) + (ta.toNat : Int)) % 4294967296 + (ma.toNat : Int)) % 4294967296 = (na.toNat : Int) := by rw [← e6]; omega
      rw [e8]
      try rw [e7]
      refine ⟨⟨i + 1, we.heap.size, 8, hlt, by push_cast; rfl, rfl, by omega, by omega, Or.inr (unhide HF).size, ?_, ((unhide HF).alloc (unhide HF).size _).drew⟩, ?_⟩
      · rw [unhide HN8]
        exact WBlk.wat (w := (we.alloc _).drew) (l := [na, s.a, s.b, s.c, ne, s.e, s.f, s.g]) (Blk.new we _ 39)
      · simp [intOf]
        omega
    · have hi8 : i = 64 := by omega
      subst hi8
      rw [List.take_of_length_le (by omega), List.take_of_length_le (by omega)] at kv
      have HK := hide kv
      have HF := hide hf
      have HV := hide hvor
      clear kv hf hvor
      go_wp2
      refine ⟨rfl, unhide HX vb vd _ _ _ _ _ _ _ _ _ _ _ _ _ _ _ _ _ _ _ _ _ _ _ _ _ _ _ _ _ _ _ _ _ _ _ _ _ _ _ _ _ _ _ _ _ _ _ _ _ _ _ _ _ _ _ _ _ _ _ _ _ _ _ _ _ _ _ _ _ _ _ _ _ _ _ _ _ _ _ _ _ _ _ _ _ _ _ _ _ _ _ _ _ _ _ _ _ _ _ _ _ _ _ _ _ _ _ _ _ _ _ _ _ _ _ _ _ _ _ _ _ _ wr hvd (unhide HK) (unhide HF) (unhide HV)⟩
end Go.Proofs.YtkablmjkffdloaaGreatDoor

namespace Go.Proofs.YtkablmjkffdloaaGreatDoor
open Go.RowKit

noncomputable def body8 : Code := ((Tryz.f28.body.map loopsOf).getD []).getD 7 .skip

/-- append of four bytes, laid into a block of their own. -/
theorem app_four {B : Nat} {w W1 : World} {v : Value} {l : Bs} {c d e f : UInt8} (ho : OwnB B w v l) (hB : B ≤ w.heap.size) (hl : l.length ≤ 2147483648) (hW : w.alloc (.cells #[.int .u8 (c.toNat : Int), .int .u8 (d.toNat : Int), .int .u8 (e.toNat : Int), .int .u8 (f.toNat : Int)] 5) = W1) :
    ∃ v' w', (Builtin.append_ #[23, 23] 23 #[v, .slice (some ⟨w.heap.size, 0, none⟩) 4 4]).run Tryz.prog W1 = .ok v' w' ∧ OwnB B w' v' (l ++ [c, d, e, f]) ∧ GrB w w' v v' := by
  have hb : Below w.heap.size w W1 := by rw [← hW]; exact (Below.refl _ _).alloc (Nat.le_refl _) _
  have hblk : Blk W1 w.heap.size #[.int .u8 (c.toNat : Int), .int .u8 (d.toNat : Int), .int .u8 (e.toNat : Int), .int .u8 (f.toNat : Int)] 5 := by rw [← hW]; exact Blk.new _ _ _
  obtain ⟨v', w', h1, h2, h3⟩ := app_bytes (a := ⟨w.heap.size, 0, none⟩) (m := [c, d, e, f]) (n := 4) (c := 4) (ho.low hb) (Nat.le_trans hB hb.size) rfl (fun k hk => by
    have : k = 0 ∨ k = 1 ∨ k = 2 ∨ k = 3 := by simp at hk; omega
    rcases this with rfl | rfl | rfl | rfl
    · exact hblk.cell 0
    · exact hblk.cell 1
    · exact hblk.cell 2
    · exact hblk.cell 3) (by omega)
  have ha : GrB w W1 v v := by rw [← hW]; exact GrB.alloc _ _ _
  exact ⟨v', w', h1, h2, ha.trans h3⟩

theorem flat4_len (l : List UInt32) : (l.flatMap be4).length = 4 * l.length := by
  induction l with
  | nil => rfl
  | cons x l ih => rw [List.flatMap_cons, List.length_append, ih]; simp [be4]; omega

set_option maxRecDepth 1000000 in
set_option maxHeartbeats 1500000 in
theorem loop8 {c0 c1 c2 c3 c5 c6 c7 c8 c9 c10 c11 c12 c13 c14 c15 c16 c17 c18 c19 c20 c21 c22 c25 c26 c27 c28 c29 c30 c31 c32 c33 c34 c35 c36 c37 c38 c39 c40 c41 c42 c43 c44 c45 c46 c47 c48 c49 c50 c51 c52 c53 c54 c55 c56 c57 c58 c59 c60 c61 c62 c63 c64 c65 c66 c67 c68 c69 c70 c71 c72 c73 c74 c75 c76 c77 c78 c79 c80 c81 c82 c83 c84 c85 c86 c87 c88 c89 c90 c91 c92 c93 c94 c95 c96 c97 c98 c99 c100 c101 c102 c103 c104 c105 c106 c107 c108 c109 c110 c111 c112 c113 c114 c115 c116 c117 c118 c119 c120 c121 c122 c123 c124 c125 c126 c127 c128 c129 c130 c131 c132 c133 c134 c135 c136 c137 c138 c139 c140 c141 c142 c143 c144 c145 c146 c147 c148 c149 c150 c151 c152 c153 c154 c155 c156 c157 c158 c159 c160 c161 c162 c163 c164 c165 c166 c167 c168 c169 c170 c171 c172 c173 c174 c175 c176 c177 c178 c179 c180 c181 c182 c183 c184 c185 c186 c187 c188 c189 c190 c191 c192 c193 c194 c195 c196 c197 c198 c199 c200 c201 c202 c203 c204 c205 c206 c207 c208 c209 c210 c211 c212 c213 c214 c215 c216 c217 c218 c219 c220 c221 c222 c223 c224 c225 c226 c227 c228 c229 c230 c231 c232 c233 c234 c235 c236 c237 c238 c239 c240 c241 c242 c243 c244 c245 c246 c247 c248 c249 c250 c251 c252 c253 c254 c255 c256 c257 c258 c259 c260 c261 c262 c263 c264 c265 c266 c267 c268 c269 c270 c271 c272 c273 c274 c275 c276 c277 c278 c279 c280 c281 c282 c283 c284 c285 c286 c287 c288 c289 c290 c291 c292 c293 c294 c295 c296 c297 c298 c299 c300 c301 c302 c303 c304 c305 c306 c307 c308 c309 c310 c311 c312 c313 c314 c315 c316 c317 c318 c319 c320 c321 c322 c323 c324 c325 c326 c327 c328 c329 : Value} {hB : Nat} {hs : List UInt32} {w : World} {Post : Act → World → Prop} (hh : hs.length = 8) (kh0 : WBlk w hB hs)
    (hexit : ∀ vo d299 d300 d301 d302 d303 d304 d305 d306 d307 d308 d309 d310 d311 d312 d313 d314 d315 d316 d317 d318 d319 d320 d321 d322 d323 d324 d325 d326 d327 d328 w', OwnB w.heap.size w' vo (hs.flatMap be4) → Below w.heap.size w w' → Post ⟨(List.toArray (c0 :: c1 :: c2 :: c3 :: (.slice (some ⟨hB, 0, none⟩) 8 8) :: c5 :: c6 :: c7 :: c8 :: c9 :: c10 :: c11 :: c12 :: c13 :: c14 :: c15 :: c16 :: c17 :: c18 :: c19 :: c20 :: c21 :: c22 :: vo :: (.int .i64 8) :: c25 :: c26 :: c27 :: c28 :: c29 :: c30 :: c31 :: c32 :: c33 :: c34 :: c35 :: c36 :: c37 :: c38 :: c39 :: c40 :: c41 :: c42 :: c43 :: c44 :: c45 :: c46 :: c47 :: c48 :: c49 :: c50 :: c51 :: c52 :: c53 :: c54 :: c55 :: c56 :: c57 :: c58 :: c59 :: c60 :: c61 :: c62 :: c63 :: c64 :: c65 :: c66 :: c67 :: c68 :: c69 :: c70 :: c71 :: c72 :: c73 :: c74 :: c75 :: c76 :: c77 :: c78 :: c79 :: c80 :: c81 :: c82 :: c83 :: c84 :: c85 :: c86 :: c87 :: c88 :: c89 :: c90 :: c91 :: c92 :: c93 :: c94 :: c95 :: c96 :: c97 :: c98 :: c99 :: c100 :: c101 :: c102 :: c103 :: c104 :: c105 :: c106 :: c107 :: c108 :: c109 :: c110 :: c111 :: c112 :: c113 :: c114 :: c115 :: c116 :: c117 :: c118 :: c119 :: c120 :: c121 :: c122 :: c123 :: c124 :: c125 :: c126 :: c127 :: c128 :: c129 :: c130 :: c131 :: c132 :: c133 :: c134 :: c135 :: c136 :: c137 :: c138 :: c139 :: c140 :: c141 :: c142 :: c143 :: c144 :: c145 :: c146 :: c147 :: c148 :: c149 :: c150 :: c151 :: c152 :: c153 :: c154 :: c155 :: c156 :: c157 :: c158 :: c159 :: c160 :: c161 :: c162 :: c163 :: c164 :: c165 :: c166 :: c167 :: c168 :: c169 :: c170 :: c171 :: c172 :: c173 :: c174 :: c175 :: c176 :: c177 :: c178 :: c179 :: c180 :: c181 :: c182 :: c183 :: c184 :: c185 :: c186 :: c187 :: c188 :: c189 :: c190 :: c191 :: c192 :: c193 :: c194 :: c195 :: c196 :: c197 :: c198 :: c199 :: c200 :: c201 :: c202 :: c203 :: c204 :: c205 :: c206 :: c207 :: c208 :: c209 :: c210 :: c211 :: c212 :: c213 :: c214 :: c215 :: c216 :: c217 :: c218 :: c219 :: c220 :: c221 :: c222 :: c223 :: c224 :: c225 :: c226 :: c227 :: c228 :: c229 :: c230 :: c231 :: c232 :: c233 :: c234 :: c235 :: c236 :: c237 :: c238 :: c239 :: c240 :: c241 :: c242 :: c243 :: c244 :: c245 :: c246 :: c247 :: c248 :: c249 :: c250 :: c251 :: c252 :: c253 :: c254 :: c255 :: c256 :: c257 :: c258 :: c259 :: c260 :: c261 :: c262 :: c263 :: c264 :: c265 :: c266 :: c267 :: c268 :: c269 :: c270 :: c271 :: c272 :: c273 :: c274 :: c275 :: c276 :: c277 :: c278 :: c279 :: c280 :: c281 :: c282 :: c283 :: c284 :: c285 :: c286 :: c287 :: c288 :: c289 :: c290 :: c291 :: c292 :: c293 :: c294 :: c295 :: c296 :: c297 :: c298 :: d299 :: d300 :: d301 :: d302 :: d303 :: d304 :: d305 :: d306 :: d307 :: d308 :: d309 :: d310 :: d311 :: d312 :: d313 :: d314 :: d315 :: d316 :: d317 :: d318 :: d319 :: d320 :: d321 :: d322 :: d323 :: d324 :: d325 :: d326 :: d327 :: d328 :: c329 :: [])), []⟩ w') :
    Code.wp Tryz.prog (Code.loop body8) (OnExit 14 Post) ⟨(List.toArray (c0 :: c1 :: c2 :: c3 :: (.slice (some ⟨hB, 0, none⟩) 8 8) :: c5 :: c6 :: c7 :: c8 :: c9 :: c10 :: c11 :: c12 :: c13 :: c14 :: c15 :: c16 :: c17 :: c18 :: c19 :: c20 :: c21 :: c22 :: (.slice none 0 0) :: (.int .i64 0) :: c25 :: c26 :: c27 :: c28 :: c29 :: c30 :: c31 :: c32 :: c33 :: c34 :: c35 :: c36 :: c37 :: c38 :: c39 :: c40 :: c41 :: c42 :: c43 :: c44 :: c45 :: c46 :: c47 :: c48 :: c49 :: c50 :: c51 :: c52 :: c53 :: c54 :: c55 :: c56 :: c57 :: c58 :: c59 :: c60 :: c61 :: c62 :: c63 :: c64 :: c65 :: c66 :: c67 :: c68 :: c69 :: c70 :: c71 :: c72 :: c73 :: c74 :: c75 :: c76 :: c77 :: c78 :: c79 :: c80 :: c81 :: c82 :: c83 :: c84 :: c85 :: c86 :: c87 :: c88 :: c89 :: c90 :: c91 :: c92 :: c93 :: c94 :: c95 :: c96 :: c97 :: c98 :: c99 :: c100 :: c101 :: c102 :: c103 :: c104 :: c105 :: c106 :: c107 :: c108 :: c109 :: c110 :: c111 :: c112 :: c113 :: c114 :: c115 :: c116 :: c117 :: c118 :: c119 :: c120 :: c121 :: c122 :: c123 :: c124 :: c125 :: c126 :: c127 :: c128 :: c129 :: c130 :: c131 :: c132 :: c133 :: c134 :: c135 :: c136 :: c137 :: c138 :: c139 :: c140 :: c141 :: c142 :: c143 :: c144 :: c145 :: c146 :: c147 :: c148 :: c149 :: c150 :: c151 :: c152 :: c153 :: c154 :: c155 :: c156 :: c157 :: c158 :: c159 :: c160 :: c161 :: c162 :: c163 :: c164 :: c165 :: c166 :: c167 :: c168 :: c169 :: c170 :: c171 :: c172 :: c173 :: c174 :: c175 :: c176 :: c177 :: c178 :: c179 :: c180 :: c181 :: c182 :: c183 :: c184 :: c185 :: c186 :: c187 :: c188 :: c189 :: c190 :: c191 :: c192 :: c193 :: c194 :: c195 :: c196 :: c197 :: c198 :: c199 :: c200 :: c201 :: c202 :: c203 :: c204 :: c205 :: c206 :: c207 :: c208 :: c209 :: c210 :: c211 :: c212 :: c213 :: c214 :: c215 :: c216 :: c217 :: c218 :: c219 :: c220 :: c221 :: c222 :: c223 :: c224 :: c225 :: c226 :: c227 :: c228 :: c229 :: c230 :: c231 :: c232 :: c233 :: c234 :: c235 :: c236 :: c237 :: c238 :: c239 :: c240 :: c241 :: c242 :: c243 :: c244 :: c245 :: c246 :: c247 :: c248 :: c249 :: c250 :: c251 :: c252 :: c253 :: c254 :: c255 :: c256 :: c257 :: c258 :: c259 :: c260 :: c261 :: c262 :: c263 :: c264 :: c265 :: c266 :: c267 :: c268 :: c269 :: c270 :: c271 :: c272 :: c273 :: c274 :: c275 :: c276 :: c277 :: c278 :: c279 :: c280 :: c281 :: c282 :: c283 :: c284 :: c285 :: c286 :: c287 :: c288 :: c289 :: c290 :: c291 :: c292 :: c293 :: c294 :: c295 :: c296 :: c297 :: c298 :: c299 :: c300 :: c301 :: c302 :: c303 :: c304 :: c305 :: c306 :: c307 :: c308 :: c309 :: c310 :: c311 :: c312 :: c313 :: c314 :: c315 :: c316 :: c317 :: c318 :: c319 :: c320 :: c321 :: c322 :: c323 :: c324 :: c325 :: c326 :: c327 :: c328 :: c329 :: [])), []⟩ w := by
  have HX := hide hexit
  have HH := hide kh0
  clear hexit kh0
  conv => arg 2; arg 1; whnf
  go_loopw [23, 24] (fun v23 v24 wr => ∃ i : Nat, i ≤ 8 ∧ v24 = .int .i64 (i : Int) ∧ OwnB w.heap.size wr v23 ((hs.take i).flatMap be4) ∧ Below w.heap.size w wr) (fun _ v24 _ => 8 - (intOf v24).toNat)
  case atStart => exact ⟨0, by omega, rfl, World.ownsRow_nil _ _ _ _, Below.refl _ _⟩
  case round =>
    rename World => wr
    obtain ⟨i, hi, rfl, ho, hf⟩ := hrel
    by_cases hlt : i < 8
    · obtain ⟨x, hx⟩ : ∃ x, hs[i]'(by omega) = x := ⟨_, rfl⟩
      have k1 : wr.cell? ⟨hB, i, none⟩ = some (.int .u32 (x.toNat : Int)) := by
        rw [WBlk.at (l := hs) ((unhide HH).low hf) (i := i) (by omega), hx]
      have e1 := byte4_24 x
      have e2 := byte4_16 x
      have e3 := byte4_8 x
      have e4 := byte4_0 x
      obtain ⟨b1, h1⟩ : ∃ b, (x >>> 24).toUInt8 = b := ⟨_, rfl⟩
      obtain ⟨b2, h2⟩ : ∃ b, (x >>> 16).toUInt8 = b := ⟨_, rfl⟩
      obtain ⟨b3, h3⟩ : ∃ b, (x >>> 8).toUInt8 = b := ⟨_, rfl⟩
      obtain ⟨b4, h4⟩ : ∃ b, x.toUInt8 = b := ⟨_, rfl⟩
      rw [h1] at e1
      rw [h2] at e2
      rw [h3] at e3
      rw [h4] at e4
      have u1 : IntKind.u8.wrap ((x.toNat : Int) / 16777216) = (b1.toNat : Int) := by rw [← e1]; simp [IntKind.wrap, IntKind.bits, IntKind.signed]
      have u2 : IntKind.u8.wrap ((x.toNat : Int) / 65536) = (b2.toNat : Int) := by rw [← e2]; simp [IntKind.wrap, IntKind.bits, IntKind.signed]
      have u3 : IntKind.u8.wrap ((x.toNat : Int) / 256) = (b3.toNat : Int) := by rw [← e3]; simp [IntKind.wrap, IntKind.bits, IntKind.signed]
      have u4 : IntKind.u8.wrap (x.toNat : Int) = (b4.toNat : Int) := by rw [← e4]; simp [IntKind.wrap, IntKind.bits, IntKind.signed]
      have hbx := u32_lt x
      have hsn : (hs.take i).flatMap be4 ++ [b1, b2, b3, b4] = (hs.take (i + 1)).flatMap be4 := by
        have e : hs.take (i + 1) = hs.take i ++ [hs[i]'(by omega)] := by simp
        rw [e, List.flatMap_append, hx]
        simp [be4, h1, h2, h3, h4]
      have hlen : ((hs.take i).flatMap be4).length ≤ 2147483648 := by rw [flat4_len, List.length_take]; omega
      obtain ⟨W1, hW1⟩ : ∃ W1, wr.drew.alloc (.cells #[.int .u8 (b1.toNat : Int), .int .u8 (b2.toNat : Int), .int .u8 (b3.toNat : Int), .int .u8 (b4.toNat : Int)] 5) = W1 := ⟨_, rfl⟩
      obtain ⟨v', w', happ, hown, hgr⟩ := app_four (W1 := W1) (w := wr.drew) (ho.low (Below.refl _ _).drew) hf.size hlen hW1
      rw [hsn] at hown
      have HP : Hid (OwnB w.heap.size w' v' ((hs.take (i + 1)).flatMap be4) ∧ Below w.heap.size w w') := hide ⟨hown, hf.drew.trans (hgr.low hf.size (OwnB.base ho))⟩
      have HW1 : Hid ((wr.alloc (.cells #[.int .u8 (b1.toNat : Int), .int .u8 (b2.toNat : Int), .int .u8 (b3.toNat : Int), .int .u8 (b4.toNat : Int)] 5)).drew = W1) := hide hW1
      have ii : (i : Int) < 8 := by omega
      have kS : w'.cell? ⟨hB, i, none⟩ = some (.int .u32 (x.toNat : Int)) := by
        have := (unhide HP).2
        rw [WBlk.at (l := hs) ((unhide HH).low this) (i := i) (by omega), hx]
      have happ2 : (Builtin.append_ #[23, 23] 23 #[u23, .slice (some ⟨wr.heap.size, 0, none⟩) 4 4]).run Tryz.prog W1 = .ok v' w' := happ
      clear happ ho hf hown hgr hW1 hsn hx h1 h2 h3 h4 hlen
      go_wp2
      go_region_held3 (fun w' => w'.cell? ⟨hB, i, none⟩ = some (.int .u32 (x.toNat : Int)))
        (first | go_keep | exact kS | assumption)
        ((rw [unhide HW1]; refine Lib.wp_append_run _ (.tmp 303) (.tmp 327) 23 23 (by rfl) u23 (.slice (some ⟨wr.heap.size, 0, none⟩) 4 4) (by kernel_rfl) (by kernel_rfl) v' w' happ2 ?_))
      go_wp2
      refine ⟨⟨i + 1, hlt, by push_cast; rfl, (unhide HP).1, (unhide HP).2⟩, ?_⟩
      simp [intOf]
      omega
    · have hi8 : i = 8 := by omega
      subst hi8
      rw [List.take_of_length_le (by omega)] at ho
      have HK := hide ho
      have HF := hide hf
      clear ho hf
      go_wp2
      refine ⟨rfl, unhide HX _ _ _ _ _ _ _ _ _ _ _ _ _ _ _ _ _ _ _ _ _ _ _ _ _ _ _ _ _ _ _ wr (unhide HK) (unhide HF)⟩
end Go.Proofs.YtkablmjkffdloaaGreatDoor

namespace Go.Proofs.YtkablmjkffdloaaGreatDoor
open Go.RowKit

noncomputable def body3 : Code := ((Tryz.f28.body.map loopsOf).getD []).getD 2 .skip

theorem Fr1.low {B base : Nat} {w w' : World} (h : Fr1 B w w') (hB : base ≤ B) (hs : base ≤ w.heap.size) : Below base w w' := ⟨h.os, h.tape, h.output, h.size, fun k hk => h.block k (by omega) (by omega)⟩

/-- While the blocks of a text are mixed in. -/
structure R3 (w : World) (base kB hB mB wB : Nat) (M : Bs) (s : St) (wr : World) : Prop where
  kk : WBlk wr kB kL
  hh : WBlk wr hB (stL s)
  ww : ∃ wl, wl.length = 64 ∧ WBlk wr wB wl
  mm : ∀ k (hk : k < M.length), wr.cell? ⟨mB, k, none⟩ = some (.int .u8 (M[k].toNat : Int))
  low : Below base w wr
  size : base ≤ wr.heap.size

theorem R3.below {w wr w' : World} {base kB hB mB wB : Nat} {M : Bs} {s : St} (h : R3 w base kB hB mB wB M s wr) (b : Below wr.heap.size wr w') : R3 w base kB hB mB wB M s w' :=
  ⟨h.kk.low b, h.hh.low b, by obtain ⟨wl, h1, h2⟩ := h.ww; exact ⟨wl, h1, h2.low b⟩, fun k hk => (b.cell (lt_of_cell (h.mm k hk))).trans (h.mm k hk), h.low.trans (b.mono h.size), Nat.le_trans h.size b.size⟩
theorem R3.words {w wr w' : World} {base kB hB mB wB : Nat} {M : Bs} {s : St} {wl : List UInt32} (h : R3 w base kB hB mB wB M s wr) (f : Fr1 wB wr w') (k1 : kB ≠ wB) (k2 : hB ≠ wB) (k3 : mB ≠ wB) (k4 : base ≤ wB) (hl : wl.length = 64) (hw : WBlk w' wB wl) : R3 w base kB hB mB wB M s w' :=
  ⟨f.blk k1 h.kk, f.blk k2 h.hh, ⟨wl, hl, hw⟩, fun k hk => (World.cell?_of_block (f.block mB (lt_of_cell (h.mm k hk)) k3)).trans (h.mm k hk), h.low.trans (f.low k4 h.size), Nat.le_trans h.size f.size⟩
theorem R3.sums {w wr w' : World} {base kB hB mB wB : Nat} {M : Bs} {s s' : St} (h : R3 w base kB hB mB wB M s wr) (f : Fr1 hB wr w') (k1 : kB ≠ hB) (k2 : wB ≠ hB) (k3 : mB ≠ hB) (k4 : base ≤ hB) (hw : WBlk w' hB (stL s')) : R3 w base kB hB mB wB M s' w' :=
  ⟨f.blk k1 h.kk, hw, by obtain ⟨wl, h1, h2⟩ := h.ww; exact ⟨wl, h1, f.blk k2 h2⟩, fun k hk => (World.cell?_of_block (f.block mB (lt_of_cell (h.mm k hk)) k3)).trans (h.mm k hk), h.low.trans (f.low k4 h.size), Nat.le_trans h.size f.size⟩

set_option maxRecDepth 1000000 in
set_option maxHeartbeats 8000000 in
theorem loop3 {c0 c1 c2 c6 c7 c10 c11 c12 c13 c14 c15 c16 c17 c18 c19 c20 c21 c22 c23 c24 c25 c26 c27 c28 c29 c30 c31 c32 c33 c34 c35 c36 c37 c38 c39 c40 c41 c42 c43 c44 c45 c46 c47 c48 c49 c50 c51 c52 c53 c54 c55 c56 c57 c58 c59 c60 c61 c62 c63 c64 c65 c66 c67 c68 c69 c70 c71 c72 c73 c74 c75 c76 c77 c78 c79 c80 c81 c82 c83 c84 c85 c86 c87 c88 c89 c90 c91 c92 c93 c94 c95 c96 c97 c98 c99 c100 c101 c102 c103 c104 c105 c106 c107 c108 c109 c110 c111 c112 c113 c114 c115 c116 c117 c118 c119 c120 c121 c122 c123 c124 c125 c126 c127 c128 c129 c130 c131 c132 c133 c134 c135 c136 c137 c138 c139 c140 c141 c142 c143 c144 c145 c146 c147 c148 c149 c150 c151 c152 c153 c154 c155 c156 c157 c158 c159 c160 c161 c162 c163 c164 c165 c166 c167 c168 c169 c170 c171 c172 c173 c174 c175 c176 c177 c178 c179 c180 c181 c182 c183 c184 c185 c186 c187 c188 c189 c190 c191 c192 c193 c194 c195 c196 c197 c198 c199 c200 c201 c202 c203 c204 c205 c206 c207 c208 c209 c210 c211 c212 c213 c214 c215 c216 c217 c218 c219 c220 c221 c222 c223 c224 c225 c226 c227 c228 c229 c230 c231 c232 c233 c234 c235 c236 c237 c238 c239 c240 c241 c242 c243 c244 c245 c246 c247 c248 c249 c250 c251 c252 c253 c254 c255 c256 c257 c258 c259 c260 c261 c262 c263 c264 c265 c266 c267 c268 c269 c270 c271 c272 c273 c274 c275 c276 c277 c278 c279 c280 c281 c282 c283 c284 c285 c286 c287 c288 c289 c290 c291 c292 c293 c294 c295 c296 c297 c298 c299 c300 c301 c302 c303 c304 c305 c306 c307 c308 c309 c310 c311 c312 c313 c314 c315 c316 c317 c318 c319 c320 c321 c322 c323 c324 c325 c326 c327 c328 c329 : Value} {base kB hB mB wB ml mc q : Nat} {M : Bs} {w : World} {Post : Act → World → Prop} (hq : ml = 64 * q) (hM : M.length = ml) (hmx : ml ≤ 2147483648) (hkh : kB ≠ hB) (hkw : kB ≠ wB) (hhw : hB ≠ wB) (hmh : mB ≠ hB) (hmw : mB ≠ wB) (bh : base ≤ hB) (bw : base ≤ wB) (h0 : R3 w base kB hB mB wB M st0 w)
    (hexit : ∀ d10 d11 d12 d13 d14 d15 d16 d17 d18 d19 d20 d21 d22 d55 d56 d57 d58 d59 d60 d61 d62 d63 d64 d65 d66 d67 d68 d69 d70 d71 d72 d73 d74 d75 d76 d77 d78 d79 d80 d81 d82 d83 d84 d85 d86 d87 d88 d89 d90 d91 d92 d93 d94 d95 d96 d97 d98 d99 d100 d101 d102 d103 d104 d105 d106 d107 d108 d109 d110 d111 d112 d113 d114 d115 d116 d117 d118 d119 d120 d121 d122 d123 d124 d125 d126 d127 d128 d129 d130 d131 d132 d133 d134 d135 d136 d137 d138 d139 d140 d141 d142 d143 d144 d145 d146 d147 d148 d149 d150 d151 d152 d153 d154 d155 d156 d157 d158 d159 d160 d161 d162 d163 d164 d165 d166 d167 d168 d169 d170 d171 d172 d173 d174 d175 d176 d177 d178 d179 d180 d181 d182 d183 d184 d185 d186 d187 d188 d189 d190 d191 d192 d193 d194 d195 d196 d197 d198 d199 d200 d201 d202 d203 d204 d205 d206 d207 d208 d209 d210 d211 d212 d213 d214 d215 d216 d217 d218 d219 d220 d221 d222 d223 d224 d225 d226 d227 d228 d229 d230 d231 d232 d233 d234 d235 d236 d237 d238 d239 d240 d241 d242 d243 d244 d245 d246 d247 d248 d249 d250 d251 d252 d253 d254 d255 d256 d257 d258 d259 d260 d261 d262 d263 d264 d265 d266 d267 d268 d269 d270 d271 d272 d273 d274 d275 d276 d277 d278 d279 d280 d281 d282 d283 d284 d285 d286 d287 d288 d289 d290 d291 d292 d293 d294 d295 d296 d297 d298 w', R3 w base kB hB mB wB M (mixAll q st0 M) w' → Post ⟨(List.toArray (c0 :: c1 :: c2 :: (.slice (some ⟨kB, 0, none⟩) 64 64) :: (.slice (some ⟨hB, 0, none⟩) 8 8) :: (.slice (some ⟨mB, 0, none⟩) ml mc) :: c6 :: c7 :: (.slice (some ⟨wB, 0, none⟩) 64 64) :: (.int .i64 (ml : Int)) :: d10 :: d11 :: d12 :: d13 :: d14 :: d15 :: d16 :: d17 :: d18 :: d19 :: d20 :: d21 :: d22 :: c23 :: c24 :: c25 :: c26 :: c27 :: c28 :: c29 :: c30 :: c31 :: c32 :: c33 :: c34 :: c35 :: c36 :: c37 :: c38 :: c39 :: c40 :: c41 :: c42 :: c43 :: c44 :: c45 :: c46 :: c47 :: c48 :: c49 :: c50 :: c51 :: c52 :: c53 :: c54 :: d55 :: d56 :: d57 :: d58 :: d59 :: d60 :: d61 :: d62 :: d63 :: d64 :: d65 :: d66 :: d67 :: d68 :: d69 :: d70 :: d71 :: d72 :: d73 :: d74 :: d75 :: d76 :: d77 :: d78 :: d79 :: d80 :: d81 :: d82 :: d83 :: d84 :: d85 :: d86 :: d87 :: d88 :: d89 :: d90 :: d91 :: d92 :: d93 :: d94 :: d95 :: d96 :: d97 :: d98 :: d99 :: d100 :: d101 :: d102 :: d103 :: d104 :: d105 :: d106 :: d107 :: d108 :: d109 :: d110 :: d111 :: d112 :: d113 :: d114 :: d115 :: d116 :: d117 :: d118 :: d119 :: d120 :: d121 :: d122 :: d123 :: d124 :: d125 :: d126 :: d127 :: d128 :: d129 :: d130 :: d131 :: d132 :: d133 :: d134 :: d135 :: d136 :: d137 :: d138 :: d139 :: d140 :: d141 :: d142 :: d143 :: d144 :: d145 :: d146 :: d147 :: d148 :: d149 :: d150 :: d151 :: d152 :: d153 :: d154 :: d155 :: d156 :: d157 :: d158 :: d159 :: d160 :: d161 :: d162 :: d163 :: d164 :: d165 :: d166 :: d167 :: d168 :: d169 :: d170 :: d171 :: d172 :: d173 :: d174 :: d175 :: d176 :: d177 :: d178 :: d179 :: d180 :: d181 :: d182 :: d183 :: d184 :: d185 :: d186 :: d187 :: d188 :: d189 :: d190 :: d191 :: d192 :: d193 :: d194 :: d195 :: d196 :: d197 :: d198 :: d199 :: d200 :: d201 :: d202 :: d203 :: d204 :: d205 :: d206 :: d207 :: d208 :: d209 :: d210 :: d211 :: d212 :: d213 :: d214 :: d215 :: d216 :: d217 :: d218 :: d219 :: d220 :: d221 :: d222 :: d223 :: d224 :: d225 :: d226 :: d227 :: d228 :: d229 :: d230 :: d231 :: d232 :: d233 :: d234 :: d235 :: d236 :: d237 :: d238 :: d239 :: d240 :: d241 :: d242 :: d243 :: d244 :: d245 :: d246 :: d247 :: d248 :: d249 :: d250 :: d251 :: d252 :: d253 :: d254 :: d255 :: d256 :: d257 :: d258 :: d259 :: d260 :: d261 :: d262 :: d263 :: d264 :: d265 :: d266 :: d267 :: d268 :: d269 :: d270 :: d271 :: d272 :: d273 :: d274 :: d275 :: d276 :: d277 :: d278 :: d279 :: d280 :: d281 :: d282 :: d283 :: d284 :: d285 :: d286 :: d287 :: d288 :: d289 :: d290 :: d291 :: d292 :: d293 :: d294 :: d295 :: d296 :: d297 :: d298 :: c299 :: c300 :: c301 :: c302 :: c303 :: c304 :: c305 :: c306 :: c307 :: c308 :: c309 :: c310 :: c311 :: c312 :: c313 :: c314 :: c315 :: c316 :: c317 :: c318 :: c319 :: c320 :: c321 :: c322 :: c323 :: c324 :: c325 :: c326 :: c327 :: c328 :: c329 :: [])), []⟩ w') :
    Code.wp Tryz.prog (Code.loop body3) (OnExit 4 Post) ⟨(List.toArray (c0 :: c1 :: c2 :: (.slice (some ⟨kB, 0, none⟩) 64 64) :: (.slice (some ⟨hB, 0, none⟩) 8 8) :: (.slice (some ⟨mB, 0, none⟩) ml mc) :: c6 :: c7 :: (.slice (some ⟨wB, 0, none⟩) 64 64) :: (.int .i64 0) :: c10 :: c11 :: c12 :: c13 :: c14 :: c15 :: c16 :: c17 :: c18 :: c19 :: c20 :: c21 :: c22 :: c23 :: c24 :: c25 :: c26 :: c27 :: c28 :: c29 :: c30 :: c31 :: c32 :: c33 :: c34 :: c35 :: c36 :: c37 :: c38 :: c39 :: c40 :: c41 :: c42 :: c43 :: c44 :: c45 :: c46 :: c47 :: c48 :: c49 :: c50 :: c51 :: c52 :: c53 :: c54 :: c55 :: c56 :: c57 :: c58 :: c59 :: c60 :: c61 :: c62 :: c63 :: c64 :: c65 :: c66 :: c67 :: c68 :: c69 :: c70 :: c71 :: c72 :: c73 :: c74 :: c75 :: c76 :: c77 :: c78 :: c79 :: c80 :: c81 :: c82 :: c83 :: c84 :: c85 :: c86 :: c87 :: c88 :: c89 :: c90 :: c91 :: c92 :: c93 :: c94 :: c95 :: c96 :: c97 :: c98 :: c99 :: c100 :: c101 :: c102 :: c103 :: c104 :: c105 :: c106 :: c107 :: c108 :: c109 :: c110 :: c111 :: c112 :: c113 :: c114 :: c115 :: c116 :: c117 :: c118 :: c119 :: c120 :: c121 :: c122 :: c123 :: c124 :: c125 :: c126 :: c127 :: c128 :: c129 :: c130 :: c131 :: c132 :: c133 :: c134 :: c135 :: c136 :: c137 :: c138 :: c139 :: c140 :: c141 :: c142 :: c143 :: c144 :: c145 :: c146 :: c147 :: c148 :: c149 :: c150 :: c151 :: c152 :: c153 :: c154 :: c155 :: c156 :: c157 :: c158 :: c159 :: c160 :: c161 :: c162 :: c163 :: c164 :: c165 :: c166 :: c167 :: c168 :: c169 :: c170 :: c171 :: c172 :: c173 :: c174 :: c175 :: c176 :: c177 :: c178 :: c179 :: c180 :: c181 :: c182 :: c183 :: c184 :: c185 :: c186 :: c187 :: c188 :: c189 :: c190 :: c191 :: c192 :: c193 :: c194 :: c195 :: c196 :: c197 :: c198 :: c199 :: c200 :: c201 :: c202 :: c203 :: c204 :: c205 :: c206 :: c207 :: c208 :: c209 :: c210 :: c211 :: c212 :: c213 :: c214 :: c215 :: c216 :: c217 :: c218 :: c219 :: c220 :: c221 :: c222 :: c223 :: c224 :: c225 :: c226 :: c227 :: c228 :: c229 :: c230 :: c231 :: c232 :: c233 :: c234 :: c235 :: c236 :: c237 :: c238 :: c239 :: c240 :: c241 :: c242 :: c243 :: c244 :: c245 :: c246 :: c247 :: c248 :: c249 :: c250 :: c251 :: c252 :: c253 :: c254 :: c255 :: c256 :: c257 :: c258 :: c259 :: c260 :: c261 :: c262 :: c263 :: c264 :: c265 :: c266 :: c267 :: c268 :: c269 :: c270 :: c271 :: c272 :: c273 :: c274 :: c275 :: c276 :: c277 :: c278 :: c279 :: c280 :: c281 :: c282 :: c283 :: c284 :: c285 :: c286 :: c287 :: c288 :: c289 :: c290 :: c291 :: c292 :: c293 :: c294 :: c295 :: c296 :: c297 :: c298 :: c299 :: c300 :: c301 :: c302 :: c303 :: c304 :: c305 :: c306 :: c307 :: c308 :: c309 :: c310 :: c311 :: c312 :: c313 :: c314 :: c315 :: c316 :: c317 :: c318 :: c319 :: c320 :: c321 :: c322 :: c323 :: c324 :: c325 :: c326 :: c327 :: c328 :: c329 :: [])), []⟩ w := by
  have HX := hide hexit
  have HM := hide hM
  have HQ := hide hq
  clear hexit hM hq
  conv => arg 2; arg 1; whnf
  go_loopw [9, 10, 11, 12, 13, 14, 15, 16, 17, 18, 19, 20, 21, 22] (fun v9 _ _ _ _ _ _ _ _ _ _ _ _ _ wr => ∃ t A : Nat, t ≤ q ∧ A = 64 * t ∧ v9 = .int .i64 (A : Int) ∧ R3 w base kB hB mB wB M (mixAll t st0 M) wr) (fun v9 _ _ _ _ _ _ _ _ _ _ _ _ _ _ => ml - (intOf v9).toNat)
  case atStart => exact ⟨0, 0, Nat.zero_le _, rfl, rfl, h0⟩
  case round =>
    rename World => wr
    clear h0
    obtain ⟨t, A, ht, hA, rfl, hr⟩ := hrel
    by_cases hlt : t < q
    · obtain ⟨s, hs⟩ : ∃ s, mixAll t st0 M = s := ⟨_, rfl⟩
      rw [hs] at hr
      have hAm : A + 64 ≤ ml := by have := unhide HQ; omega
      obtain ⟨bl, hbl, hb64, hbc⟩ : ∃ bl : Bs, (M.drop (64 * t)).take 64 = bl ∧ bl.length = 64 ∧ ∀ k (hk : k < bl.length), wr.cell? ⟨mB, A + k, none⟩ = some (.int .u8 (bl[k].toNat : Int)) := by
        have hl : ((M.drop (64 * t)).take 64).length = 64 := by rw [List.length_take, List.length_drop, unhide HM]; omega
        refine ⟨_, rfl, hl, fun k hk => ?_⟩
        rw [hl] at hk
        rw [hr.mm (A + k) (by rw [unhide HM]; omega)]
        simp [hA]
      obtain ⟨wl, hwl, hww⟩ := hr.ww
      have HNX : Hid (mixAll (t + 1) st0 M = addS s (rnds s kL (sched bl))) := hide (by rw [mixAll_snoc, hs, hbl]; rfl)
      have hmB : mB < wr.heap.size := lt_of_cell (hbc 0 (by omega))
      have HR := hide hr
      have HBC := hide hbc
      have HA := hide hA
      have hAlt : A < ml := by omega
      have HB64 := hide hb64
      clear hr hs hbl hbc hA hb64
      go_wp2
      refine useLoop 6 (loop4 (bl := bl) (ws := wl) (nw := sched bl) (at0 := A) (unhide HB64) hwl (sched_length (unhide HB64)) (sched_front (unhide HB64)) hAm (by omega) hmw (unhide HBC) hmB hww ?_)
      intro x0 x1 x2 x3 x4 x5 x6 x7 x8 x9 x10 x11 x12 x13 x14 x15 x16 x17 x18 x19 x20 x21 x22 x23 x24 x25 x26 x27 x28 x29 x30 x31 x32 x33 x34 x35 x36 x37 x38 x39 x40 w2 k2 f2
      have HS := hide (And.intro k2 f2)
      clear k2 f2 hww
      go_wp2
      refine useLoop 8 (loop5 (ws := wl) (nw := sched bl) hwl (sched_length (unhide HB64)) (sched_step (unhide HB64)) (unhide HS).1 ?_)
      intro y0 y1 y2 y3 y4 y5 y6 y7 y8 y9 y10 y11 y12 y13 y14 y15 y16 y17 y18 y19 y20 y21 y22 y23 y24 y25 y26 y27 y28 y29 y30 y31 y32 y33 y34 y35 y36 y37 y38 y39 y40 y41 y42 y43 y44 y45 y46 y47 y48 y49 y50 y51 y52 y53 y54 y55 y56 y57 y58 y59 y60 y61 y62 y63 w3 k3 f3
      have r3 := (unhide HR).words ((unhide HS).2.trans f3) hkw hhw hmw bw (sched_length (unhide HB64)) k3
      have HK3 := hide k3
      obtain ⟨W4, hW4⟩ : ∃ W4, w3.alloc (.cells #[] 39) = W4 := ⟨_, rfl⟩
      obtain ⟨vB, vc, w4, happ, hvc, hvx, hva, hb4, hvB⟩ := app_words (stL_len s) r3.hh hW4
      have r4 := r3.below hb4
      have hvh : vB ≠ hB := by have := r3.hh.lt; omega
      have HK4 : Hid (WBlk w4 wB (sched bl)) := hide ((unhide HK3).low hb4)
      have HR4 := hide r4
      have HVA := hide hva
      have HW4 := hide hW4
      have HVC := hide (And.intro hvc hvx)
      have hhB4 := r4.hh.lt
      clear r3 r4 k3 f3 hb4 hW4 hva HS HR HK3 hvc hvx hvB
      go_wp2_with (at_builtin; rw [unhide HW4]; refine Lib.wpList_append_run _ rfl (.tmp 163) (.tmp 164) 129 129 (by rfl) (.slice (some ⟨w3.heap.size, 0, none⟩) 0 0) (.slice (some ⟨hB, 0, none⟩) 8 8) (by kernel_rfl) (by kernel_rfl) (.slice (some ⟨vB, 0, none⟩) 8 vc) w4 happ ?_)
      refine useLoop 10 (loop6 (ks := kL) (ws := sched bl) (s0 := s) (by decide) (sched_length (unhide HB64)) (unhide HVC).1 (unhide HVC).2 (unhide HR4).kk (unhide HK4) (unhide HVA) ?_)
      intro vB2 vc2 z0 z1 z2 z3 z4 z5 z6 z7 z8 z9 z10 z11 z12 z13 z14 z15 z16 z17 z18 z19 z20 z21 z22 z23 z24 z25 z26 z27 z28 z29 z30 z31 z32 z33 z34 z35 z36 z37 z38 z39 z40 z41 z42 z43 z44 z45 z46 z47 z48 z49 z50 z51 z52 z53 z54 z55 z56 z57 z58 z59 z60 z61 z62 z63 z64 z65 z66 z67 z68 z69 z70 z71 z72 z73 z74 z75 z76 z77 z78 z79 z80 z81 z82 z83 z84 z85 z86 z87 z88 z89 z90 z91 z92 z93 z94 z95 z96 z97 z98 z99 z100 z101 z102 z103 z104 z105 z106 z107 z108 z109 z110 z111 z112 z113 z114 z115 z116 z117 z118 z119 z120 z121 w5 hvc2 kv2 hb5 hor
      have r5 := (unhide HR4).below hb5
      have hvh2 : vB2 ≠ hB := by
        rcases hor with h | h
        · rw [h]; exact hvh
        · omega
      have HR5 := hide r5
      have HV5 := hide kv2
      clear r5 kv2 hb5 hor HR4 HVA HK4
      go_wp2
      refine useLoop 12 (loop7 (hs := stL s) (vs := stL (rnds s kL (sched bl))) (stL_len _) (stL_len _) hvh2 (unhide HR5).hh (unhide HV5) ?_)
      intro p0 p1 p2 p3 p4 p5 p6 p7 p8 p9 p10 p11 p12 p13 p14 p15 w6 k6 f6
      rw [stL_add] at k6
      have r6 := (unhide HR5).sums f6 hkh hhw.symm hmh bh k6
      rw [← unhide HNX] at r6
      have HR6 := hide r6
      have hA2 := unhide HA
      have HA2 : Hid (A + 64 = 64 * (t + 1)) := hide (by omega)
      clear k6 f6 r6 hA2
      go_wp2
      refine ⟨⟨t + 1, A + 64, hlt, unhide HA2, by push_cast; rfl, unhide HR6⟩, ?_⟩
      simp [intOf]
      omega
    · have htq : t = q := by omega
      subst htq
      have hAm : A = ml := by have := unhide HQ; omega
      subst hAm
      have HR := hide hr
      clear hr hA
      go_wp2
      refine ⟨rfl, unhide HX _ _ _ _ _ _ _ _ _ _ _ _ _ _ _ _ _ _ _ _ _ _ _ _ _ _ _ _ _ _ _ _ _ _ _ _ _ _ _ _ _ _ _ _ _ _ _ _ _ _ _ _ _ _ _ _ _ _ _ _ _ _ _ _ _ _ _ _ _ _ _ _ _ _ _ _ _ _ _ _ _ _ _ _ _ _ _ _ _ _ _ _ _ _ _ _ _ _ _ _ _ _ _ _ _ _ _ _ _ _ _ _ _ _ _ _ _ _ _ _ _ _ _ _ _ _ _ _ _ _ _ _ _ _ _ _ _ _ _ _ _ _ _ _ _ _ _ _ _ _ _ _ _ _ _ _ _ _ _ _ _ _ _ _ _ _ _ _ _ _ _ _ _ _ _ _ _ _ _ _ _ _ _ _ _ _ _ _ _ _ _ _ _ _ _ _ _ _ _ _ _ _ _ _ _ _ _ _ _ _ _ _ _ _ _ _ _ _ _ _ _ _ _ _ _ _ _ _ _ _ _ _ _ _ _ _ _ _ _ _ _ _ _ _ _ _ _ _ _ _ _ _ _ _ _ _ _ wr (unhide HR)⟩
end Go.Proofs.YtkablmjkffdloaaGreatDoor

namespace Go.Proofs.YtkablmjkffdloaaGreatDoor
open Go.RowKit

theorem mixAll_cat : ∀ (i j : Nat) (s : St) (x y : Bs), x.length = 64 * i → mixAll (i + j) s (x ++ y) = mixAll j (mixAll i s x) y
  | 0, j, s, x, y, h => by
    have : x = [] := List.length_eq_zero_iff.1 (by omega)
    subst this
    simp [mixAll]
  | i + 1, j, s, x, y, h => by
    rw [show i + 1 + j = (i + j) + 1 by omega]
    show mixAll (i + j) (mix s ((x ++ y).take 64)) ((x ++ y).drop 64) = mixAll j (mixAll i (mix s (x.take 64)) (x.drop 64)) y
    rw [List.take_append_of_le_length (by omega), List.drop_append_of_le_length (by omega)]
    exact mixAll_cat i j _ _ _ (by rw [List.length_drop]; omega)

theorem pad_is (r : Bs) (n : Nat) : padL r n = r ++ (128 :: (List.replicate ((119 - r.length) % 64) 0 ++ be8 (n * 8))) := by
  unfold padL
  simp

/-- The whole text with what is laid behind it. -/
theorem sha_is (b : Bs) (z : Nat) (hz : z = (119 - b.length % 64) % 64) : ∃ q, (((b ++ [128]) ++ List.replicate z 0) ++ be8 (b.length * 8)).length = 64 * q ∧ shaL b = (stL (mixAll q st0 (((b ++ [128]) ++ List.replicate z 0) ++ be8 (b.length * 8)))).flatMap be4 := by
  obtain ⟨k, hk⟩ : ∃ k, b.length / 64 = k := ⟨_, rfl⟩
  have hr : (b.drop (k * 64)).length = b.length % 64 := by rw [List.length_drop]; omega
  have hM : (((b ++ [128]) ++ List.replicate z 0) ++ be8 (b.length * 8)) = b.take (k * 64) ++ padL (b.drop (k * 64)) b.length := by
    rw [pad_is, hr, ← hz, ← List.append_assoc (b.take (k * 64)), List.take_append_drop]
    simp
  have hx : (b.take (k * 64)).length = 64 * k := by rw [List.length_take]; omega
  obtain ⟨e, he, _⟩ := pad_length (b.drop (k * 64)) b.length (by rw [hr]; omega)
  refine ⟨k + e, ?_, ?_⟩
  · rw [hM, List.length_append, hx, he]; omega
  · rw [hM, mixAll_cat k e _ _ _ hx]
    unfold shaL
    simp only [hk]
    rw [he, Nat.mul_div_cancel_left _ (by decide)]
    have h2 := mixAll_cat k 0 st0 (b.take (k * 64)) (b.drop (k * 64)) hx
    rw [List.take_append_drop, Nat.add_zero] at h2
    rw [h2]
    rfl

theorem st0_cells : ((stL st0).map encW).toArray = #[.int .u32 1779033703, .int .u32 3144134277, .int .u32 1013904242, .int .u32 2773480762, .int .u32 1359893119, .int .u32 2600822924, .int .u32 528734635, .int .u32 1541459225] := by kernel_rfl

theorem made_words {w' : World} {base g : Nat} (h : w'.ownsRow base 39 1 (.slice (some ⟨g, 0, none⟩) 64 64) 64 (madeCells (Value.cells (.int .u32 0)) (64 * 1)).toList) : WBlk w' g (List.replicate 64 0) := by
  rcases h.2 with ⟨e, _⟩ | ⟨g', cap, cur, e, hb, hblk, hcap, hcm, hcs, hcur⟩
  · cases e
  · cases e
    have e1 : cur.toList = ((List.replicate 64 (0 : UInt32)).map encW) := by
      have hl : cur.toList.length ≤ 64 * 1 := by rw [Array.length_toList]; omega
      rw [List.take_of_length_le hl] at hcur
      rw [hcur]
      apply List.ext_getElem
      · simp [madeCells]
      · intro k h1 h2
        rw [List.getElem_map, List.getElem_replicate]
        simp [madeCells, Value.cells, encW, Nat.mod_one]
    have e2 : cur = ((List.replicate 64 (0 : UInt32)).map encW).toArray := by rw [← e1]
    show w'.heap[g]? = _
    rw [← e2]
    exact hblk

theorem own_block {B : Nat} {w : World} {v : Value} {l : Bs} (h : OwnB B w v l) (hl : 0 < l.length) : ∃ g c, v = .slice (some ⟨g, 0, none⟩) l.length c ∧ B ≤ g ∧ g < w.heap.size ∧ ∀ k (hk : k < l.length), w.cell? ⟨g, k, none⟩ = some (.int .u8 (l[k].toNat : Int)) := by
  obtain ⟨a, c, rfl, hb, _, _⟩ := OwnB.at h
  rcases hb.els with h0 | ⟨g, O, rfl, hc⟩
  · rw [h0] at hl; simp at hl
  · rcases h.2 with ⟨e, _⟩ | ⟨g', cap, cur, e, hB, hblk, _⟩
    · cases e
    · have e1 := (Value.slice.inj e).1
      cases e1
      exact ⟨g, c, rfl, hB, (Array.getElem?_eq_some_iff.1 hblk).1, fun k hk => by have := hc k hk; rwa [Nat.zero_add] at this⟩

set_option maxRecDepth 1000000 in
set_option maxHeartbeats 8000000 in
theorem refSha_any {w : World} {a : Option Addr} {n c : Nat} {b : Bs} (hn : b.length = n) (hN : n ≤ 1000000000) (h : BAt w a b) :
    Calls Tryz.prog 28 #[.slice a n c] w fun e w' => ∃ v, e = .returned v ∧ OwnB w.heap.size w' v (shaL b) ∧ Below w.heap.size w w' := by
  obtain ⟨i0, hi, hz0, hz1, hz2⟩ := info_parts info115
  obtain ⟨z, hz⟩ : ∃ z, (119 - b.length % 64) % 64 = z := ⟨_, rfl⟩
  obtain ⟨q, hMq, hsha⟩ := sha_is b z hz.symm
  have HSHA := hide hsha
  have HMQ := hide hMq
  have HZ := hide hz
  have HN := hide hn
  have H := hide h
  have HST := hide st0_cells
  clear hn h hz hMq hsha
  go_enter Tryz.func28, Tryz.ntmps28
  go_wp2_with (go_at_call 88; fail)
  refine (consts_any w).mono ?_
  rintro e w1 ⟨rfl, hw1⟩
  have kk1 : WBlk w1 w.heap.size kL := by rw [hw1]; exact Blk.new w _ 39
  have b1 : Below w.heap.size w w1 := by rw [hw1]; exact (Below.refl _ _).alloc (Nat.le_refl _) _
  have s1 : w1.heap.size = w.heap.size + 1 := by rw [hw1]; simp
  obtain ⟨W2, hW2⟩ : ∃ W2, w1.alloc (.cells #[.int .u32 1779033703, .int .u32 3144134277, .int .u32 1013904242, .int .u32 2773480762, .int .u32 1359893119, .int .u32 2600822924, .int .u32 528734635, .int .u32 1541459225] 39) = W2 := ⟨_, rfl⟩
  have b2 : Below w1.heap.size w1 W2 := by rw [← hW2]; exact (Below.refl _ _).alloc (Nat.le_refl _) _
  have kh2 : WBlk W2 w1.heap.size (stL st0) := by
    rw [← hW2]
    have := Blk.new w1 ((stL st0).map encW).toArray 39
    rw [unhide HST] at this
    show Blk _ _ _ _
    rw [unhide HST]
    exact this
  have kk2 : WBlk W2 w.heap.size kL := Blk.low kk1 b2
  have s2 : W2.heap.size = w1.heap.size + 1 := by rw [← hW2]; simp
  have hb2 := low_trans b1 b2
  have HBY := hide (bytes_any (c := c) (unhide HN) (by omega) ((unhide H).low hb2))
  have HW2 := hide hW2
  have HS1 := hide s1
  have HS2 := hide s2
  have HKK := hide kk2
  have HKH := hide kh2
  have HB2 := hide hb2
  clear hw1 kk1 b1 s1 hW2 b2 kh2 kk2 s2 hb2
  go_wp2_with (go_at_call 82; fail)
  rw [unhide HW2]
  refine (unhide HBY).mono ?_
  rintro e w3 ⟨v3, rfl, o3, b3⟩
  obtain ⟨W4, hW4⟩ : ∃ W4, w3.alloc (.cells #[.int .u8 128] 5) = W4 := ⟨_, rfl⟩
  obtain ⟨v5, w5, happ, o5, g5⟩ := app_byte (c := 128) (W1 := W4) o3 b3.size (by rw [unhide HN]; omega) hW4
  have hb5 : Below W2.heap.size W2 w5 := b3.trans (g5.low b3.size (OwnB.base o3))
  have HW4 := hide hW4
  have HO5 := hide o5
  have HB5 := hide hb5
  clear o3 b3 o5 g5 hW4 hb5 HBY
  go_wp2_with (at_builtin; rw [unhide HW4]; refine Lib.wpList_append_run _ rfl (.tmp 28) (.tmp 29) 23 23 (by rfl) v3 (.slice (some ⟨w3.heap.size, 0, none⟩) 1 1) (by kernel_rfl) (by kernel_rfl) v5 w5 happ ?_)
  refine useLoop 0 (loop1 (base := W2.heap.size) (z := z) (l := b ++ [128]) ?_ ?_ ?_ ?_ (unhide HB5).size (unhide HO5) ?_)
  · have := unhide HZ; omega
  · simp [unhide HN]; omega
  · intro j hj
    have := unhide HZ
    simp
    omega
  · have := unhide HZ
    simp
    omega
  intro vo x0 x1 x2 x3 x4 x5 x6 w6 o6 b6
  obtain ⟨n8, hn8⟩ : ∃ n8, n * 8 = n8 := ⟨_, rfl⟩
  have e8 : (n : Int) * 8 = (n8 : Int) := by omega
  have ew : IntKind.u64.wrap (n : Int) = (n : Int) := by rw [IntKind.wrap_u64]; omega
  have ew8 : IntKind.u64.wrap (n8 : Int) = (n8 : Int) := by rw [IntKind.wrap_u64]; omega
  have hb6 := (unhide HB5).trans b6
  have HO6 := hide o6
  have HB6 := hide hb6
  have HN8 := hide hn8
  have hn8b : n8 ≤ 8000000000 := by omega
  clear o6 b6 hb6 hn8
  go_wp2
  refine useLoop 2 (loop2 (base := W2.heap.size) (n := n8) (l := (b ++ [128]) ++ List.replicate z 0) ?_ (unhide HB6).size (unhide HO6) ?_)
  · have := unhide HZ; simp [unhide HN]; omega
  intro vm y0 y1 y2 y3 y4 y5 y6 y7 y8 y9 y10 y11 w7 o7 b7
  obtain ⟨M, hM⟩ : ∃ M, ((b ++ [128]) ++ List.replicate z 0) ++ be8 n8 = M := ⟨_, rfl⟩
  rw [hM] at o7
  have hMe : ((b ++ [128]) ++ List.replicate z 0) ++ be8 (b.length * 8) = M := by rw [unhide HN, unhide HN8, hM]
  have hMq : M.length = 64 * q := by have := unhide HMQ; rw [hMe] at this; exact this
  have HSH : Hid (shaL b = (stL (mixAll q st0 M)).flatMap be4) := hide (by have := unhide HSHA; rw [hMe] at this; exact this)
  have hMpos : 0 < M.length := by
    have : (be8 n8).length = 8 := rfl
    rw [← hM, List.length_append]
    omega
  have hMle : M.length ≤ 2147483648 := by
    rw [← hM]
    have := unhide HZ
    simp [be8, unhide HN]
    omega
  obtain ⟨mB, mc, rfl, hmB, hmlt, hmm⟩ := own_block o7 hMpos
  obtain ⟨ml, hml⟩ : ∃ ml, M.length = ml := ⟨_, rfl⟩
  rw [hml]
  have hb7 := (unhide HB6).trans b7
  have HB7 := hide hb7
  have HMM := hide hmm
  have HML := hide hml
  have HMQ2 : Hid (ml = 64 * q) := hide (by rw [← hml]; exact hMq)
  have hml2 : ml ≤ 2147483648 := by rw [← hml]; exact hMle
  have hbase : w.heap.size ≤ w7.heap.size := Nat.le_trans (Nat.le_trans (unhide HB2).size hb7.size) (Nat.le_refl _)
  clear o7 b7 hb7 hM hMe hMq hMpos hMle hmm hml HO5 HO6 HB5 HB6 HMQ HSHA
  go_wp2_with (at_make; refine wpList_make_full _ rfl _ _ 129 rfl w.heap.size 39 i0 (.int .u32 0) 1 Tryz.underlying129 hi hz0 hz1 _ _ _ _ 64 rfl rfl rfl rfl (by rw [hz2]; decide) (by unfold maxLen; omega) hbase ?_; intro w8 hown8 hgrow8; have HW8 : Hid (WBlk w8 w7.heap.size (List.replicate 64 0)) := hide (made_words hown8); have HB8 : Hid (Below w7.heap.size w7 w8) := hide (low_grownN hgrow8); clear hown8 hgrow8)
  have hs1 := unhide HS1
  have hs2 := unhide HS2
  have b28 := (unhide HB7).trans ((unhide HB8).mono (unhide HB7).size)
  have hwl := (unhide HW8).lt
  have r8 : R3 w8 w.heap.size w.heap.size w1.heap.size mB w7.heap.size M st0 w8 := ⟨(unhide HKK).low b28, (unhide HKH).low b28, ⟨_, by simp, unhide HW8⟩, fun k hk => ((unhide HB8).cell hmlt).trans (unhide HMM k hk), Below.refl _ _, by omega⟩
  have HR8 := hide r8
  have HB28 := hide b28
  clear r8 b28
  refine useLoop 4 (loop3 (base := w.heap.size) (kB := w.heap.size) (hB := w1.heap.size) (mB := mB) (wB := w7.heap.size) (q := q) (M := M) (unhide HMQ2) (unhide HML) hml2 (by omega) (by omega) (by have := (unhide HB7).size; omega) (by omega) (by omega) (by omega) hbase (unhide HR8) ?_)
  intro u0 u1 u2 u3 u4 u5 u6 u7 u8 u9 u10 u11 u12 u13 u14 u15 u16 u17 u18 u19 u20 u21 u22 u23 u24 u25 u26 u27 u28 u29 u30 u31 u32 u33 u34 u35 u36 u37 u38 u39 u40 u41 u42 u43 u44 u45 u46 u47 u48 u49 u50 u51 u52 u53 u54 u55 u56 u57 u58 u59 u60 u61 u62 u63 u64 u65 u66 u67 u68 u69 u70 u71 u72 u73 u74 u75 u76 u77 u78 u79 u80 u81 u82 u83 u84 u85 u86 u87 u88 u89 u90 u91 u92 u93 u94 u95 u96 u97 u98 u99 u100 u101 u102 u103 u104 u105 u106 u107 u108 u109 u110 u111 u112 u113 u114 u115 u116 u117 u118 u119 u120 u121 u122 u123 u124 u125 u126 u127 u128 u129 u130 u131 u132 u133 u134 u135 u136 u137 u138 u139 u140 u141 u142 u143 u144 u145 u146 u147 u148 u149 u150 u151 u152 u153 u154 u155 u156 u157 u158 u159 u160 u161 u162 u163 u164 u165 u166 u167 u168 u169 u170 u171 u172 u173 u174 u175 u176 u177 u178 u179 u180 u181 u182 u183 u184 u185 u186 u187 u188 u189 u190 u191 u192 u193 u194 u195 u196 u197 u198 u199 u200 u201 u202 u203 u204 u205 u206 u207 u208 u209 u210 u211 u212 u213 u214 u215 u216 u217 u218 u219 u220 u221 u222 u223 u224 u225 u226 u227 u228 u229 u230 u231 u232 u233 u234 u235 u236 u237 u238 u239 u240 u241 u242 u243 u244 u245 u246 u247 u248 u249 u250 u251 u252 u253 u254 u255 u256 w9 r9
  have HR9 := hide r9
  clear r9
  go_wp2
  refine useLoop 14 (loop8 (hs := stL (mixAll q st0 M)) (stL_len _) (unhide HR9).hh ?_)
  intro vr t0 t1 t2 t3 t4 t5 t6 t7 t8 t9 t10 t11 t12 t13 t14 t15 t16 t17 t18 t19 t20 t21 t22 t23 t24 t25 t26 t27 t28 t29 w10 o10 b10
  have HD : Hid (OwnB w.heap.size w10 vr (shaL b) ∧ Below w.heap.size w w10) := hide (by
    refine ⟨?_, ?_⟩
    · rw [unhide HSH]
      exact OwnB.less (unhide HR9).size o10
    · have h1 : Below w.heap.size w w8 := (unhide HB2).trans ((unhide HB28).mono (unhide HB2).size)
      exact (h1.trans (unhide HR9).low).trans (b10.mono (unhide HR9).size))
  clear o10 b10
  go_wp2
  go_ret
  exact ⟨_, rfl, (unhide HD).1, (unhide HD).2⟩
end Go.Proofs.YtkablmjkffdloaaGreatDoor
