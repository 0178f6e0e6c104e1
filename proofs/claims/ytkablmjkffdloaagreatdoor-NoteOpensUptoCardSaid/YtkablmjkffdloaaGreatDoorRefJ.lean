/-
  The reference's SHA-256: the blocks.
-/
import Derived.Test.YtkablmjkffdloaaGreatDoorRefQ
import Derived.Test.YtkablmjkffdloaaGreatDoorRefF
namespace Go.Proofs.YtkablmjkffdloaaGreatDoor
open Go.RowKit

noncomputable def body3 : Code := ((Tryz.f28.body.map loopsOf).getD []).getD 2 .skip

theorem Fr1.low {B base : Nat} {w w' : World} (h : Fr1 B w w') (hB : base ≤ B) (hs : base ≤ w.heap.size) : Below base w w' := ⟨h.os, h.tape, h.output, h.size, fun k hk => h.block k (by omega) (by omega)⟩

/-- While the blocks of a text are mixed in. -/
structure R3 (w : World) (base kB hB mB wB : Nat) (M : Bs) (s : St) (wr : World) : Prop where
  kk : WBlk wr kB kL
  hh : WBlk wr hB (stL s)
  ww : ∃ wl, wl.length = 64 ∧ WBlk wr wB wl
  mm : ∀ k (hk : k < M.length), wr.cell? ⟨mB, k, none⟩ = some (.int .u8 (M[k].toNat : Int))
  low : Below base w wr
  size : base ≤ wr.heap.size

theorem R3.below {w wr w' : World} {base kB hB mB wB : Nat} {M : Bs} {s : St} (h : R3 w base kB hB mB wB M s wr) (b : Below wr.heap.size wr w') : R3 w base kB hB mB wB M s w' :=
  ⟨h.kk.low b, h.hh.low b, by obtain ⟨wl, h1, h2⟩ := h.ww; exact ⟨wl, h1, h2.low b⟩, fun k hk => (b.cell (lt_of_cell (h.mm k hk))).trans (h.mm k hk), h.low.trans (b.mono h.size), Nat.le_trans h.size b.size⟩
theorem R3.words {w wr w' : World} {base kB hB mB wB : Nat} {M : Bs} {s : St} {wl : List UInt32} (h : R3 w base kB hB mB wB M s wr) (f : Fr1 wB wr w') (k1 : kB ≠ wB) (k2 : hB ≠ wB) (k3 : mB ≠ wB) (k4 : base ≤ wB) (hl : wl.length = 64) (hw : WBlk w' wB wl) : R3 w base kB hB mB wB M s w' :=
  ⟨f.blk k1 h.kk, f.blk k2 h.hh, ⟨wl, hl, hw⟩, fun k hk => (World.cell?_of_block (f.block mB (lt_of_cell (h.mm k hk)) k3)).trans (h.mm k hk), h.low.trans (f.low k4 h.size), Nat.le_trans h.size f.size⟩
theorem R3.sums {w wr w' : World} {base kB hB mB wB : Nat} {M : Bs} {s s' : St} (h : R3 w base kB hB mB wB M s wr) (f : Fr1 hB wr w') (k1 : kB ≠ hB) (k2 : wB ≠ hB) (k3 : mB ≠ hB) (k4 : base ≤ hB) (hw : WBlk w' hB (stL s')) : R3 w base kB hB mB wB M s' w' :=
  ⟨f.blk k1 h.kk, hw, by obtain ⟨wl, h1, h2⟩ := h.ww; exact ⟨wl, h1, f.blk k2 h2⟩, fun k hk => (World.cell?_of_block (f.block mB (lt_of_cell (h.mm k hk)) k3)).trans (h.mm k hk), h.low.trans (f.low k4 h.size), Nat.le_trans h.size f.size⟩

set_option maxRecDepth 1000000 in
set_option maxHeartbeats 8000000 in
theorem loop3 {c0 c1 c2 c6 c7 c10 c11 c12 c13 c14 c15 c16 c17 c18 c19 c20 c21 c22 c23 c24 c25 c26 c27 c28 c29 c30 c31 c32 c33 c34 c35 c36 c37 c38 c39 c40 c41 c42 c43 c44 c45 c46 c47 c48 c49 c50 c51 c52 c53 c54 c55 c56 c57 c58 c59 c60 c61 c62 c63 c64 c65 c66 c67 c68 c69 c70 c71 c72 c73 c74 c75 c76 c77 c78 c79 c80 c81 c82 c83 c84 c85 c86 c87 c88 c89 c90 c91 c92 c93 c94 c95 c96 c97 c98 c99 c100 c101 c102 c103 c104 c105 c106 c107 c108 c109 c110 c111 c112 c113 c114 c115 c116 c117 c118 c119 c120 c121 c122 c123 c124 c125 c126 c127 c128 c129 c130 c131 c132 c133 c134 c135 c136 c137 c138 c139 c140 c141 c142 c143 c144 c145 c146 c147 c148 c149 c150 c151 c152 c153 c154 c155 c156 c157 c158 c159 c160 c161 c162 c163 c164 c165 c166 c167 c168 c169 c170 c171 c172 c173 c174 c175 c176 c177 c178 c179 c180 c181 c182 c183 c184 c185 c186 c187 c188 c189 c190 c191 c192 c193 c194 c195 c196 c197 c198 c199 c200 c201 c202 c203 c204 c205 c206 c207 c208 c209 c210 c211 c212 c213 c214 c215 c216 c217 c218 c219 c220 c221 c222 c223 c224 c225 c226 c227 c228 c229 c230 c231 c232 c233 c234 c235 c236 c237 c238 c239 c240 c241 c242 c243 c244 c245 c246 c247 c248 c249 c250 c251 c252 c253 c254 c255 c256 c257 c258 c259 c260 c261 c262 c263 c264 c265 c266 c267 c268 c269 c270 c271 c272 c273 c274 c275 c276 c277 c278 c279 c280 c281 c282 c283 c284 c285 c286 c287 c288 c289 c290 c291 c292 c293 c294 c295 c296 c297 c298 c299 c300 c301 c302 c303 c304 c305 c306 c307 c308 c309 c310 c311 c312 c313 c314 c315 c316 c317 c318 c319 c320 c321 c322 c323 c324 c325 c326 c327 c328 c329 : Value} {base kB hB mB wB ml mc q : Nat} {M : Bs} {w : World} {Post : Act → World → Prop} (hq : ml = 64 * q) (hM : M.length = ml) (hmx : ml ≤ 2147483648) (hkh : kB ≠ hB) (hkw : kB ≠ wB) (hhw : hB ≠ wB) (hmh : mB ≠ hB) (hmw : mB ≠ wB) (bh : base ≤ hB) (bw : base ≤ wB) (h0 : R3 w base kB hB mB wB M st0 w)
    (hexit : ∀ d10 d11 d12 d13 d14 d15 d16 d17 d18 d19 d20 d21 d22 d55 d56 d57 d58 d59 d60 d61 d62 d63 d64 d65 d66 d67 d68 d69 d70 d71 d72 d73 d74 d75 d76 d77 d78 d79 d80 d81 d82 d83 d84 d85 d86 d87 d88 d89 d90 d91 d92 d93 d94 d95 d96 d97 d98 d99 d100 d101 d102 d103 d104 d105 d106 d107 d108 d109 d110 d111 d112 d113 d114 d115 d116 d117 d118 d119 d120 d121 d122 d123 d124 d125 d126 d127 d128 d129 d130 d131 d132 d133 d134 d135 d136 d137 d138 d139 d140 d141 d142 d143 d144 d145 d146 d147 d148 d149 d150 d151 d152 d153 d154 d155 d156 d157 d158 d159 d160 d161 d162 d163 d164 d165 d166 d167 d168 d169 d170 d171 d172 d173 d174 d175 d176 d177 d178 d179 d180 d181 d182 d183 d184 d185 d186 d187 d188 d189 d190 d191 d192 d193 d194 d195 d196 d197 d198 d199 d200 d201 d202 d203 d204 d205 d206 d207 d208 d209 d210 d211 d212 d213 d214 d215 d216 d217 d218 d219 d220 d221 d222 d223 d224 d225 d226 d227 d228 d229 d230 d231 d232 d233 d234 d235 d236 d237 d238 d239 d240 d241 d242 d243 d244 d245 d246 d247 d248 d249 d250 d251 d252 d253 d254 d255 d256 d257 d258 d259 d260 d261 d262 d263 d264 d265 d266 d267 d268 d269 d270 d271 d272 d273 d274 d275 d276 d277 d278 d279 d280 d281 d282 d283 d284 d285 d286 d287 d288 d289 d290 d291 d292 d293 d294 d295 d296 d297 d298 w', R3 w base kB hB mB wB M (mixAll q st0 M) w' → Post ⟨(List.toArray (c0 :: c1 :: c2 :: (.slice (some ⟨kB, 0, none⟩) 64 64) :: (.slice (some ⟨hB, 0, none⟩) 8 8) :: (.slice (some ⟨mB, 0, none⟩) ml mc) :: c6 :: c7 :: (.slice (some ⟨wB, 0, none⟩) 64 64) :: (.int .i64 (ml : Int)) :: d10 :: d11 :: d12 :: d13 :: d14 :: d15 :: d16 :: d17 :: d18 :: d19 :: d20 :: d21 :: d22 :: c23 :: c24 :: c25 :: c26 :: c27 :: c28 :: c29 :: c30 :: c31 :: c32 :: c33 :: c34 :: c35 :: c36 :: c37 :: c38 :: c39 :: c40 :: c41 :: c42 :: c43 :: c44 :: c45 :: c46 :: c47 :: c48 :: c49 :: c50 :: c51 :: c52 :: c53 :: c54 :: d55 :: d56 :: d57 :: d58 :: d59 :: d60 :: d61 :: d62 :: d63 :: d64 :: d65 :: d66 :: d67 :: d68 :: d69 :: d70 :: d71 :: d72 :: d73 :: d74 :: d75 :: d76 :: d77 :: d78 :: d79 :: d80 :: d81 :: d82 :: d83 :: d84 :: d85 :: d86 :: d87 :: d88 :: d89 :: d90 :: d91 :: d92 :: d93 :: d94 :: d95 :: d96 :: d97 :: d98 :: d99 :: d100 :: d101 :: d102 :: d103 :: d104 :: d105 :: d106 :: d107 :: d108 :: d109 :: d110 :: d111 :: d112 :: d113 :: d114 :: d115 :: d116 :: d117 :: d118 :: d119 :: d120 :: d121 :: d122 :: d123 :: d124 :: d125 :: d126 :: d127 :: d128 :: d129 :: d130 :: d131 :: d132 :: d133 :: d134 :: d135 :: d136 :: d137 :: d138 :: d139 :: d140 :: d141 :: d142 :: d143 :: d144 :: d145 :: d146 :: d147 :: d148 :: d149 :: d150 :: d151 :: d152 :: d153 :: d154 :: d155 :: d156 :: d157 :: d158 :: d159 :: d160 :: d161 :: d162 :: d163 :: d164 :: d165 :: d166 :: d167 :: d168 :: d169 :: d170 :: d171 :: d172 :: d173 :: d174 :: d175 :: d176 :: d177 :: d178 :: d179 :: d180 :: d181 :: d182 :: d183 :: d184 :: d185 :: d186 :: d187 :: d188 :: d189 :: d190 :: d191 :: d192 :: d193 :: d194 :: d195 :: d196 :: d197 :: d198 :: d199 :: d200 :: d201 :: d202 :: d203 :: d204 :: d205 :: d206 :: d207 :: d208 :: d209 :: d210 :: d211 :: d212 :: d213 :: d214 :: d215 :: d216 :: d217 :: d218 :: d219 :: d220 :: d221 :: d222 :: d223 :: d224 :: d225 :: d226 :: d227 :: d228 :: d229 :: d230 :: d231 :: d232 :: d233 :: d234 :: d235 :: d236 :: d237 :: d238 :: d239 :: d240 :: d241 :: d242 :: d243 :: d244 :: d245 :: d246 :: d247 :: d248 :: d249 :: d250 :: d251 :: d252 :: d253 :: d254 :: d255 :: d256 :: d257 :: d258 :: d259 :: d260 :: d261 :: d262 :: d263 :: d264 :: d265 :: d266 :: d267 :: d268 :: d269 :: d270 :: d271 :: d272 :: d273 :: d274 :: d275 :: d276 :: d277 :: d278 :: d279 :: d280 :: d281 :: d282 :: d283 :: d284 :: d285 :: d286 :: d287 :: d288 :: d289 :: d290 :: d291 :: d292 :: d293 :: d294 :: d295 :: d296 :: d297 :: d298 :: c299 :: c300 :: c301 :: c302 :: c303 :: c304 :: c305 :: c306 :: c307 :: c308 :: c309 :: c310 :: c311 :: c312 :: c313 :: c314 :: c315 :: c316 :: c317 :: c318 :: c319 :: c320 :: c321 :: c322 :: c323 :: c324 :: c325 :: c326 :: c327 :: c328 :: c329 :: [])), []⟩ w') :
    Code.wp Tryz.prog (Code.loop body3) (OnExit 4 Post) ⟨(List.toArray (c0 :: c1 :: c2 :: (.slice (some ⟨kB, 0, none⟩) 64 64) :: (.slice (some ⟨hB, 0, none⟩) 8 8) :: (.slice (some ⟨mB, 0, none⟩) ml mc) :: c6 :: c7 :: (.slice (some ⟨wB, 0, none⟩) 64 64) :: (.int .i64 0) :: c10 :: c11 :: c12 :: c13 :: c14 :: c15 :: c16 :: c17 :: c18 :: c19 :: c20 :: c21 :: c22 :: c23 :: c24 :: c25 :: c26 :: c27 :: c28 :: c29 :: c30 :: c31 :: c32 :: c33 :: c34 :: c35 :: c36 :: c37 :: c38 :: c39 :: c40 :: c41 :: c42 :: c43 :: c44 :: c45 :: c46 :: c47 :: c48 :: c49 :: c50 :: c51 :: c52 :: c53 :: c54 :: c55 :: c56 :: c57 :: c58 :: c59 :: c60 :: c61 :: c62 :: c63 :: c64 :: c65 :: c66 :: c67 :: c68 :: c69 :: c70 :: c71 :: c72 :: c73 :: c74 :: c75 :: c76 :: c77 :: c78 :: c79 :: c80 :: c81 :: c82 :: c83 :: c84 :: c85 :: c86 :: c87 :: c88 :: c89 :: c90 :: c91 :: c92 :: c93 :: c94 :: c95 :: c96 :: c97 :: c98 :: c99 :: c100 :: c101 :: c102 :: c103 :: c104 :: c105 :: c106 :: c107 :: c108 :: c109 :: c110 :: c111 :: c112 :: c113 :: c114 :: c115 :: c116 :: c117 :: c118 :: c119 :: c120 :: c121 :: c122 :: c123 :: c124 :: c125 :: c126 :: c127 :: c128 :: c129 :: c130 :: c131 :: c132 :: c133 :: c134 :: c135 :: c136 :: c137 :: c138 :: c139 :: c140 :: c141 :: c142 :: c143 :: c144 :: c145 :: c146 :: c147 :: c148 :: c149 :: c150 :: c151 :: c152 :: c153 :: c154 :: c155 :: c156 :: c157 :: c158 :: c159 :: c160 :: c161 :: c162 :: c163 :: c164 :: c165 :: c166 :: c167 :: c168 :: c169 :: c170 :: c171 :: c172 :: c173 :: c174 :: c175 :: c176 :: c177 :: c178 :: c179 :: c180 :: c181 :: c182 :: c183 :: c184 :: c185 :: c186 :: c187 :: c188 :: c189 :: c190 :: c191 :: c192 :: c193 :: c194 :: c195 :: c196 :: c197 :: c198 :: c199 :: c200 :: c201 :: c202 :: c203 :: c204 :: c205 :: c206 :: c207 :: c208 :: c209 :: c210 :: c211 :: c212 :: c213 :: c214 :: c215 :: c216 :: c217 :: c218 :: c219 :: c220 :: c221 :: c222 :: c223 :: c224 :: c225 :: c226 :: c227 :: c228 :: c229 :: c230 :: c231 :: c232 :: c233 :: c234 :: c235 :: c236 :: c237 :: c238 :: c239 :: c240 :: c241 :: c242 :: c243 :: c244 :: c245 :: c246 :: c247 :: c248 :: c249 :: c250 :: c251 :: c252 :: c253 :: c254 :: c255 :: c256 :: c257 :: c258 :: c259 :: c260 :: c261 :: c262 :: c263 :: c264 :: c265 :: c266 :: c267 :: c268 :: c269 :: c270 :: c271 :: c272 :: c273 :: c274 :: c275 :: c276 :: c277 :: c278 :: c279 :: c280 :: c281 :: c282 :: c283 :: c284 :: c285 :: c286 :: c287 :: c288 :: c289 :: c290 :: c291 :: c292 :: c293 :: c294 :: c295 :: c296 :: c297 :: c298 :: c299 :: c300 :: c301 :: c302 :: c303 :: c304 :: c305 :: c306 :: c307 :: c308 :: c309 :: c310 :: c311 :: c312 :: c313 :: c314 :: c315 :: c316 :: c317 :: c318 :: c319 :: c320 :: c321 :: c322 :: c323 :: c324 :: c325 :: c326 :: c327 :: c328 :: c329 :: [])), []⟩ w := by
  have HX := hide hexit
  have HM := hide hM
  have HQ := hide hq
  clear hexit hM hq
  conv => arg 2; arg 1; whnf
  go_loopw [9, 10, 11, 12, 13, 14, 15, 16, 17, 18, 19, 20, 21, 22] (fun v9 _ _ _ _ _ _ _ _ _ _ _ _ _ wr => ∃ t A : Nat, t ≤ q ∧ A = 64 * t ∧ v9 = .int .i64 (A : Int) ∧ R3 w base kB hB mB wB M (mixAll t st0 M) wr) (fun v9 _ _ _ _ _ _ _ _ _ _ _ _ _ _ => ml - (intOf v9).toNat)
  case atStart => exact ⟨0, 0, Nat.zero_le _, rfl, rfl, h0⟩
  case round =>
    rename World => wr
    clear h0
    obtain ⟨t, A, ht, hA, rfl, hr⟩ := hrel
    by_cases hlt : t < q
    · obtain ⟨s, hs⟩ : ∃ s, mixAll t st0 M = s := ⟨_, rfl⟩
      rw [hs] at hr
      have hAm : A + 64 ≤ ml := by have := unhide HQ; omega
      obtain ⟨bl, hbl, hb64, hbc⟩ : ∃ bl : Bs, (M.drop (64 * t)).take 64 = bl ∧ bl.length = 64 ∧ ∀ k (hk : k < bl.length), wr.cell? ⟨mB, A + k, none⟩ = some (.int .u8 (bl[k].toNat : Int)) := by
        have hl : ((M.drop (64 * t)).take 64).length = 64 := by rw [List.length_take, List.length_drop, unhide HM]; omega
        refine ⟨_, rfl, hl, fun k hk => ?_⟩
        rw [hl] at hk
        rw [hr.mm (A + k) (by rw [unhide HM]; omega)]
        simp [hA]
      obtain ⟨wl, hwl, hww⟩ := hr.ww
      have HNX : Hid (mixAll (t + 1) st0 M = addS s (rnds s kL (sched bl))) := hide (by rw [mixAll_snoc, hs, hbl]; rfl)
      have hmB : mB < wr.heap.size := lt_of_cell (hbc 0 (by omega))
      have HR := hide hr
      have HBC := hide hbc
      have HA := hide hA
      have hAlt : A < ml := by omega
      have HB64 := hide hb64
      clear hr hs hbl hbc hA hb64
      go_wp2
      refine useLoop 6 (loop4 (bl := bl) (ws := wl) (nw := sched bl) (at0 := A) (unhide HB64) hwl (sched_length (unhide HB64)) (sched_front (unhide HB64)) hAm (by omega) hmw (unhide HBC) hmB hww ?_)
      intro x0 x1 x2 x3 x4 x5 x6 x7 x8 x9 x10 x11 x12 x13 x14 x15 x16 x17 x18 x19 x20 x21 x22 x23 x24 x25 x26 x27 x28 x29 x30 x31 x32 x33 x34 x35 x36 x37 x38 x39 x40 w2 k2 f2
      have HS := hide (And.intro k2 f2)
      clear k2 f2 hww
      go_wp2
      refine useLoop 8 (loop5 (ws := wl) (nw := sched bl) hwl (sched_length (unhide HB64)) (sched_step (unhide HB64)) (unhide HS).1 ?_)
      intro y0 y1 y2 y3 y4 y5 y6 y7 y8 y9 y10 y11 y12 y13 y14 y15 y16 y17 y18 y19 y20 y21 y22 y23 y24 y25 y26 y27 y28 y29 y30 y31 y32 y33 y34 y35 y36 y37 y38 y39 y40 y41 y42 y43 y44 y45 y46 y47 y48 y49 y50 y51 y52 y53 y54 y55 y56 y57 y58 y59 y60 y61 y62 y63 w3 k3 f3
      have r3 := (unhide HR).words ((unhide HS).2.trans f3) hkw hhw hmw bw (sched_length (unhide HB64)) k3
      have HK3 := hide k3
      obtain ⟨W4, hW4⟩ : ∃ W4, w3.alloc (.cells #[] 39) = W4 := ⟨_, rfl⟩
      obtain ⟨vB, vc, w4, happ, hvc, hvx, hva, hb4, hvB⟩ := app_words (stL_len s) r3.hh hW4
      have r4 := r3.below hb4
      have hvh : vB ≠ hB := by have := r3.hh.lt; omega
      have HK4 : Hid (WBlk w4 wB (sched bl)) := hide ((unhide HK3).low hb4)
      have HR4 := hide r4
      have HVA := hide hva
      have HW4 := hide hW4
      have HVC := hide (And.intro hvc hvx)
      have hhB4 := r4.hh.lt
      clear r3 r4 k3 f3 hb4 hW4 hva HS HR HK3 hvc hvx hvB
      go_wp2_with (at_builtin; rw [unhide HW4]; refine Lib.wpList_append_run _ rfl (.tmp 163) (.tmp 164) 129 129 (by rfl) (.slice (some ⟨w3.heap.size, 0, none⟩) 0 0) (.slice (some ⟨hB, 0, none⟩) 8 8) (by kernel_rfl) (by kernel_rfl) (.slice (some ⟨vB, 0, none⟩) 8 vc) w4 happ ?_)
      refine useLoop 10 (loop6 (ks := kL) (ws := sched bl) (s0 := s) (by decide) (sched_length (unhide HB64)) (unhide HVC).1 (unhide HVC).2 (unhide HR4).kk (unhide HK4) (unhide HVA) ?_)
      intro vB2 vc2 z0 z1 z2 z3 z4 z5 z6 z7 z8 z9 z10 z11 z12 z13 z14 z15 z16 z17 z18 z19 z20 z21 z22 z23 z24 z25 z26 z27 z28 z29 z30 z31 z32 z33 z34 z35 z36 z37 z38 z39 z40 z41 z42 z43 z44 z45 z46 z47 z48 z49 z50 z51 z52 z53 z54 z55 z56 z57 z58 z59 z60 z61 z62 z63 z64 z65 z66 z67 z68 z69 z70 z71 z72 z73 z74 z75 z76 z77 z78 z79 z80 z81 z82 z83 z84 z85 z86 z87 z88 z89 z90 z91 z92 z93 z94 z95 z96 z97 z98 z99 z100 z101 z102 z103 z104 z105 z106 z107 z108 z109 z110 z111 z112 z113 z114 z115 z116 z117 z118 z119 z120 z121 w5 hvc2 kv2 hb5 hor
      have r5 := (unhide HR4).below hb5
      have hvh2 : vB2 ≠ hB := by
        rcases hor with h | h
        · rw [h]; exact hvh
        · omega
      have HR5 := hide r5
      have HV5 := hide kv2
      clear r5 kv2 hb5 hor HR4 HVA HK4
      go_wp2
      refine useLoop 12 (loop7 (hs := stL s) (vs := stL (rnds s kL (sched bl))) (stL_len _) (stL_len _) hvh2 (unhide HR5).hh (unhide HV5) ?_)
      intro p0 p1 p2 p3 p4 p5 p6 p7 p8 p9 p10 p11 p12 p13 p14 p15 w6 k6 f6
      rw [stL_add] at k6
      have r6 := (unhide HR5).sums f6 hkh hhw.symm hmh bh k6
      rw [← unhide HNX] at r6
      have HR6 := hide r6
      have hA2 := unhide HA
      have HA2 : Hid (A + 64 = 64 * (t + 1)) := hide (by omega)
      clear k6 f6 r6 hA2
      go_wp2
      refine ⟨⟨t + 1, A + 64, hlt, unhide HA2, by push_cast; rfl, unhide HR6⟩, ?_⟩
      simp [intOf]
      omega
    · have htq : t = q := by omega
      subst htq
      have hAm : A = ml := by have := unhide HQ; omega
      subst hAm
      have HR := hide hr
      clear hr hA
      go_wp2
      refine ⟨rfl, unhide HX _ _ _ _ _ _ _ _ _ _ _ _ _ _ _ _ _ _ _ _ _ _ _ _ _ _ _ _ _ _ _ _ _ _ _ _ _ _ _ _ _ _ _ _ _ _ _ _ _ _ _ _ _ _ _ _ _ _ _ _ _ _ _ _ _ _ _ _ _ _ _ _ _ _ _ _ _ _ _ _ _ _ _ _ _ _ _ _ _ _ _ _ _ _ _ _ _ _ _ _ _ _ _ _ _ _ _ _ _ _ _ _ _ _ _ _ _ _ _ _ _ _ _ _ _ _ _ _ _ _ _ _ _ _ _ _ _ _ _ _ _ _ _ _ _ _ _ _ _ _ _ _ _ _ _ _ _ _ _ _ _ _ _ _ _ _ _ _ _ _ _ _ _ _ _ _ _ _ _ _ _ _ _ _ _ _ _ _ _ _ _ _ _ _ _ _ _ _ _ _ _ _ _ _ _ _ _ _ _ _ _ _ _ _ _ _ _ _ _ _ _ _ _ _ _ _ _ _ _ _ _ _ _ _ _ _ _ _ _ _ _ _ _ _ _ _ _ _ _ _ _ _ _ _ _ _ _ wr (unhide HR)⟩
end Go.Proofs.YtkablmjkffdloaaGreatDoor
