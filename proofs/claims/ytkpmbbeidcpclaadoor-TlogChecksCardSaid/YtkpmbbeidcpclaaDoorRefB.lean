/-
  The reference's SHA-256: zeros laid behind a text; its round numbers; a copy of bytes.
-/
import Derived.Test.YtkpmbbeidcpclaaDoorRefA
import Derived.Deep.RegionHeld3
namespace Go.Proofs.YtkpmbbeidcpclaaDoor
open Go.RowKit

noncomputable def body1 : Code := ((Tryd.f55.body.map loopsOf).getD []).getD 0 .skip

set_option maxRecDepth 1000000 in
set_option maxHeartbeats 2000000 in
theorem loop1 {c0 c1 c2 c3 c4 c6 c7 c8 c9 c10 c11 c12 c13 c14 c15 c16 c17 c18 c19 c20 c21 c22 c23 c24 c25 c26 c27 c28 c29 c30 c31 c32 c33 c34 c35 c36 c37 c38 c39 c40 c41 c42 c43 c44 c45 c46 c47 c48 c49 c50 c51 c52 c53 c54 c55 c56 c57 c58 c59 c60 c61 c62 c63 c64 c65 c66 c67 c68 c69 c70 c71 c72 c73 c74 c75 c76 c77 c78 c79 c80 c81 c82 c83 c84 c85 c86 c87 c88 c89 c90 c91 c92 c93 c94 c95 c96 c97 c98 c99 c100 c101 c102 c103 c104 c105 c106 c107 c108 c109 c110 c111 c112 c113 c114 c115 c116 c117 c118 c119 c120 c121 c122 c123 c124 c125 c126 c127 c128 c129 c130 c131 c132 c133 c134 c135 c136 c137 c138 c139 c140 c141 c142 c143 c144 c145 c146 c147 c148 c149 c150 c151 c152 c153 c154 c155 c156 c157 c158 c159 c160 c161 c162 c163 c164 c165 c166 c167 c168 c169 c170 c171 c172 c173 c174 c175 c176 c177 c178 c179 c180 c181 c182 c183 c184 c185 c186 c187 c188 c189 c190 c191 c192 c193 c194 c195 c196 c197 c198 c199 c200 c201 c202 c203 c204 c205 c206 c207 c208 c209 c210 c211 c212 c213 c214 c215 c216 c217 c218 c219 c220 c221 c222 c223 c224 c225 c226 c227 c228 c229 c230 c231 c232 c233 c234 c235 c236 c237 c238 c239 c240 c241 c242 c243 c244 c245 c246 c247 c248 c249 c250 c251 c252 c253 c254 c255 c256 c257 c258 c259 c260 c261 c262 c263 c264 c265 c266 c267 c268 c269 c270 c271 c272 c273 c274 c275 c276 c277 c278 c279 c280 c281 c282 c283 c284 c285 c286 c287 c288 c289 c290 c291 c292 c293 c294 c295 c296 c297 c298 c299 c300 c301 c302 c303 c304 c305 c306 c307 c308 c309 c310 c311 c312 c313 c314 c315 c316 c317 c318 c319 c320 c321 c322 c323 c324 c325 c326 c327 c328 c329 : Value} {v0 : Value} {base z : Nat} {l : Bs} {w : World} {Post : Act → World → Prop} (hz : z < 64) (hl : l.length ≤ 1073741824) (hz1 : ∀ j, j < z → (l.length + j) % 64 ≠ 56) (hz2 : (l.length + z) % 64 = 56) (hb0 : base ≤ w.heap.size) (ho0 : OwnB base w v0 l)
    (hexit : ∀ vo d31 d32 d33 d34 d35 d36 d37 w', OwnB base w' vo (l ++ List.replicate z 0) → Below base w w' → Post ⟨(List.toArray (c0 :: c1 :: c2 :: c3 :: c4 :: vo :: c6 :: c7 :: c8 :: c9 :: c10 :: c11 :: c12 :: c13 :: c14 :: c15 :: c16 :: c17 :: c18 :: c19 :: c20 :: c21 :: c22 :: c23 :: c24 :: c25 :: c26 :: c27 :: c28 :: c29 :: c30 :: d31 :: d32 :: d33 :: d34 :: d35 :: d36 :: d37 :: c38 :: c39 :: c40 :: c41 :: c42 :: c43 :: c44 :: c45 :: c46 :: c47 :: c48 :: c49 :: c50 :: c51 :: c52 :: c53 :: c54 :: c55 :: c56 :: c57 :: c58 :: c59 :: c60 :: c61 :: c62 :: c63 :: c64 :: c65 :: c66 :: c67 :: c68 :: c69 :: c70 :: c71 :: c72 :: c73 :: c74 :: c75 :: c76 :: c77 :: c78 :: c79 :: c80 :: c81 :: c82 :: c83 :: c84 :: c85 :: c86 :: c87 :: c88 :: c89 :: c90 :: c91 :: c92 :: c93 :: c94 :: c95 :: c96 :: c97 :: c98 :: c99 :: c100 :: c101 :: c102 :: c103 :: c104 :: c105 :: c106 :: c107 :: c108 :: c109 :: c110 :: c111 :: c112 :: c113 :: c114 :: c115 :: c116 :: c117 :: c118 :: c119 :: c120 :: c121 :: c122 :: c123 :: c124 :: c125 :: c126 :: c127 :: c128 :: c129 :: c130 :: c131 :: c132 :: c133 :: c134 :: c135 :: c136 :: c137 :: c138 :: c139 :: c140 :: c141 :: c142 :: c143 :: c144 :: c145 :: c146 :: c147 :: c148 :: c149 :: c150 :: c151 :: c152 :: c153 :: c154 :: c155 :: c156 :: c157 :: c158 :: c159 :: c160 :: c161 :: c162 :: c163 :: c164 :: c165 :: c166 :: c167 :: c168 :: c169 :: c170 :: c171 :: c172 :: c173 :: c174 :: c175 :: c176 :: c177 :: c178 :: c179 :: c180 :: c181 :: c182 :: c183 :: c184 :: c185 :: c186 :: c187 :: c188 :: c189 :: c190 :: c191 :: c192 :: c193 :: c194 :: c195 :: c196 :: c197 :: c198 :: c199 :: c200 :: c201 :: c202 :: c203 :: c204 :: c205 :: c206 :: c207 :: c208 :: c209 :: c210 :: c211 :: c212 :: c213 :: c214 :: c215 :: c216 :: c217 :: c218 :: c219 :: c220 :: c221 :: c222 :: c223 :: c224 :: c225 :: c226 :: c227 :: c228 :: c229 :: c230 :: c231 :: c232 :: c233 :: c234 :: c235 :: c236 :: c237 :: c238 :: c239 :: c240 :: c241 :: c242 :: c243 :: c244 :: c245 :: c246 :: c247 :: c248 :: c249 :: c250 :: c251 :: c252 :: c253 :: c254 :: c255 :: c256 :: c257 :: c258 :: c259 :: c260 :: c261 :: c262 :: c263 :: c264 :: c265 :: c266 :: c267 :: c268 :: c269 :: c270 :: c271 :: c272 :: c273 :: c274 :: c275 :: c276 :: c277 :: c278 :: c279 :: c280 :: c281 :: c282 :: c283 :: c284 :: c285 :: c286 :: c287 :: c288 :: c289 :: c290 :: c291 :: c292 :: c293 :: c294 :: c295 :: c296 :: c297 :: c298 :: c299 :: c300 :: c301 :: c302 :: c303 :: c304 :: c305 :: c306 :: c307 :: c308 :: c309 :: c310 :: c311 :: c312 :: c313 :: c314 :: c315 :: c316 :: c317 :: c318 :: c319 :: c320 :: c321 :: c322 :: c323 :: c324 :: c325 :: c326 :: c327 :: c328 :: c329 :: [])), []⟩ w') :
    Code.wp Tryd.prog (Code.loop body1) (OnExit 0 Post) ⟨(List.toArray (c0 :: c1 :: c2 :: c3 :: c4 :: v0 :: c6 :: c7 :: c8 :: c9 :: c10 :: c11 :: c12 :: c13 :: c14 :: c15 :: c16 :: c17 :: c18 :: c19 :: c20 :: c21 :: c22 :: c23 :: c24 :: c25 :: c26 :: c27 :: c28 :: c29 :: c30 :: c31 :: c32 :: c33 :: c34 :: c35 :: c36 :: c37 :: c38 :: c39 :: c40 :: c41 :: c42 :: c43 :: c44 :: c45 :: c46 :: c47 :: c48 :: c49 :: c50 :: c51 :: c52 :: c53 :: c54 :: c55 :: c56 :: c57 :: c58 :: c59 :: c60 :: c61 :: c62 :: c63 :: c64 :: c65 :: c66 :: c67 :: c68 :: c69 :: c70 :: c71 :: c72 :: c73 :: c74 :: c75 :: c76 :: c77 :: c78 :: c79 :: c80 :: c81 :: c82 :: c83 :: c84 :: c85 :: c86 :: c87 :: c88 :: c89 :: c90 :: c91 :: c92 :: c93 :: c94 :: c95 :: c96 :: c97 :: c98 :: c99 :: c100 :: c101 :: c102 :: c103 :: c104 :: c105 :: c106 :: c107 :: c108 :: c109 :: c110 :: c111 :: c112 :: c113 :: c114 :: c115 :: c116 :: c117 :: c118 :: c119 :: c120 :: c121 :: c122 :: c123 :: c124 :: c125 :: c126 :: c127 :: c128 :: c129 :: c130 :: c131 :: c132 :: c133 :: c134 :: c135 :: c136 :: c137 :: c138 :: c139 :: c140 :: c141 :: c142 :: c143 :: c144 :: c145 :: c146 :: c147 :: c148 :: c149 :: c150 :: c151 :: c152 :: c153 :: c154 :: c155 :: c156 :: c157 :: c158 :: c159 :: c160 :: c161 :: c162 :: c163 :: c164 :: c165 :: c166 :: c167 :: c168 :: c169 :: c170 :: c171 :: c172 :: c173 :: c174 :: c175 :: c176 :: c177 :: c178 :: c179 :: c180 :: c181 :: c182 :: c183 :: c184 :: c185 :: c186 :: c187 :: c188 :: c189 :: c190 :: c191 :: c192 :: c193 :: c194 :: c195 :: c196 :: c197 :: c198 :: c199 :: c200 :: c201 :: c202 :: c203 :: c204 :: c205 :: c206 :: c207 :: c208 :: c209 :: c210 :: c211 :: c212 :: c213 :: c214 :: c215 :: c216 :: c217 :: c218 :: c219 :: c220 :: c221 :: c222 :: c223 :: c224 :: c225 :: c226 :: c227 :: c228 :: c229 :: c230 :: c231 :: c232 :: c233 :: c234 :: c235 :: c236 :: c237 :: c238 :: c239 :: c240 :: c241 :: c242 :: c243 :: c244 :: c245 :: c246 :: c247 :: c248 :: c249 :: c250 :: c251 :: c252 :: c253 :: c254 :: c255 :: c256 :: c257 :: c258 :: c259 :: c260 :: c261 :: c262 :: c263 :: c264 :: c265 :: c266 :: c267 :: c268 :: c269 :: c270 :: c271 :: c272 :: c273 :: c274 :: c275 :: c276 :: c277 :: c278 :: c279 :: c280 :: c281 :: c282 :: c283 :: c284 :: c285 :: c286 :: c287 :: c288 :: c289 :: c290 :: c291 :: c292 :: c293 :: c294 :: c295 :: c296 :: c297 :: c298 :: c299 :: c300 :: c301 :: c302 :: c303 :: c304 :: c305 :: c306 :: c307 :: c308 :: c309 :: c310 :: c311 :: c312 :: c313 :: c314 :: c315 :: c316 :: c317 :: c318 :: c319 :: c320 :: c321 :: c322 :: c323 :: c324 :: c325 :: c326 :: c327 :: c328 :: c329 :: [])), []⟩ w := by
  have HX := hide hexit
  have HZ1 := hide hz1
  have HZ2 := hide hz2
  clear hexit hz1 hz2
  conv => arg 2; arg 1; whnf
  go_loopw [5] (fun v5 wr => ∃ j : Nat, j ≤ z ∧ (∃ q : Nat, q = z - j ∧ OwnB base wr v5 (l ++ List.replicate j 0)) ∧ base ≤ wr.heap.size ∧ Below base w wr) (fun v5 _ => z + l.length - (match v5 with | .slice _ n _ => n | _ => 0))
  case atStart => exact ⟨0, Nat.zero_le _, ⟨z, rfl, by simpa using ho0⟩, hb0, Below.refl _ _⟩
  case round =>
    rename World => wr
    clear ho0
    obtain ⟨j, hj, ⟨_, _, ho⟩, hbr, hf⟩ := hrel
    obtain ⟨a, c, rfl, hb, h1, h2⟩ := OwnB.at ho
    have hlen : (l ++ List.replicate j (0 : UInt8)).length = l.length + j := by simp
    rw [hlen] at h1 ⊢
    obtain ⟨L, hL⟩ : ∃ L, l.length + j = L := ⟨_, rfl⟩
    by_cases hlt : j < z
    · have hne := unhide HZ1 j hlt
      have t1 : (((L : Nat) : Int) % 64 != 56) = true := by
        have : (L : Int) % 64 = ((L % 64 : Nat) : Int) := by omega
        rw [this, ← hL]
        simp
        omega
      obtain ⟨W1, hW1⟩ : ∃ W1, wr.alloc (.cells #[.int .u8 0] 5) = W1 := ⟨_, rfl⟩
      obtain ⟨v', w', happ, hown, hgr⟩ := app_byte (c := 0) (W1 := W1) ho hbr (by rw [hlen]; omega) hW1
      have hrep : (l ++ List.replicate j 0) ++ [0] = l ++ List.replicate (j + 1) (0 : UInt8) := by rw [List.append_assoc, ← List.replicate_succ']
      rw [hrep] at hown
      rw [hlen] at happ
      obtain ⟨a2, c2, hv2, _, _, _⟩ := OwnB.at hown
      have hlen2 : (l ++ List.replicate (j + 1) (0 : UInt8)).length = L + 1 := by rw [← hL]; simp; omega
      rw [hlen2] at hv2
      have HP : Hid (OwnB base w' v' (l ++ List.replicate (j + 1) 0) ∧ base ≤ w'.heap.size ∧ Below base w w') := hide ⟨hown, Nat.le_trans hbr hgr.size, hf.trans (hgr.low hbr (OwnB.base ho))⟩
      have HV2 := hide hv2
      have HL := hide hL
      have HW1 := hide hW1
      rw [hL] at happ ⊢
      clear ho hf hown hgr hW1 hrep hlen hlen2 hL hv2 hb hne h1 h2
      go_wp2_with (at_builtin; rw [unhide HW1]; refine Lib.wpList_append_run _ rfl (.tmp 35) (.tmp 36) 29 29 (by rfl) (.slice a L c) (.slice (some ⟨wr.heap.size, 0, none⟩) 1 1) (by kernel_rfl) (by kernel_rfl) v' w' happ ?_)
      refine ⟨⟨j + 1, hlt, ⟨_, rfl, (unhide HP).1⟩, (unhide HP).2.1, (unhide HP).2.2⟩, ?_⟩
      have h1 := unhide HV2
      have h2 := unhide HL
      rw [h1]
      simp only
      omega
    · have hjz : j = z := by omega
      subst hjz
      have t1 : (((L : Nat) : Int) % 64 != 56) = false := by
        have e := unhide HZ2
        rw [hL] at e
        have : (L : Int) % 64 = ((L % 64 : Nat) : Int) := by omega
        rw [this, e]
        rfl
      rw [hlen, hL] at ho
      rw [hL]
      have HK : Hid (OwnB base wr (.slice a L c) (l ++ List.replicate j 0)) := hide ho
      have HF := hide hf
      clear ho hf hb hlen hL h1 h2
      go_wp2
      refine ⟨rfl, unhide HX _ _ _ _ _ _ _ _ wr (unhide HK) (unhide HF)⟩

theorem kL_cells : (kL.map encW).toArray = lit64 := by kernel_rfl

set_option maxRecDepth 100000 in
set_option maxHeartbeats 1000000 in
theorem consts_any (w : World) : Calls Tryd.prog 94 #[] w fun e w' => e = .returned (.slice (some ⟨w.heap.size, 0, none⟩) 64 64) ∧ w' = w.alloc (.cells (kL.map encW).toArray 115) := by
  have HK := hide kL_cells
  go_enter Tryd.func94, Tryd.ntmps94
  go_wp2
  go_ret
  exact ⟨rfl, by rw [unhide HK]⟩

set_option maxRecDepth 100000 in
set_option maxHeartbeats 1000000 in
theorem bytes_any {w : World} {a : Option Addr} {n c : Nat} {b : Bs} (hn : b.length = n) (hN : n ≤ 1073741824) (h : BAt w a b) :
    Calls Tryd.prog 56 #[.slice a n c] w fun e w' => ∃ v, e = .returned v ∧ OwnB w.heap.size w' v b ∧ Below w.heap.size w w' := by
  obtain ⟨W1, hW1⟩ : ∃ W1, w.alloc (.cells #[] 5) = W1 := ⟨_, rfl⟩
  have hb1 : Below w.heap.size w W1 := by rw [← hW1]; exact (Below.refl _ _).alloc (Nat.le_refl _) _
  have ho : OwnB w.heap.size W1 (.slice (some ⟨w.heap.size, 0, none⟩) 0 0) [] := by
    refine ⟨rfl, Or.inr ⟨w.heap.size, 0, #[], rfl, Nat.le_refl _, ?_, Nat.le_refl _, by unfold maxLen; omega, rfl, rfl⟩⟩
    rw [← hW1]
    exact heap_alloc_new w _
  obtain ⟨v', w', happ, hown, hgr⟩ := app_at (c := c) hn (h.low hb1) ho hb1.size (by simp; omega)
  have HP : Hid (OwnB w.heap.size w' v' b ∧ Below w.heap.size w w') := hide ⟨by simpa using hown, hb1.trans (hgr.low hb1.size (OwnB.base ho))⟩
  have HW1 := hide hW1
  clear hown hgr ho hW1 h hn hb1
  go_enter Tryd.func56, Tryd.ntmps56
  go_wp2_with (at_builtin; rw [unhide HW1]; refine Lib.wpList_append_run _ rfl _ _ _ _ rfl _ _ rfl rfl _ _ happ ?_)
  go_ret
  exact ⟨_, rfl, (unhide HP).1, (unhide HP).2⟩
end Go.Proofs.YtkpmbbeidcpclaaDoor
