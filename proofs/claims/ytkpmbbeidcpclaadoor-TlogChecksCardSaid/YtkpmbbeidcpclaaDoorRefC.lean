/-
  The reference's SHA-256: a text's length laid behind it.
-/
import Derived.Test.YtkpmbbeidcpclaaDoorRefB
namespace Go.Proofs.YtkpmbbeidcpclaaDoor
open Go.RowKit

noncomputable def body2 : Code := ((Tryd.f55.body.map loopsOf).getD []).getD 1 .skip

set_option maxRecDepth 1000000 in
set_option maxHeartbeats 4000000 in
theorem loop2 {c0 c1 c2 c3 c4 c8 c9 c10 c11 c12 c13 c14 c15 c16 c17 c18 c19 c20 c21 c22 c23 c24 c25 c26 c27 c28 c29 c30 c31 c32 c33 c34 c35 c36 c37 c38 c39 c40 c41 c42 c43 c44 c45 c46 c47 c48 c49 c50 c51 c52 c53 c54 c55 c56 c57 c58 c59 c60 c61 c62 c63 c64 c65 c66 c67 c68 c69 c70 c71 c72 c73 c74 c75 c76 c77 c78 c79 c80 c81 c82 c83 c84 c85 c86 c87 c88 c89 c90 c91 c92 c93 c94 c95 c96 c97 c98 c99 c100 c101 c102 c103 c104 c105 c106 c107 c108 c109 c110 c111 c112 c113 c114 c115 c116 c117 c118 c119 c120 c121 c122 c123 c124 c125 c126 c127 c128 c129 c130 c131 c132 c133 c134 c135 c136 c137 c138 c139 c140 c141 c142 c143 c144 c145 c146 c147 c148 c149 c150 c151 c152 c153 c154 c155 c156 c157 c158 c159 c160 c161 c162 c163 c164 c165 c166 c167 c168 c169 c170 c171 c172 c173 c174 c175 c176 c177 c178 c179 c180 c181 c182 c183 c184 c185 c186 c187 c188 c189 c190 c191 c192 c193 c194 c195 c196 c197 c198 c199 c200 c201 c202 c203 c204 c205 c206 c207 c208 c209 c210 c211 c212 c213 c214 c215 c216 c217 c218 c219 c220 c221 c222 c223 c224 c225 c226 c227 c228 c229 c230 c231 c232 c233 c234 c235 c236 c237 c238 c239 c240 c241 c242 c243 c244 c245 c246 c247 c248 c249 c250 c251 c252 c253 c254 c255 c256 c257 c258 c259 c260 c261 c262 c263 c264 c265 c266 c267 c268 c269 c270 c271 c272 c273 c274 c275 c276 c277 c278 c279 c280 c281 c282 c283 c284 c285 c286 c287 c288 c289 c290 c291 c292 c293 c294 c295 c296 c297 c298 c299 c300 c301 c302 c303 c304 c305 c306 c307 c308 c309 c310 c311 c312 c313 c314 c315 c316 c317 c318 c319 c320 c321 c322 c323 c324 c325 c326 c327 c328 c329 : Value} {v0 : Value} {base n : Nat} {l : Bs} {w : World} {Post : Act → World → Prop} (hl : l.length ≤ 1073741824) (hb0 : base ≤ w.heap.size) (ho0 : OwnB base w v0 l)
    (hexit : ∀ vo d42 d43 d44 d45 d46 d47 d48 d49 d50 d51 d52 d53 w', OwnB base w' vo (l ++ be8 n) → Below base w w' → Post ⟨(List.toArray (c0 :: c1 :: c2 :: c3 :: c4 :: vo :: (.int .u64 (n : Int)) :: (.int .i64 (-1)) :: c8 :: c9 :: c10 :: c11 :: c12 :: c13 :: c14 :: c15 :: c16 :: c17 :: c18 :: c19 :: c20 :: c21 :: c22 :: c23 :: c24 :: c25 :: c26 :: c27 :: c28 :: c29 :: c30 :: c31 :: c32 :: c33 :: c34 :: c35 :: c36 :: c37 :: c38 :: c39 :: c40 :: c41 :: d42 :: d43 :: d44 :: d45 :: d46 :: d47 :: d48 :: d49 :: d50 :: d51 :: d52 :: d53 :: c54 :: c55 :: c56 :: c57 :: c58 :: c59 :: c60 :: c61 :: c62 :: c63 :: c64 :: c65 :: c66 :: c67 :: c68 :: c69 :: c70 :: c71 :: c72 :: c73 :: c74 :: c75 :: c76 :: c77 :: c78 :: c79 :: c80 :: c81 :: c82 :: c83 :: c84 :: c85 :: c86 :: c87 :: c88 :: c89 :: c90 :: c91 :: c92 :: c93 :: c94 :: c95 :: c96 :: c97 :: c98 :: c99 :: c100 :: c101 :: c102 :: c103 :: c104 :: c105 :: c106 :: c107 :: c108 :: c109 :: c110 :: c111 :: c112 :: c113 :: c114 :: c115 :: c116 :: c117 :: c118 :: c119 :: c120 :: c121 :: c122 :: c123 :: c124 :: c125 :: c126 :: c127 :: c128 :: c129 :: c130 :: c131 :: c132 :: c133 :: c134 :: c135 :: c136 :: c137 :: c138 :: c139 :: c140 :: c141 :: c142 :: c143 :: c144 :: c145 :: c146 :: c147 :: c148 :: c149 :: c150 :: c151 :: c152 :: c153 :: c154 :: c155 :: c156 :: c157 :: c158 :: c159 :: c160 :: c161 :: c162 :: c163 :: c164 :: c165 :: c166 :: c167 :: c168 :: c169 :: c170 :: c171 :: c172 :: c173 :: c174 :: c175 :: c176 :: c177 :: c178 :: c179 :: c180 :: c181 :: c182 :: c183 :: c184 :: c185 :: c186 :: c187 :: c188 :: c189 :: c190 :: c191 :: c192 :: c193 :: c194 :: c195 :: c196 :: c197 :: c198 :: c199 :: c200 :: c201 :: c202 :: c203 :: c204 :: c205 :: c206 :: c207 :: c208 :: c209 :: c210 :: c211 :: c212 :: c213 :: c214 :: c215 :: c216 :: c217 :: c218 :: c219 :: c220 :: c221 :: c222 :: c223 :: c224 :: c225 :: c226 :: c227 :: c228 :: c229 :: c230 :: c231 :: c232 :: c233 :: c234 :: c235 :: c236 :: c237 :: c238 :: c239 :: c240 :: c241 :: c242 :: c243 :: c244 :: c245 :: c246 :: c247 :: c248 :: c249 :: c250 :: c251 :: c252 :: c253 :: c254 :: c255 :: c256 :: c257 :: c258 :: c259 :: c260 :: c261 :: c262 :: c263 :: c264 :: c265 :: c266 :: c267 :: c268 :: c269 :: c270 :: c271 :: c272 :: c273 :: c274 :: c275 :: c276 :: c277 :: c278 :: c279 :: c280 :: c281 :: c282 :: c283 :: c284 :: c285 :: c286 :: c287 :: c288 :: c289 :: c290 :: c291 :: c292 :: c293 :: c294 :: c295 :: c296 :: c297 :: c298 :: c299 :: c300 :: c301 :: c302 :: c303 :: c304 :: c305 :: c306 :: c307 :: c308 :: c309 :: c310 :: c311 :: c312 :: c313 :: c314 :: c315 :: c316 :: c317 :: c318 :: c319 :: c320 :: c321 :: c322 :: c323 :: c324 :: c325 :: c326 :: c327 :: c328 :: c329 :: [])), []⟩ w') :
    Code.wp Tryd.prog (Code.loop body2) (OnExit 2 Post) ⟨(List.toArray (c0 :: c1 :: c2 :: c3 :: c4 :: v0 :: (.int .u64 (n : Int)) :: (.int .i64 7) :: c8 :: c9 :: c10 :: c11 :: c12 :: c13 :: c14 :: c15 :: c16 :: c17 :: c18 :: c19 :: c20 :: c21 :: c22 :: c23 :: c24 :: c25 :: c26 :: c27 :: c28 :: c29 :: c30 :: c31 :: c32 :: c33 :: c34 :: c35 :: c36 :: c37 :: c38 :: c39 :: c40 :: c41 :: c42 :: c43 :: c44 :: c45 :: c46 :: c47 :: c48 :: c49 :: c50 :: c51 :: c52 :: c53 :: c54 :: c55 :: c56 :: c57 :: c58 :: c59 :: c60 :: c61 :: c62 :: c63 :: c64 :: c65 :: c66 :: c67 :: c68 :: c69 :: c70 :: c71 :: c72 :: c73 :: c74 :: c75 :: c76 :: c77 :: c78 :: c79 :: c80 :: c81 :: c82 :: c83 :: c84 :: c85 :: c86 :: c87 :: c88 :: c89 :: c90 :: c91 :: c92 :: c93 :: c94 :: c95 :: c96 :: c97 :: c98 :: c99 :: c100 :: c101 :: c102 :: c103 :: c104 :: c105 :: c106 :: c107 :: c108 :: c109 :: c110 :: c111 :: c112 :: c113 :: c114 :: c115 :: c116 :: c117 :: c118 :: c119 :: c120 :: c121 :: c122 :: c123 :: c124 :: c125 :: c126 :: c127 :: c128 :: c129 :: c130 :: c131 :: c132 :: c133 :: c134 :: c135 :: c136 :: c137 :: c138 :: c139 :: c140 :: c141 :: c142 :: c143 :: c144 :: c145 :: c146 :: c147 :: c148 :: c149 :: c150 :: c151 :: c152 :: c153 :: c154 :: c155 :: c156 :: c157 :: c158 :: c159 :: c160 :: c161 :: c162 :: c163 :: c164 :: c165 :: c166 :: c167 :: c168 :: c169 :: c170 :: c171 :: c172 :: c173 :: c174 :: c175 :: c176 :: c177 :: c178 :: c179 :: c180 :: c181 :: c182 :: c183 :: c184 :: c185 :: c186 :: c187 :: c188 :: c189 :: c190 :: c191 :: c192 :: c193 :: c194 :: c195 :: c196 :: c197 :: c198 :: c199 :: c200 :: c201 :: c202 :: c203 :: c204 :: c205 :: c206 :: c207 :: c208 :: c209 :: c210 :: c211 :: c212 :: c213 :: c214 :: c215 :: c216 :: c217 :: c218 :: c219 :: c220 :: c221 :: c222 :: c223 :: c224 :: c225 :: c226 :: c227 :: c228 :: c229 :: c230 :: c231 :: c232 :: c233 :: c234 :: c235 :: c236 :: c237 :: c238 :: c239 :: c240 :: c241 :: c242 :: c243 :: c244 :: c245 :: c246 :: c247 :: c248 :: c249 :: c250 :: c251 :: c252 :: c253 :: c254 :: c255 :: c256 :: c257 :: c258 :: c259 :: c260 :: c261 :: c262 :: c263 :: c264 :: c265 :: c266 :: c267 :: c268 :: c269 :: c270 :: c271 :: c272 :: c273 :: c274 :: c275 :: c276 :: c277 :: c278 :: c279 :: c280 :: c281 :: c282 :: c283 :: c284 :: c285 :: c286 :: c287 :: c288 :: c289 :: c290 :: c291 :: c292 :: c293 :: c294 :: c295 :: c296 :: c297 :: c298 :: c299 :: c300 :: c301 :: c302 :: c303 :: c304 :: c305 :: c306 :: c307 :: c308 :: c309 :: c310 :: c311 :: c312 :: c313 :: c314 :: c315 :: c316 :: c317 :: c318 :: c319 :: c320 :: c321 :: c322 :: c323 :: c324 :: c325 :: c326 :: c327 :: c328 :: c329 :: [])), []⟩ w := by
  have HX := hide hexit
  clear hexit
  conv => arg 2; arg 1; whnf
  go_loopw [5, 7] (fun v5 v7 wr => ∃ j : Nat, j ≤ 8 ∧ v7 = .int .i64 (7 - (j : Int)) ∧ OwnB base wr v5 (l ++ (be8 n).take j) ∧ base ≤ wr.heap.size ∧ Below base w wr) (fun _ v7 _ => (intOf v7 + 1).toNat)
  case atStart => exact ⟨0, Nat.zero_le _, rfl, by simpa using ho0, hb0, Below.refl _ _⟩
  case round =>
    rename World => wr
    clear ho0
    obtain ⟨j, hj, rfl, ho, hbr, hf⟩ := hrel
    have hlen : (l ++ (be8 n).take j).length ≤ 2147483648 := by rw [List.length_append, List.length_take]; omega
    by_cases hlt : j < 8
    · have hj8 : j = 0 ∨ j = 1 ∨ j = 2 ∨ j = 3 ∨ j = 4 ∨ j = 5 ∨ j = 6 ∨ j = 7 := by omega
      rcases hj8 with rfl | rfl | rfl | rfl | rfl | rfl | rfl | rfl
      · have hbv : IntKind.u8.wrap ((n : Int) / (72057594037927936 : Int)) = ((UInt8.ofNat (n >>> 56)).toNat : Int) := by rw [IntKind.wrap_u8']; exact byteN n (k := 56) (p := 72057594037927936) (by decide)
        obtain ⟨x, hx⟩ : ∃ x, UInt8.ofNat (n >>> 56) = x := ⟨_, rfl⟩
        rw [hx] at hbv
        obtain ⟨W1, hW1⟩ : ∃ W1, wr.alloc (.cells #[.int .u8 (x.toNat : Int)] 5) = W1 := ⟨_, rfl⟩
        obtain ⟨v', w', happ, hown, hgr⟩ := app_byte (c := x) (W1 := W1) ho hbr hlen hW1
        have HP : Hid (OwnB base w' v' (l ++ (be8 n).take 1) ∧ base ≤ w'.heap.size ∧ Below base w w') := hide ⟨by rw [← hx] at hown; have := hown; rw [List.append_assoc] at this; exact this, Nat.le_trans hbr hgr.size, hf.trans (hgr.low hbr (OwnB.base ho))⟩
        have HW1 := hide hW1
        clear ho hf hown hgr hW1 hx hlen hj hlt
        rw [show (7 : Int) - ((0 : Nat) : Int) = 7 from rfl]
        go_wp2_with (at_builtin; rw [unhide HW1]; refine Lib.wpList_append_run _ rfl (.tmp 46) (.tmp 52) 29 29 (by rfl) u5 (.slice (some ⟨wr.heap.size, 0, none⟩) 1 1) (by kernel_rfl) (by kernel_rfl) v' w' happ ?_)
        refine ⟨⟨1, by omega, rfl, (unhide HP).1, (unhide HP).2.1, (unhide HP).2.2⟩, ?_⟩
        simp [intOf]
      · have hbv : IntKind.u8.wrap ((n : Int) / (281474976710656 : Int)) = ((UInt8.ofNat (n >>> 48)).toNat : Int) := by rw [IntKind.wrap_u8']; exact byteN n (k := 48) (p := 281474976710656) (by decide)
        obtain ⟨x, hx⟩ : ∃ x, UInt8.ofNat (n >>> 48) = x := ⟨_, rfl⟩
        rw [hx] at hbv
        obtain ⟨W1, hW1⟩ : ∃ W1, wr.alloc (.cells #[.int .u8 (x.toNat : Int)] 5) = W1 := ⟨_, rfl⟩
        obtain ⟨v', w', happ, hown, hgr⟩ := app_byte (c := x) (W1 := W1) ho hbr hlen hW1
        have HP : Hid (OwnB base w' v' (l ++ (be8 n).take 2) ∧ base ≤ w'.heap.size ∧ Below base w w') := hide ⟨by rw [← hx] at hown; have := hown; rw [List.append_assoc] at this; exact this, Nat.le_trans hbr hgr.size, hf.trans (hgr.low hbr (OwnB.base ho))⟩
        have HW1 := hide hW1
        clear ho hf hown hgr hW1 hx hlen hj hlt
        rw [show (7 : Int) - ((1 : Nat) : Int) = 6 from rfl]
        go_wp2_with (at_builtin; rw [unhide HW1]; refine Lib.wpList_append_run _ rfl (.tmp 46) (.tmp 52) 29 29 (by rfl) u5 (.slice (some ⟨wr.heap.size, 0, none⟩) 1 1) (by kernel_rfl) (by kernel_rfl) v' w' happ ?_)
        refine ⟨⟨2, by omega, rfl, (unhide HP).1, (unhide HP).2.1, (unhide HP).2.2⟩, ?_⟩
        simp [intOf]
      · have hbv : IntKind.u8.wrap ((n : Int) / (1099511627776 : Int)) = ((UInt8.ofNat (n >>> 40)).toNat : Int) := by rw [IntKind.wrap_u8']; exact byteN n (k := 40) (p := 1099511627776) (by decide)
        obtain ⟨x, hx⟩ : ∃ x, UInt8.ofNat (n >>> 40) = x := ⟨_, rfl⟩
        rw [hx] at hbv
        obtain ⟨W1, hW1⟩ : ∃ W1, wr.alloc (.cells #[.int .u8 (x.toNat : Int)] 5) = W1 := ⟨_, rfl⟩
        obtain ⟨v', w', happ, hown, hgr⟩ := app_byte (c := x) (W1 := W1) ho hbr hlen hW1
        have HP : Hid (OwnB base w' v' (l ++ (be8 n).take 3) ∧ base ≤ w'.heap.size ∧ Below base w w') := hide ⟨by rw [← hx] at hown; have := hown; rw [List.append_assoc] at this; exact this, Nat.le_trans hbr hgr.size, hf.trans (hgr.low hbr (OwnB.base ho))⟩
        have HW1 := hide hW1
        clear ho hf hown hgr hW1 hx hlen hj hlt
        rw [show (7 : Int) - ((2 : Nat) : Int) = 5 from rfl]
        go_wp2_with (at_builtin; rw [unhide HW1]; refine Lib.wpList_append_run _ rfl (.tmp 46) (.tmp 52) 29 29 (by rfl) u5 (.slice (some ⟨wr.heap.size, 0, none⟩) 1 1) (by kernel_rfl) (by kernel_rfl) v' w' happ ?_)
        refine ⟨⟨3, by omega, rfl, (unhide HP).1, (unhide HP).2.1, (unhide HP).2.2⟩, ?_⟩
        simp [intOf]
      · have hbv : IntKind.u8.wrap ((n : Int) / (4294967296 : Int)) = ((UInt8.ofNat (n >>> 32)).toNat : Int) := by rw [IntKind.wrap_u8']; exact byteN n (k := 32) (p := 4294967296) (by decide)
        obtain ⟨x, hx⟩ : ∃ x, UInt8.ofNat (n >>> 32) = x := ⟨_, rfl⟩
        rw [hx] at hbv
        obtain ⟨W1, hW1⟩ : ∃ W1, wr.alloc (.cells #[.int .u8 (x.toNat : Int)] 5) = W1 := ⟨_, rfl⟩
        obtain ⟨v', w', happ, hown, hgr⟩ := app_byte (c := x) (W1 := W1) ho hbr hlen hW1
        have HP : Hid (OwnB base w' v' (l ++ (be8 n).take 4) ∧ base ≤ w'.heap.size ∧ Below base w w') := hide ⟨by rw [← hx] at hown; have := hown; rw [List.append_assoc] at this; exact this, Nat.le_trans hbr hgr.size, hf.trans (hgr.low hbr (OwnB.base ho))⟩
        have HW1 := hide hW1
        clear ho hf hown hgr hW1 hx hlen hj hlt
        rw [show (7 : Int) - ((3 : Nat) : Int) = 4 from rfl]
        go_wp2_with (at_builtin; rw [unhide HW1]; refine Lib.wpList_append_run _ rfl (.tmp 46) (.tmp 52) 29 29 (by rfl) u5 (.slice (some ⟨wr.heap.size, 0, none⟩) 1 1) (by kernel_rfl) (by kernel_rfl) v' w' happ ?_)
        refine ⟨⟨4, by omega, rfl, (unhide HP).1, (unhide HP).2.1, (unhide HP).2.2⟩, ?_⟩
        simp [intOf]
      · have hbv : IntKind.u8.wrap ((n : Int) / (16777216 : Int)) = ((UInt8.ofNat (n >>> 24)).toNat : Int) := by rw [IntKind.wrap_u8']; exact byteN n (k := 24) (p := 16777216) (by decide)
        obtain ⟨x, hx⟩ : ∃ x, UInt8.ofNat (n >>> 24) = x := ⟨_, rfl⟩
        rw [hx] at hbv
        obtain ⟨W1, hW1⟩ : ∃ W1, wr.alloc (.cells #[.int .u8 (x.toNat : Int)] 5) = W1 := ⟨_, rfl⟩
        obtain ⟨v', w', happ, hown, hgr⟩ := app_byte (c := x) (W1 := W1) ho hbr hlen hW1
        have HP : Hid (OwnB base w' v' (l ++ (be8 n).take 5) ∧ base ≤ w'.heap.size ∧ Below base w w') := hide ⟨by rw [← hx] at hown; have := hown; rw [List.append_assoc] at this; exact this, Nat.le_trans hbr hgr.size, hf.trans (hgr.low hbr (OwnB.base ho))⟩
        have HW1 := hide hW1
        clear ho hf hown hgr hW1 hx hlen hj hlt
        rw [show (7 : Int) - ((4 : Nat) : Int) = 3 from rfl]
        go_wp2_with (at_builtin; rw [unhide HW1]; refine Lib.wpList_append_run _ rfl (.tmp 46) (.tmp 52) 29 29 (by rfl) u5 (.slice (some ⟨wr.heap.size, 0, none⟩) 1 1) (by kernel_rfl) (by kernel_rfl) v' w' happ ?_)
        refine ⟨⟨5, by omega, rfl, (unhide HP).1, (unhide HP).2.1, (unhide HP).2.2⟩, ?_⟩
        simp [intOf]
      · have hbv : IntKind.u8.wrap ((n : Int) / (65536 : Int)) = ((UInt8.ofNat (n >>> 16)).toNat : Int) := by rw [IntKind.wrap_u8']; exact byteN n (k := 16) (p := 65536) (by decide)
        obtain ⟨x, hx⟩ : ∃ x, UInt8.ofNat (n >>> 16) = x := ⟨_, rfl⟩
        rw [hx] at hbv
        obtain ⟨W1, hW1⟩ : ∃ W1, wr.alloc (.cells #[.int .u8 (x.toNat : Int)] 5) = W1 := ⟨_, rfl⟩
        obtain ⟨v', w', happ, hown, hgr⟩ := app_byte (c := x) (W1 := W1) ho hbr hlen hW1
        have HP : Hid (OwnB base w' v' (l ++ (be8 n).take 6) ∧ base ≤ w'.heap.size ∧ Below base w w') := hide ⟨by rw [← hx] at hown; have := hown; rw [List.append_assoc] at this; exact this, Nat.le_trans hbr hgr.size, hf.trans (hgr.low hbr (OwnB.base ho))⟩
        have HW1 := hide hW1
        clear ho hf hown hgr hW1 hx hlen hj hlt
        rw [show (7 : Int) - ((5 : Nat) : Int) = 2 from rfl]
        go_wp2_with (at_builtin; rw [unhide HW1]; refine Lib.wpList_append_run _ rfl (.tmp 46) (.tmp 52) 29 29 (by rfl) u5 (.slice (some ⟨wr.heap.size, 0, none⟩) 1 1) (by kernel_rfl) (by kernel_rfl) v' w' happ ?_)
        refine ⟨⟨6, by omega, rfl, (unhide HP).1, (unhide HP).2.1, (unhide HP).2.2⟩, ?_⟩
        simp [intOf]
      · have hbv : IntKind.u8.wrap ((n : Int) / (256 : Int)) = ((UInt8.ofNat (n >>> 8)).toNat : Int) := by rw [IntKind.wrap_u8']; exact byteN n (k := 8) (p := 256) (by decide)
        obtain ⟨x, hx⟩ : ∃ x, UInt8.ofNat (n >>> 8) = x := ⟨_, rfl⟩
        rw [hx] at hbv
        obtain ⟨W1, hW1⟩ : ∃ W1, wr.alloc (.cells #[.int .u8 (x.toNat : Int)] 5) = W1 := ⟨_, rfl⟩
        obtain ⟨v', w', happ, hown, hgr⟩ := app_byte (c := x) (W1 := W1) ho hbr hlen hW1
        have HP : Hid (OwnB base w' v' (l ++ (be8 n).take 7) ∧ base ≤ w'.heap.size ∧ Below base w w') := hide ⟨by rw [← hx] at hown; have := hown; rw [List.append_assoc] at this; exact this, Nat.le_trans hbr hgr.size, hf.trans (hgr.low hbr (OwnB.base ho))⟩
        have HW1 := hide hW1
        clear ho hf hown hgr hW1 hx hlen hj hlt
        rw [show (7 : Int) - ((6 : Nat) : Int) = 1 from rfl]
        go_wp2_with (at_builtin; rw [unhide HW1]; refine Lib.wpList_append_run _ rfl (.tmp 46) (.tmp 52) 29 29 (by rfl) u5 (.slice (some ⟨wr.heap.size, 0, none⟩) 1 1) (by kernel_rfl) (by kernel_rfl) v' w' happ ?_)
        refine ⟨⟨7, by omega, rfl, (unhide HP).1, (unhide HP).2.1, (unhide HP).2.2⟩, ?_⟩
        simp [intOf]
      · have hbv : IntKind.u8.wrap ((n : Int)) = ((UInt8.ofNat n).toNat : Int) := by rw [IntKind.wrap_u8']; exact byteN0 n
        obtain ⟨x, hx⟩ : ∃ x, UInt8.ofNat n = x := ⟨_, rfl⟩
        rw [hx] at hbv
        obtain ⟨W1, hW1⟩ : ∃ W1, wr.alloc (.cells #[.int .u8 (x.toNat : Int)] 5) = W1 := ⟨_, rfl⟩
        obtain ⟨v', w', happ, hown, hgr⟩ := app_byte (c := x) (W1 := W1) ho hbr hlen hW1
        have HP : Hid (OwnB base w' v' (l ++ (be8 n).take 8) ∧ base ≤ w'.heap.size ∧ Below base w w') := hide ⟨by rw [← hx] at hown; have := hown; rw [List.append_assoc] at this; exact this, Nat.le_trans hbr hgr.size, hf.trans (hgr.low hbr (OwnB.base ho))⟩
        have HW1 := hide hW1
        clear ho hf hown hgr hW1 hx hlen hj hlt
        rw [show (7 : Int) - ((7 : Nat) : Int) = 0 from rfl]
        go_wp2_with (at_builtin; rw [unhide HW1]; refine Lib.wpList_append_run _ rfl (.tmp 46) (.tmp 52) 29 29 (by rfl) u5 (.slice (some ⟨wr.heap.size, 0, none⟩) 1 1) (by kernel_rfl) (by kernel_rfl) v' w' happ ?_)
        refine ⟨⟨8, by omega, rfl, (unhide HP).1, (unhide HP).2.1, (unhide HP).2.2⟩, ?_⟩
        simp [intOf]
    · have hj8 : j = 8 := by omega
      subst hj8
      rw [show (7 : Int) - ((8 : Nat) : Int) = -1 from rfl]
      have HK := hide ho
      have HF := hide hf
      clear ho hf hlen hj hlt
      go_wp2
      refine ⟨rfl, unhide HX _ _ _ _ _ _ _ _ _ _ _ _ _ wr (unhide HK) (unhide HF)⟩
end Go.Proofs.YtkpmbbeidcpclaaDoor
