/-
  The reference's SHA-256: what is answered.
-/
import Derived.Test.YtkablmjkffdloaaGreatDoorRefF
import Derived.Deep.RegionLaw
namespace Go.Proofs.YtkablmjkffdloaaGreatDoor
open Go.RowKit

noncomputable def body8 : Code := ((Tryz.f28.body.map loopsOf).getD []).getD 7 .skip

/-- append of four bytes, laid into a block of their own. -/
theorem app_four {B : Nat} {w W1 : World} {v : Value} {l : Bs} {c d e f : UInt8} (ho : OwnB B w v l) (hB : B ≤ w.heap.size) (hl : l.length ≤ 2147483648) (hW : w.alloc (.cells #[.int .u8 (c.toNat : Int), .int .u8 (d.toNat : Int), .int .u8 (e.toNat : Int), .int .u8 (f.toNat : Int)] 5) = W1) :
    ∃ v' w', (Builtin.append_ #[23, 23] 23 #[v, .slice (some ⟨w.heap.size, 0, none⟩) 4 4]).run Tryz.prog W1 = .ok v' w' ∧ OwnB B w' v' (l ++ [c, d, e, f]) ∧ GrB w w' v v' := by
  have hb : Below w.heap.size w W1 := by rw [← hW]; exact (Below.refl _ _).alloc (Nat.le_refl _) _
  have hblk : Blk W1 w.heap.size #[.int .u8 (c.toNat : Int), .int .u8 (d.toNat : Int), .int .u8 (e.toNat : Int), .int .u8 (f.toNat : Int)] 5 := by rw [← hW]; exact Blk.new _ _ _
  obtain ⟨v', w', h1, h2, h3⟩ := app_bytes (a := ⟨w.heap.size, 0, none⟩) (m := [c, d, e, f]) (n := 4) (c := 4) (ho.low hb) (Nat.le_trans hB hb.size) rfl (fun k hk => by
    have : k = 0 ∨ k = 1 ∨ k = 2 ∨ k = 3 := by simp at hk; omega
    rcases this with rfl | rfl | rfl | rfl
    · exact hblk.cell 0
    · exact hblk.cell 1
    · exact hblk.cell 2
    · exact hblk.cell 3) (by omega)
  have ha : GrB w W1 v v := by rw [← hW]; exact GrB.alloc _ _ _
  exact ⟨v', w', h1, h2, ha.trans h3⟩

theorem flat4_len (l : List UInt32) : (l.flatMap be4).length = 4 * l.length := by
  induction l with
  | nil => rfl
  | cons x l ih => rw [List.flatMap_cons, List.length_append, ih]; simp [be4]; omega

set_option maxRecDepth 1000000 in
set_option maxHeartbeats 1500000 in
theorem loop8 {c0 c1 c2 c3 c5 c6 c7 c8 c9 c10 c11 c12 c13 c14 c15 c16 c17 c18 c19 c20 c21 c22 c25 c26 c27 c28 c29 c30 c31 c32 c33 c34 c35 c36 c37 c38 c39 c40 c41 c42 c43 c44 c45 c46 c47 c48 c49 c50 c51 c52 c53 c54 c55 c56 c57 c58 c59 c60 c61 c62 c63 c64 c65 c66 c67 c68 c69 c70 c71 c72 c73 c74 c75 c76 c77 c78 c79 c80 c81 c82 c83 c84 c85 c86 c87 c88 c89 c90 c91 c92 c93 c94 c95 c96 c97 c98 c99 c100 c101 c102 c103 c104 c105 c106 c107 c108 c109 c110 c111 c112 c113 c114 c115 c116 c117 c118 c119 c120 c121 c122 c123 c124 c125 c126 c127 c128 c129 c130 c131 c132 c133 c134 c135 c136 c137 c138 c139 c140 c141 c142 c143 c144 c145 c146 c147 c148 c149 c150 c151 c152 c153 c154 c155 c156 c157 c158 c159 c160 c161 c162 c163 c164 c165 c166 c167 c168 c169 c170 c171 c172 c173 c174 c175 c176 c177 c178 c179 c180 c181 c182 c183 c184 c185 c186 c187 c188 c189 c190 c191 c192 c193 c194 c195 c196 c197 c198 c199 c200 c201 c202 c203 c204 c205 c206 c207 c208 c209 c210 c211 c212 c213 c214 c215 c216 c217 c218 c219 c220 c221 c222 c223 c224 c225 c226 c227 c228 c229 c230 c231 c232 c233 c234 c235 c236 c237 c238 c239 c240 c241 c242 c243 c244 c245 c246 c247 c248 c249 c250 c251 c252 c253 c254 c255 c256 c257 c258 c259 c260 c261 c262 c263 c264 c265 c266 c267 c268 c269 c270 c271 c272 c273 c274 c275 c276 c277 c278 c279 c280 c281 c282 c283 c284 c285 c286 c287 c288 c289 c290 c291 c292 c293 c294 c295 c296 c297 c298 c299 c300 c301 c302 c303 c304 c305 c306 c307 c308 c309 c310 c311 c312 c313 c314 c315 c316 c317 c318 c319 c320 c321 c322 c323 c324 c325 c326 c327 c328 c329 : Value} {hB : Nat} {hs : List UInt32} {w : World} {Post : Act → World → Prop} (hh : hs.length = 8) (kh0 : WBlk w hB hs)
    (hexit : ∀ vo d299 d300 d301 d302 d303 d304 d305 d306 d307 d308 d309 d310 d311 d312 d313 d314 d315 d316 d317 d318 d319 d320 d321 d322 d323 d324 d325 d326 d327 d328 w', OwnB w.heap.size w' vo (hs.flatMap be4) → Below w.heap.size w w' → Post ⟨(List.toArray (c0 :: c1 :: c2 :: c3 :: (.slice (some ⟨hB, 0, none⟩) 8 8) :: c5 :: c6 :: c7 :: c8 :: c9 :: c10 :: c11 :: c12 :: c13 :: c14 :: c15 :: c16 :: c17 :: c18 :: c19 :: c20 :: c21 :: c22 :: vo :: (.int .i64 8) :: c25 :: c26 :: c27 :: c28 :: c29 :: c30 :: c31 :: c32 :: c33 :: c34 :: c35 :: c36 :: c37 :: c38 :: c39 :: c40 :: c41 :: c42 :: c43 :: c44 :: c45 :: c46 :: c47 :: c48 :: c49 :: c50 :: c51 :: c52 :: c53 :: c54 :: c55 :: c56 :: c57 :: c58 :: c59 :: c60 :: c61 :: c62 :: c63 :: c64 :: c65 :: c66 :: c67 :: c68 :: c69 :: c70 :: c71 :: c72 :: c73 :: c74 :: c75 :: c76 :: c77 :: c78 :: c79 :: c80 :: c81 :: c82 :: c83 :: c84 :: c85 :: c86 :: c87 :: c88 :: c89 :: c90 :: c91 :: c92 :: c93 :: c94 :: c95 :: c96 :: c97 :: c98 :: c99 :: c100 :: c101 :: c102 :: c103 :: c104 :: c105 :: c106 :: c107 :: c108 :: c109 :: c110 :: c111 :: c112 :: c113 :: c114 :: c115 :: c116 :: c117 :: c118 :: c119 :: c120 :: c121 :: c122 :: c123 :: c124 :: c125 :: c126 :: c127 :: c128 :: c129 :: c130 :: c131 :: c132 :: c133 :: c134 :: c135 :: c136 :: c137 :: c138 :: c139 :: c140 :: c141 :: c142 :: c143 :: c144 :: c145 :: c146 :: c147 :: c148 :: c149 :: c150 :: c151 :: c152 :: c153 :: c154 :: c155 :: c156 :: c157 :: c158 :: c159 :: c160 :: c161 :: c162 :: c163 :: c164 :: c165 :: c166 :: c167 :: c168 :: c169 :: c170 :: c171 :: c172 :: c173 :: c174 :: c175 :: c176 :: c177 :: c178 :: c179 :: c180 :: c181 :: c182 :: c183 :: c184 :: c185 :: c186 :: c187 :: c188 :: c189 :: c190 :: c191 :: c192 :: c193 :: c194 :: c195 :: c196 :: c197 :: c198 :: c199 :: c200 :: c201 :: c202 :: c203 :: c204 :: c205 :: c206 :: c207 :: c208 :: c209 :: c210 :: c211 :: c212 :: c213 :: c214 :: c215 :: c216 :: c217 :: c218 :: c219 :: c220 :: c221 :: c222 :: c223 :: c224 :: c225 :: c226 :: c227 :: c228 :: c229 :: c230 :: c231 :: c232 :: c233 :: c234 :: c235 :: c236 :: c237 :: c238 :: c239 :: c240 :: c241 :: c242 :: c243 :: c244 :: c245 :: c246 :: c247 :: c248 :: c249 :: c250 :: c251 :: c252 :: c253 :: c254 :: c255 :: c256 :: c257 :: c258 :: c259 :: c260 :: c261 :: c262 :: c263 :: c264 :: c265 :: c266 :: c267 :: c268 :: c269 :: c270 :: c271 :: c272 :: c273 :: c274 :: c275 :: c276 :: c277 :: c278 :: c279 :: c280 :: c281 :: c282 :: c283 :: c284 :: c285 :: c286 :: c287 :: c288 :: c289 :: c290 :: c291 :: c292 :: c293 :: c294 :: c295 :: c296 :: c297 :: c298 :: d299 :: d300 :: d301 :: d302 :: d303 :: d304 :: d305 :: d306 :: d307 :: d308 :: d309 :: d310 :: d311 :: d312 :: d313 :: d314 :: d315 :: d316 :: d317 :: d318 :: d319 :: d320 :: d321 :: d322 :: d323 :: d324 :: d325 :: d326 :: d327 :: d328 :: c329 :: [])), []⟩ w') :
    Code.wp Tryz.prog (Code.loop body8) (OnExit 14 Post) ⟨(List.toArray (c0 :: c1 :: c2 :: c3 :: (.slice (some ⟨hB, 0, none⟩) 8 8) :: c5 :: c6 :: c7 :: c8 :: c9 :: c10 :: c11 :: c12 :: c13 :: c14 :: c15 :: c16 :: c17 :: c18 :: c19 :: c20 :: c21 :: c22 :: (.slice none 0 0) :: (.int .i64 0) :: c25 :: c26 :: c27 :: c28 :: c29 :: c30 :: c31 :: c32 :: c33 :: c34 :: c35 :: c36 :: c37 :: c38 :: c39 :: c40 :: c41 :: c42 :: c43 :: c44 :: c45 :: c46 :: c47 :: c48 :: c49 :: c50 :: c51 :: c52 :: c53 :: c54 :: c55 :: c56 :: c57 :: c58 :: c59 :: c60 :: c61 :: c62 :: c63 :: c64 :: c65 :: c66 :: c67 :: c68 :: c69 :: c70 :: c71 :: c72 :: c73 :: c74 :: c75 :: c76 :: c77 :: c78 :: c79 :: c80 :: c81 :: c82 :: c83 :: c84 :: c85 :: c86 :: c87 :: c88 :: c89 :: c90 :: c91 :: c92 :: c93 :: c94 :: c95 :: c96 :: c97 :: c98 :: c99 :: c100 :: c101 :: c102 :: c103 :: c104 :: c105 :: c106 :: c107 :: c108 :: c109 :: c110 :: c111 :: c112 :: c113 :: c114 :: c115 :: c116 :: c117 :: c118 :: c119 :: c120 :: c121 :: c122 :: c123 :: c124 :: c125 :: c126 :: c127 :: c128 :: c129 :: c130 :: c131 :: c132 :: c133 :: c134 :: c135 :: c136 :: c137 :: c138 :: c139 :: c140 :: c141 :: c142 :: c143 :: c144 :: c145 :: c146 :: c147 :: c148 :: c149 :: c150 :: c151 :: c152 :: c153 :: c154 :: c155 :: c156 :: c157 :: c158 :: c159 :: c160 :: c161 :: c162 :: c163 :: c164 :: c165 :: c166 :: c167 :: c168 :: c169 :: c170 :: c171 :: c172 :: c173 :: c174 :: c175 :: c176 :: c177 :: c178 :: c179 :: c180 :: c181 :: c182 :: c183 :: c184 :: c185 :: c186 :: c187 :: c188 :: c189 :: c190 :: c191 :: c192 :: c193 :: c194 :: c195 :: c196 :: c197 :: c198 :: c199 :: c200 :: c201 :: c202 :: c203 :: c204 :: c205 :: c206 :: c207 :: c208 :: c209 :: c210 :: c211 :: c212 :: c213 :: c214 :: c215 :: c216 :: c217 :: c218 :: c219 :: c220 :: c221 :: c222 :: c223 :: c224 :: c225 :: c226 :: c227 :: c228 :: c229 :: c230 :: c231 :: c232 :: c233 :: c234 :: c235 :: c236 :: c237 :: c238 :: c239 :: c240 :: c241 :: c242 :: c243 :: c244 :: c245 :: c246 :: c247 :: c248 :: c249 :: c250 :: c251 :: c252 :: c253 :: c254 :: c255 :: c256 :: c257 :: c258 :: c259 :: c260 :: c261 :: c262 :: c263 :: c264 :: c265 :: c266 :: c267 :: c268 :: c269 :: c270 :: c271 :: c272 :: c273 :: c274 :: c275 :: c276 :: c277 :: c278 :: c279 :: c280 :: c281 :: c282 :: c283 :: c284 :: c285 :: c286 :: c287 :: c288 :: c289 :: c290 :: c291 :: c292 :: c293 :: c294 :: c295 :: c296 :: c297 :: c298 :: c299 :: c300 :: c301 :: c302 :: c303 :: c304 :: c305 :: c306 :: c307 :: c308 :: c309 :: c310 :: c311 :: c312 :: c313 :: c314 :: c315 :: c316 :: c317 :: c318 :: c319 :: c320 :: c321 :: c322 :: c323 :: c324 :: c325 :: c326 :: c327 :: c328 :: c329 :: [])), []⟩ w := by
  have HX := hide hexit
  have HH := hide kh0
  clear hexit kh0
  conv => arg 2; arg 1; whnf
  go_loopw [23, 24] (fun v23 v24 wr => ∃ i : Nat, i ≤ 8 ∧ v24 = .int .i64 (i : Int) ∧ OwnB w.heap.size wr v23 ((hs.take i).flatMap be4) ∧ Below w.heap.size w wr) (fun _ v24 _ => 8 - (intOf v24).toNat)
  case atStart => exact ⟨0, by omega, rfl, World.ownsRow_nil _ _ _ _, Below.refl _ _⟩
  case round =>
    rename World => wr
    obtain ⟨i, hi, rfl, ho, hf⟩ := hrel
    by_cases hlt : i < 8
    · obtain ⟨x, hx⟩ : ∃ x, hs[i]'(by omega) = x := ⟨_, rfl⟩
      have k1 : wr.cell? ⟨hB, i, none⟩ = some (.int .u32 (x.toNat : Int)) := by
        rw [WBlk.at (l := hs) ((unhide HH).low hf) (i := i) (by omega), hx]
      have e1 := byte4_24 x
      have e2 := byte4_16 x
      have e3 := byte4_8 x
      have e4 := byte4_0 x
      obtain ⟨b1, h1⟩ : ∃ b, (x >>> 24).toUInt8 = b := ⟨_, rfl⟩
      obtain ⟨b2, h2⟩ : ∃ b, (x >>> 16).toUInt8 = b := ⟨_, rfl⟩
      obtain ⟨b3, h3⟩ : ∃ b, (x >>> 8).toUInt8 = b := ⟨_, rfl⟩
      obtain ⟨b4, h4⟩ : ∃ b, x.toUInt8 = b := ⟨_, rfl⟩
      rw [h1] at e1
      rw [h2] at e2
      rw [h3] at e3
      rw [h4] at e4
      have u1 : IntKind.u8.wrap ((x.toNat : Int) / 16777216) = (b1.toNat : Int) := by rw [← e1]; simp [IntKind.wrap, IntKind.bits, IntKind.signed]
      have u2 : IntKind.u8.wrap ((x.toNat : Int) / 65536) = (b2.toNat : Int) := by rw [← e2]; simp [IntKind.wrap, IntKind.bits, IntKind.signed]
      have u3 : IntKind.u8.wrap ((x.toNat : Int) / 256) = (b3.toNat : Int) := by rw [← e3]; simp [IntKind.wrap, IntKind.bits, IntKind.signed]
      have u4 : IntKind.u8.wrap (x.toNat : Int) = (b4.toNat : Int) := by rw [← e4]; simp [IntKind.wrap, IntKind.bits, IntKind.signed]
      have hbx := u32_lt x
      have hsn : (hs.take i).flatMap be4 ++ [b1, b2, b3, b4] = (hs.take (i + 1)).flatMap be4 := by
        have e : hs.take (i + 1) = hs.take i ++ [hs[i]'(by omega)] := by simp
        rw [e, List.flatMap_append, hx]
        simp [be4, h1, h2, h3, h4]
      have hlen : ((hs.take i).flatMap be4).length ≤ 2147483648 := by rw [flat4_len, List.length_take]; omega
      obtain ⟨W1, hW1⟩ : ∃ W1, wr.drew.alloc (.cells #[.int .u8 (b1.toNat : Int), .int .u8 (b2.toNat : Int), .int .u8 (b3.toNat : Int), .int .u8 (b4.toNat : Int)] 5) = W1 := ⟨_, rfl⟩
      obtain ⟨v', w', happ, hown, hgr⟩ := app_four (W1 := W1) (w := wr.drew) (ho.low (Below.refl _ _).drew) hf.size hlen hW1
      rw [hsn] at hown
      have HP : Hid (OwnB w.heap.size w' v' ((hs.take (i + 1)).flatMap be4) ∧ Below w.heap.size w w') := hide ⟨hown, hf.drew.trans (hgr.low hf.size (OwnB.base ho))⟩
      have HW1 : Hid ((wr.alloc (.cells #[.int .u8 (b1.toNat : Int), .int .u8 (b2.toNat : Int), .int .u8 (b3.toNat : Int), .int .u8 (b4.toNat : Int)] 5)).drew = W1) := hide hW1
      have ii : (i : Int) < 8 := by omega
      have kS : w'.cell? ⟨hB, i, none⟩ = some (.int .u32 (x.toNat : Int)) := by
        have := (unhide HP).2
        rw [WBlk.at (l := hs) ((unhide HH).low this) (i := i) (by omega), hx]
      have happ2 : (Builtin.append_ #[23, 23] 23 #[u23, .slice (some ⟨wr.heap.size, 0, none⟩) 4 4]).run Tryz.prog W1 = .ok v' w' := happ
      clear happ ho hf hown hgr hW1 hsn hx h1 h2 h3 h4 hlen
      go_wp2
      go_region_held3 (fun w' => w'.cell? ⟨hB, i, none⟩ = some (.int .u32 (x.toNat : Int)))
        (first | go_keep | exact kS | assumption)
        ((rw [unhide HW1]; refine Lib.wp_append_run _ (.tmp 303) (.tmp 327) 23 23 (by rfl) u23 (.slice (some ⟨wr.heap.size, 0, none⟩) 4 4) (by kernel_rfl) (by kernel_rfl) v' w' happ2 ?_))
      go_wp2
      refine ⟨⟨i + 1, hlt, by push_cast; rfl, (unhide HP).1, (unhide HP).2⟩, ?_⟩
      simp [intOf]
      omega
    · have hi8 : i = 8 := by omega
      subst hi8
      rw [List.take_of_length_le (by omega)] at ho
      have HK := hide ho
      have HF := hide hf
      clear ho hf
      go_wp2
      refine ⟨rfl, unhide HX _ _ _ _ _ _ _ _ _ _ _ _ _ _ _ _ _ _ _ _ _ _ _ _ _ _ _ _ _ _ _ wr (unhide HK) (unhide HF)⟩
end Go.Proofs.YtkablmjkffdloaaGreatDoor
