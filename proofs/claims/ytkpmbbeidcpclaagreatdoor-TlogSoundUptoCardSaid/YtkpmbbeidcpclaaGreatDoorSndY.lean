/-
  A byte of each hash of a proof of growth turned.
-/
import Derived.Test.YtkpmbbeidcpclaaGreatDoorSndX
import Derived.BigRegion
import Derived.Deep.RegionHeld3
import Derived.Lib.AppendZeros
namespace Go.Proofs.YtkpmbbeidcpclaaGreatDoor
open Go.RowKit

/-- A piece of code that goes on to what stands behind it. -/
def OnNext (Post : Act → World → Prop) : Exit → Act → World → Prop
  | .normal, a, w => Post a w
  | _, _, _ => False
theorem onNext_out {Q : Exit → Act → World → Prop} : ∀ e a w, OnNext (fun a w => Q .normal a w) e a w → Q e a w := by
  intro e a w h
  cases e with
  | normal => exact h
  | _ => exact h.elim
theorem useNext {P : Program} {c : Code} {Q : Exit → Act → World → Prop} {a : Act} {w : World} (h : Code.wp P c (OnNext (fun a w => Q .normal a w)) a w) : Code.wp P c Q a w := Code.wp_mono onNext_out h
/-- What stands behind so many pieces of a body. -/
def behindOf : Nat → Code → Code
  | 0, c => c
  | n + 1, .seq _ b => behindOf n b
  | _ + 1, c => c
/-- The first piece of a body. -/
def aheadOf : Code → Code
  | .seq a _ => a
  | c => c
noncomputable def loopP9 : Code := ((Tryz.f9.body.map loopsOf).getD []).getD 1 .skip
noncomputable def loopQ9 : Code := ((Tryz.f9.body.map loopsOf).getD []).getD 2 .skip
noncomputable def last9 : Code := aheadOf (behindOf 21 (Tryz.f9.body.getD .skip))

set_option maxRecDepth 1000000 in
set_option maxHeartbeats 4000000 in
theorem loopP_any {c0 c1 c2 c3 c5 c7 c9 c10 c12 c13 c14 c16 c18 c20 c22 c27 c28 c29 c30 c31 c32 c33 c34 c35 c36 c37 c38 c39 c40 c41 c42 c43 c44 c45 c46 c47 c48 c49 c50 c51 c52 c53 c54 c55 c56 c57 c58 c59 c60 c61 c62 c63 c64 c65 c66 c67 c68 c69 c70 c71 c72 c73 c74 c75 c76 c77 c78 c79 c80 c81 c82 c83 c84 c85 c86 c87 c88 c89 c90 c91 c92 c93 c94 c95 c96 c97 c98 c99 c100 c101 c102 c103 c104 c105 c106 c107 c108 c109 c110 c111 c112 c113 c114 c115 c116 c117 c118 c119 c120 c121 c122 c123 c124 c125 c126 c127 c128 c129 c130 c131 c132 c133 c134 c135 c136 c137 c138 c139 c140 c141 c142 c143 c144 c145 c146 c147 c148 c149 c150 c151 c152 c153 c154 c155 c156 c157 c158 c159 c160 c161 c162 c163 c164 c165 c166 c167 c168 c169 c170 c171 c172 c173 c174 c175 c176 c177 c178 c179 c180 c181 c182 c183 c184 c185 c186 c187 c188 c189 c190 c191 c192 c193 c194 c195 c196 c197 c198 c199 c200 c201 c202 c203 c204 c205 c206 c207 c208 c209 c210 c211 c212 c213 c214 c215 c216 c217 c218 c219 c220 c221 c222 c223 c224 c225 c226 c227 c228 c229 c230 c231 c232 c233 c234 c235 c236 c237 c238 c239 c240 c241 c242 c243 c244 c245 c246 c247 c248 c249 c250 c251 c252 c253 c254 c255 c256 c257 c258 c259 c260 c261 c262 : Value} {bi bm bn br bo bp bq bl : Nat} {i m n : Int} {gr rc go oc : Nat} {pa : Option Addr} {N pc : Nat} {qa : Option Addr} {M qc : Nat} {gl lc : Nat} {B X d8 : Nat} {c : UInt8} {w0 wa : World} {Post : Act → World → Prop} (hB : B < 256) (e8 : (B : Int).tdiv 8 = (d8 : Int)) (hc : c.toNat = X) (hN1000 : N ≤ 1000) (hS0 : Snd w0.heap.size wa bi bm bn br bo bp bq bl i m n gr rc go oc pa N pc qa M qc gl lc) (hb0 : Below w0.heap.size w0 wa)
    (hexit : ∀ d159 d160 d161 d162 d163 d164 d165 d166 d167 d168 d169 d170 d171 d172 d173 d174 d175 d176 d177 d178 d179 d180 d181 d182 d183 d184 d185 d186 d187 d188 d189 d190 d191 d192 d193 d194 d195 d196 d197 d198 d199 d200 d201 d202 d203 w', Snd w0.heap.size w' bi bm bn br bo bp bq bl i m n gr rc go oc pa N pc qa M qc gl lc → Below w0.heap.size w0 w' → Post ⟨(List.toArray (c0 :: c1 :: c2 :: c3 :: (.int .i64 (B : Int)) :: c5 :: (.pointer (some ⟨bi, 0, none⟩)) :: c7 :: (.pointer (some ⟨bn, 0, none⟩)) :: c9 :: c10 :: (.pointer (some ⟨br, 0, none⟩)) :: c12 :: c13 :: c14 :: (.pointer (some ⟨bp, 0, none⟩)) :: c16 :: (.pointer (some ⟨bq, 0, none⟩)) :: c18 :: (.pointer (some ⟨bl, 0, none⟩)) :: c20 :: (.int .u8 (X : Int)) :: c22 :: (.func (.func 40) #[] #[.pointer (some ⟨bp, 0, none⟩), .pointer (some ⟨bi, 0, none⟩), .pointer (some ⟨bn, 0, none⟩), .pointer (some ⟨bl, 0, none⟩), .pointer (some ⟨br, 0, none⟩)]) :: (.func (.func 42) #[] #[.pointer (some ⟨bq, 0, none⟩), .pointer (some ⟨bm, 0, none⟩), .pointer (some ⟨bn, 0, none⟩), .pointer (some ⟨bo, 0, none⟩), .pointer (some ⟨br, 0, none⟩)]) :: (.bool true) :: (.int .i64 (N : Int)) :: c27 :: c28 :: c29 :: c30 :: c31 :: c32 :: c33 :: c34 :: c35 :: c36 :: c37 :: c38 :: c39 :: c40 :: c41 :: c42 :: c43 :: c44 :: c45 :: c46 :: c47 :: c48 :: c49 :: c50 :: c51 :: c52 :: c53 :: c54 :: c55 :: c56 :: c57 :: c58 :: c59 :: c60 :: c61 :: c62 :: c63 :: c64 :: c65 :: c66 :: c67 :: c68 :: c69 :: c70 :: c71 :: c72 :: c73 :: c74 :: c75 :: c76 :: c77 :: c78 :: c79 :: c80 :: c81 :: c82 :: c83 :: c84 :: c85 :: c86 :: c87 :: c88 :: c89 :: c90 :: c91 :: c92 :: c93 :: c94 :: c95 :: c96 :: c97 :: c98 :: c99 :: c100 :: c101 :: c102 :: c103 :: c104 :: c105 :: c106 :: c107 :: c108 :: c109 :: c110 :: c111 :: c112 :: c113 :: c114 :: c115 :: c116 :: c117 :: c118 :: c119 :: c120 :: c121 :: c122 :: c123 :: c124 :: c125 :: c126 :: c127 :: c128 :: c129 :: c130 :: c131 :: c132 :: c133 :: c134 :: c135 :: c136 :: c137 :: c138 :: c139 :: c140 :: c141 :: c142 :: c143 :: c144 :: c145 :: c146 :: c147 :: c148 :: c149 :: c150 :: c151 :: c152 :: c153 :: c154 :: c155 :: c156 :: c157 :: c158 :: d159 :: d160 :: d161 :: d162 :: d163 :: d164 :: d165 :: d166 :: d167 :: d168 :: d169 :: d170 :: d171 :: d172 :: d173 :: d174 :: d175 :: d176 :: d177 :: d178 :: d179 :: d180 :: d181 :: d182 :: d183 :: d184 :: d185 :: d186 :: d187 :: d188 :: d189 :: d190 :: d191 :: d192 :: d193 :: d194 :: d195 :: d196 :: d197 :: d198 :: d199 :: d200 :: d201 :: d202 :: d203 :: c204 :: c205 :: c206 :: c207 :: c208 :: c209 :: c210 :: c211 :: c212 :: c213 :: c214 :: c215 :: c216 :: c217 :: c218 :: c219 :: c220 :: c221 :: c222 :: c223 :: c224 :: c225 :: c226 :: c227 :: c228 :: c229 :: c230 :: c231 :: c232 :: c233 :: c234 :: c235 :: c236 :: c237 :: c238 :: c239 :: c240 :: c241 :: c242 :: c243 :: c244 :: c245 :: c246 :: c247 :: c248 :: c249 :: c250 :: c251 :: c252 :: c253 :: c254 :: c255 :: c256 :: c257 :: c258 :: c259 :: c260 :: c261 :: c262 :: [])), []⟩ w') :
    Code.wp Tryz.prog (Code.loop loopP9) (OnExit 2 Post) ⟨(List.toArray (c0 :: c1 :: c2 :: c3 :: (.int .i64 (B : Int)) :: c5 :: (.pointer (some ⟨bi, 0, none⟩)) :: c7 :: (.pointer (some ⟨bn, 0, none⟩)) :: c9 :: c10 :: (.pointer (some ⟨br, 0, none⟩)) :: c12 :: c13 :: c14 :: (.pointer (some ⟨bp, 0, none⟩)) :: c16 :: (.pointer (some ⟨bq, 0, none⟩)) :: c18 :: (.pointer (some ⟨bl, 0, none⟩)) :: c20 :: (.int .u8 (X : Int)) :: c22 :: (.func (.func 40) #[] #[.pointer (some ⟨bp, 0, none⟩), .pointer (some ⟨bi, 0, none⟩), .pointer (some ⟨bn, 0, none⟩), .pointer (some ⟨bl, 0, none⟩), .pointer (some ⟨br, 0, none⟩)]) :: (.func (.func 42) #[] #[.pointer (some ⟨bq, 0, none⟩), .pointer (some ⟨bm, 0, none⟩), .pointer (some ⟨bn, 0, none⟩), .pointer (some ⟨bo, 0, none⟩), .pointer (some ⟨br, 0, none⟩)]) :: (.bool true) :: (.int .i64 0) :: c27 :: c28 :: c29 :: c30 :: c31 :: c32 :: c33 :: c34 :: c35 :: c36 :: c37 :: c38 :: c39 :: c40 :: c41 :: c42 :: c43 :: c44 :: c45 :: c46 :: c47 :: c48 :: c49 :: c50 :: c51 :: c52 :: c53 :: c54 :: c55 :: c56 :: c57 :: c58 :: c59 :: c60 :: c61 :: c62 :: c63 :: c64 :: c65 :: c66 :: c67 :: c68 :: c69 :: c70 :: c71 :: c72 :: c73 :: c74 :: c75 :: c76 :: c77 :: c78 :: c79 :: c80 :: c81 :: c82 :: c83 :: c84 :: c85 :: c86 :: c87 :: c88 :: c89 :: c90 :: c91 :: c92 :: c93 :: c94 :: c95 :: c96 :: c97 :: c98 :: c99 :: c100 :: c101 :: c102 :: c103 :: c104 :: c105 :: c106 :: c107 :: c108 :: c109 :: c110 :: c111 :: c112 :: c113 :: c114 :: c115 :: c116 :: c117 :: c118 :: c119 :: c120 :: c121 :: c122 :: c123 :: c124 :: c125 :: c126 :: c127 :: c128 :: c129 :: c130 :: c131 :: c132 :: c133 :: c134 :: c135 :: c136 :: c137 :: c138 :: c139 :: c140 :: c141 :: c142 :: c143 :: c144 :: c145 :: c146 :: c147 :: c148 :: c149 :: c150 :: c151 :: c152 :: c153 :: c154 :: c155 :: c156 :: c157 :: c158 :: c159 :: c160 :: c161 :: c162 :: c163 :: c164 :: c165 :: c166 :: c167 :: c168 :: c169 :: c170 :: c171 :: c172 :: c173 :: c174 :: c175 :: c176 :: c177 :: c178 :: c179 :: c180 :: c181 :: c182 :: c183 :: c184 :: c185 :: c186 :: c187 :: c188 :: c189 :: c190 :: c191 :: c192 :: c193 :: c194 :: c195 :: c196 :: c197 :: c198 :: c199 :: c200 :: c201 :: c202 :: c203 :: c204 :: c205 :: c206 :: c207 :: c208 :: c209 :: c210 :: c211 :: c212 :: c213 :: c214 :: c215 :: c216 :: c217 :: c218 :: c219 :: c220 :: c221 :: c222 :: c223 :: c224 :: c225 :: c226 :: c227 :: c228 :: c229 :: c230 :: c231 :: c232 :: c233 :: c234 :: c235 :: c236 :: c237 :: c238 :: c239 :: c240 :: c241 :: c242 :: c243 :: c244 :: c245 :: c246 :: c247 :: c248 :: c249 :: c250 :: c251 :: c252 :: c253 :: c254 :: c255 :: c256 :: c257 :: c258 :: c259 :: c260 :: c261 :: c262 :: [])), []⟩ wa := by
  have d32 : d8 < 32 := by
    have h1 : (B : Int).tdiv 8 = (B : Int) / 8 := Int.tdiv_eq_ediv_of_nonneg (by omega)
    omega
  have HX := hide hexit
  have HS := hide hS0
  have HBW := hide hb0
  clear hexit hS0 hb0
  conv => arg 2; arg 1; whnf
  go_loopw [25, 26] (fun v25 v26 wy => ∃ kk : Nat, kk ≤ N ∧ v26 = .int .i64 (kk : Int) ∧ v25 = .bool true ∧ Snd w0.heap.size wy bi bm bn br bo bp bq bl i m n gr rc go oc pa N pc qa M qc gl lc ∧ Below w0.heap.size w0 wy) (fun _ v26 _ => N - (intOf v26).toNat)
  case atStart => exact ⟨0, Nat.zero_le _, rfl, rfl, unhide HS, unhide HBW⟩
  case round =>
    rename World => wy
    clear HS HBW
    obtain ⟨kk, hkk, rfl, rfl, hS, hB2⟩ := hrel
    have HS := hide hS
    have HBW := hide hB2
    have ycp0 := hS.cp
    by_cases hlt : kk < N
    · obtain ⟨pb, ge, ce, cur, hpa, kro0, ycl0, he0⟩ := hS.hp.elem hlt
      subst hpa
      have HE := hide he0
      have HROW := hide (And.intro kro0 ycl0)
      clear hS hB2 kro0 ycl0 he0 ycp0
      obtain ⟨hg, cs, kb, sz, byt⟩ := (unhide HE).far
      obtain ⟨x, hx⟩ := byt d8 d32
      obtain ⟨z, hz⟩ := byt 0 (by omega)
      have hcell : wy.cell? ⟨ge, d8, none⟩ = some (.int .u8 (x.toNat : Int)) := (kb.cell d8).trans hx
      have hfree := kb.free d8
      have hxor := bx8 x c
      rw [hc] at hxor
      obtain ⟨y, hy⟩ : ∃ y, (x ^^^ c) = y := ⟨_, rfl⟩
      rw [hy] at hxor
      have HS2 : Hid (Snd w0.heap.size ((wy.setCell ⟨ge, d8, none⟩ (.int .u8 (y.toNat : Int))).drew) bi bm bn br bo bp bq bl i m n gr rc go oc (some ⟨pb, 0, none⟩) N pc qa M qc gl lc) := hide (((unhide HS).turn (c := y) kb hz).low (low_drew _))
      have HBW2 : Hid (Below w0.heap.size w0 ((wy.setCell ⟨ge, d8, none⟩ (.int .u8 (y.toNat : Int))).drew)) := hide (low_trans (low_turn (unhide HBW) hg) (low_drew _))
      have ycp := (unhide HS).cp
      obtain ⟨kro, ycl⟩ := unhide HROW
      obtain ⟨kr2, yc2⟩ := row_turn (k := d8) (c := .int .u8 (y.toNat : Int)) kb kro ycl
      have HROW2 : Hid (Blk ((wy.setCell ⟨ge, d8, none⟩ (.int .u8 (y.toNat : Int))).drew) pb cur 32 ∧ ((wy.setCell ⟨ge, d8, none⟩ (.int .u8 (y.toNat : Int))).drew).cell? ⟨pb, kk, none⟩ = some (.slice (some ⟨ge, 0, none⟩) 32 ce)) := hide ⟨kr2, yc2⟩
      have HE2 : Hid (H32 w0.heap.size ((wy.setCell ⟨ge, d8, none⟩ (.int .u8 (y.toNat : Int))).drew) (.slice (some ⟨ge, 0, none⟩) 32 ce)) := hide ((H32.turn (c := y) (unhide HE) kb).low (low_drew _))
      have d32i : (d8 : Int) < 32 := by omega
      clear hx hz kb sz byt hg hy HS HBW HE HROW kro kr2 yc2
      go_wp2
      go_region
      obtain ⟨v1, hv1⟩ : ∃ v1, (wy.setCell ⟨ge, d8, none⟩ (.int .u8 (y.toNat : Int))).drew = v1 := ⟨_, rfl⟩
      rw [hv1] at HS2 HBW2 HROW2 HE2 ⊢
      have HS := HS2
      have HBW := HBW2
      have HE := HE2
      have HROW := HROW2
      clear hcell hfree hxor ycl d32i HS2 HBW2 hv1 ycp HE2 HROW2
      go_wp2_with (go_at_call 40; fail)
      refine (record_any (unhide HS).cp (unhide HS).ci (unhide HS).cn (unhide HS).cl (unhide HS).cr (unhide HS).hp hN1000 (unhide HS).hl (unhide HS).hr).mono ?_
      rintro e v2 ⟨rfl, b⟩
      have HS := hide ((unhide HS).low b)
      have HBW := hide (low_trans (unhide HBW) b)
      have HE := hide ((unhide HE).low b)
      have HROW := hide (And.intro ((unhide HROW).1.low b) ((b.cell (lt_of_cell (unhide HROW).2)).trans (unhide HROW).2))
      clear b
      obtain ⟨hg, cs, kb, sz, byt⟩ := (unhide HE).far
      obtain ⟨x, hx⟩ := byt d8 d32
      obtain ⟨z, hz⟩ := byt 0 (by omega)
      have hcell : v2.cell? ⟨ge, d8, none⟩ = some (.int .u8 (x.toNat : Int)) := (kb.cell d8).trans hx
      have hfree := kb.free d8
      have hxor := bx8 x c
      rw [hc] at hxor
      obtain ⟨y, hy⟩ : ∃ y, (x ^^^ c) = y := ⟨_, rfl⟩
      rw [hy] at hxor
      have HS2 : Hid (Snd w0.heap.size ((v2.setCell ⟨ge, d8, none⟩ (.int .u8 (y.toNat : Int))).drew) bi bm bn br bo bp bq bl i m n gr rc go oc (some ⟨pb, 0, none⟩) N pc qa M qc gl lc) := hide (((unhide HS).turn (c := y) kb hz).low (low_drew _))
      have HBW2 : Hid (Below w0.heap.size w0 ((v2.setCell ⟨ge, d8, none⟩ (.int .u8 (y.toNat : Int))).drew)) := hide (low_trans (low_turn (unhide HBW) hg) (low_drew _))
      have ycp := (unhide HS).cp
      obtain ⟨kro, ycl⟩ := unhide HROW
      obtain ⟨kr2, yc2⟩ := row_turn (k := d8) (c := .int .u8 (y.toNat : Int)) kb kro ycl
      have HROW2 : Hid (Blk ((v2.setCell ⟨ge, d8, none⟩ (.int .u8 (y.toNat : Int))).drew) pb cur 32 ∧ ((v2.setCell ⟨ge, d8, none⟩ (.int .u8 (y.toNat : Int))).drew).cell? ⟨pb, kk, none⟩ = some (.slice (some ⟨ge, 0, none⟩) 32 ce)) := hide ⟨kr2, yc2⟩
      have HE2 : Hid (H32 w0.heap.size ((v2.setCell ⟨ge, d8, none⟩ (.int .u8 (y.toNat : Int))).drew) (.slice (some ⟨ge, 0, none⟩) 32 ce)) := hide ((H32.turn (c := y) (unhide HE) kb).low (low_drew _))
      have d32i : (d8 : Int) < 32 := by omega
      clear hx hz kb sz byt hg hy HS HBW HE HROW kro kr2 yc2
      go_wp2
      go_region
      obtain ⟨v3, hv3⟩ : ∃ v3, (v2.setCell ⟨ge, d8, none⟩ (.int .u8 (y.toNat : Int))).drew = v3 := ⟨_, rfl⟩
      rw [hv3] at HS2 HBW2 HROW2 HE2 ⊢
      have HS := HS2
      have HBW := HBW2
      have HE := HE2
      have HROW := HROW2
      clear hcell hfree hxor ycl d32i HS2 HBW2 hv3 ycp HE2 HROW2
      go_wp2
      refine ⟨⟨kk + 1, hlt, by push_cast; rfl, rfl, unhide HS, unhide HBW⟩, ?_⟩
      simp [intOf]
      omega
    · have hke : kk = N := by omega
      subst hke
      clear hS hB2
      go_wp2
      exact ⟨rfl, unhide HX _ _ _ _ _ _ _ _ _ _ _ _ _ _ _ _ _ _ _ _ _ _ _ _ _ _ _ _ _ _ _ _ _ _ _ _ _ _ _ _ _ _ _ _ _ wy (unhide HS) (unhide HBW)⟩
end Go.Proofs.YtkpmbbeidcpclaaGreatDoor

namespace Go.Proofs.YtkpmbbeidcpclaaGreatDoor
open Go.RowKit

theorem path_short : ∀ (k i : Nat) (l : List Bs), 1 ≤ l.length → l.length ≤ 1048576 → (pathP k i l).length + 1 ≤ l.length
  | 0, _, _, h, _ => by unfold pathP; simpa using h
  | k + 1, i, l, h, hb => by
    unfold pathP
    split
    · simpa using h
    · obtain ⟨h1, h2, _, _⟩ := half_is (n := l.length) (by omega) hb
      split
      · have := path_short k i (l.take (half l.length)) (by rw [List.length_take]; omega) (by rw [List.length_take]; omega)
        rw [List.length_take] at this
        simp
        omega
      · have := path_short k (i - half l.length) (l.drop (half l.length)) (by rw [List.length_drop]; omega) (by rw [List.length_drop]; omega)
        rw [List.length_drop] at this
        simp
        omega

set_option maxRecDepth 1000000 in
set_option maxHeartbeats 4000000 in
theorem lastLook_any {c0 c1 c2 c3 c4 c5 c7 c9 c10 c12 c13 c14 c16 c17 c18 c20 c21 c22 c23 c24 c26 c27 c28 c29 c30 c31 c32 c33 c34 c35 c36 c37 c38 c39 c40 c41 c42 c43 c44 c45 c46 c47 c48 c49 c50 c51 c52 c53 c54 c55 c56 c57 c58 c59 c60 c61 c62 c63 c64 c65 c66 c67 c68 c69 c70 c71 c72 c73 c74 c75 c76 c77 c78 c79 c80 c81 c82 c83 c84 c85 c86 c87 c88 c89 c90 c91 c92 c93 c94 c95 c96 c97 c98 c99 c100 c101 c102 c103 c104 c105 c106 c107 c108 c109 c110 c111 c112 c113 c114 c115 c116 c117 c118 c119 c120 c121 c122 c123 c124 c125 c126 c127 c128 c129 c130 c131 c132 c133 c134 c135 c136 c137 c138 c139 c140 c141 c142 c143 c144 c145 c146 c147 c148 c149 c150 c151 c152 c153 c154 c155 c156 c157 c158 c159 c160 c161 c162 c163 c164 c165 c166 c167 c168 c169 c170 c171 c172 c173 c174 c175 c176 c177 c178 c179 c180 c181 c182 c183 c184 c185 c186 c187 c188 c189 c190 c191 c192 c193 c194 c195 c196 c197 c198 c199 c200 c201 c202 c203 c204 c205 c206 c207 c208 c209 c210 c211 c212 c213 c214 c215 c216 c217 c218 c219 c220 c221 c222 c223 c224 c225 c226 c227 c228 c229 c230 c231 c232 c233 c234 c235 c236 c237 c238 c239 c240 c241 c242 c243 c244 c245 c246 c247 c248 c249 c250 c251 c252 c253 c254 c255 c256 c257 c258 c259 c260 c261 c262 : Value} {bi bm bn br bo bp bq bl : Nat} {i m n : Int} {gr rc go oc : Nat} {pa : Option Addr} {N pc : Nat} {qa : Option Addr} {M qc : Nat} {gl lc : Nat} {w0 wz : World} {Post : Act → World → Prop} (hN : N ≤ 999) (hPL : ∀ pb, pa = some ⟨pb, 0, none⟩ → pb ≠ br ∧ pb ≠ bl ∧ pb ≠ bi ∧ pb ≠ bn ∧ pb ≠ bp) (hRM : ∀ (ls : List Bs) (lb rb : Bs), ls.length = N → recE (ls ++ [lb]) i n lb rb ≠ 0) (hS : Snd w0.heap.size wz bi bm bn br bo bp bq bl i m n gr rc go oc pa N pc qa M qc gl lc) (hB : Below w0.heap.size w0 wz)
    (hexit : ∀ d249 d250 d251 d252 d253 d254 d255 d256 d257 d258 d259 d260 d261 d262 w', Below w0.heap.size w0 w' → Post ⟨(List.toArray (c0 :: c1 :: c2 :: c3 :: c4 :: c5 :: (.pointer (some ⟨bi, 0, none⟩)) :: c7 :: (.pointer (some ⟨bn, 0, none⟩)) :: c9 :: (.bool true) :: (.pointer (some ⟨br, 0, none⟩)) :: c12 :: c13 :: c14 :: (.pointer (some ⟨bp, 0, none⟩)) :: c16 :: c17 :: c18 :: (.pointer (some ⟨bl, 0, none⟩)) :: c20 :: c21 :: c22 :: c23 :: c24 :: (.bool true) :: c26 :: c27 :: c28 :: c29 :: c30 :: c31 :: c32 :: c33 :: c34 :: c35 :: c36 :: c37 :: c38 :: c39 :: c40 :: c41 :: c42 :: c43 :: c44 :: c45 :: c46 :: c47 :: c48 :: c49 :: c50 :: c51 :: c52 :: c53 :: c54 :: c55 :: c56 :: c57 :: c58 :: c59 :: c60 :: c61 :: c62 :: c63 :: c64 :: c65 :: c66 :: c67 :: c68 :: c69 :: c70 :: c71 :: c72 :: c73 :: c74 :: c75 :: c76 :: c77 :: c78 :: c79 :: c80 :: c81 :: c82 :: c83 :: c84 :: c85 :: c86 :: c87 :: c88 :: c89 :: c90 :: c91 :: c92 :: c93 :: c94 :: c95 :: c96 :: c97 :: c98 :: c99 :: c100 :: c101 :: c102 :: c103 :: c104 :: c105 :: c106 :: c107 :: c108 :: c109 :: c110 :: c111 :: c112 :: c113 :: c114 :: c115 :: c116 :: c117 :: c118 :: c119 :: c120 :: c121 :: c122 :: c123 :: c124 :: c125 :: c126 :: c127 :: c128 :: c129 :: c130 :: c131 :: c132 :: c133 :: c134 :: c135 :: c136 :: c137 :: c138 :: c139 :: c140 :: c141 :: c142 :: c143 :: c144 :: c145 :: c146 :: c147 :: c148 :: c149 :: c150 :: c151 :: c152 :: c153 :: c154 :: c155 :: c156 :: c157 :: c158 :: c159 :: c160 :: c161 :: c162 :: c163 :: c164 :: c165 :: c166 :: c167 :: c168 :: c169 :: c170 :: c171 :: c172 :: c173 :: c174 :: c175 :: c176 :: c177 :: c178 :: c179 :: c180 :: c181 :: c182 :: c183 :: c184 :: c185 :: c186 :: c187 :: c188 :: c189 :: c190 :: c191 :: c192 :: c193 :: c194 :: c195 :: c196 :: c197 :: c198 :: c199 :: c200 :: c201 :: c202 :: c203 :: c204 :: c205 :: c206 :: c207 :: c208 :: c209 :: c210 :: c211 :: c212 :: c213 :: c214 :: c215 :: c216 :: c217 :: c218 :: c219 :: c220 :: c221 :: c222 :: c223 :: c224 :: c225 :: c226 :: c227 :: c228 :: c229 :: c230 :: c231 :: c232 :: c233 :: c234 :: c235 :: c236 :: c237 :: c238 :: c239 :: c240 :: c241 :: c242 :: c243 :: c244 :: c245 :: c246 :: c247 :: c248 :: d249 :: d250 :: d251 :: d252 :: d253 :: d254 :: d255 :: d256 :: d257 :: d258 :: d259 :: d260 :: d261 :: d262 :: [])), []⟩ w') :
    Code.wp Tryz.prog last9 (OnNext Post) ⟨(List.toArray (c0 :: c1 :: c2 :: c3 :: c4 :: c5 :: (.pointer (some ⟨bi, 0, none⟩)) :: c7 :: (.pointer (some ⟨bn, 0, none⟩)) :: c9 :: c10 :: (.pointer (some ⟨br, 0, none⟩)) :: c12 :: c13 :: c14 :: (.pointer (some ⟨bp, 0, none⟩)) :: c16 :: c17 :: c18 :: (.pointer (some ⟨bl, 0, none⟩)) :: c20 :: c21 :: c22 :: c23 :: c24 :: (.bool true) :: c26 :: c27 :: c28 :: c29 :: c30 :: c31 :: c32 :: c33 :: c34 :: c35 :: c36 :: c37 :: c38 :: c39 :: c40 :: c41 :: c42 :: c43 :: c44 :: c45 :: c46 :: c47 :: c48 :: c49 :: c50 :: c51 :: c52 :: c53 :: c54 :: c55 :: c56 :: c57 :: c58 :: c59 :: c60 :: c61 :: c62 :: c63 :: c64 :: c65 :: c66 :: c67 :: c68 :: c69 :: c70 :: c71 :: c72 :: c73 :: c74 :: c75 :: c76 :: c77 :: c78 :: c79 :: c80 :: c81 :: c82 :: c83 :: c84 :: c85 :: c86 :: c87 :: c88 :: c89 :: c90 :: c91 :: c92 :: c93 :: c94 :: c95 :: c96 :: c97 :: c98 :: c99 :: c100 :: c101 :: c102 :: c103 :: c104 :: c105 :: c106 :: c107 :: c108 :: c109 :: c110 :: c111 :: c112 :: c113 :: c114 :: c115 :: c116 :: c117 :: c118 :: c119 :: c120 :: c121 :: c122 :: c123 :: c124 :: c125 :: c126 :: c127 :: c128 :: c129 :: c130 :: c131 :: c132 :: c133 :: c134 :: c135 :: c136 :: c137 :: c138 :: c139 :: c140 :: c141 :: c142 :: c143 :: c144 :: c145 :: c146 :: c147 :: c148 :: c149 :: c150 :: c151 :: c152 :: c153 :: c154 :: c155 :: c156 :: c157 :: c158 :: c159 :: c160 :: c161 :: c162 :: c163 :: c164 :: c165 :: c166 :: c167 :: c168 :: c169 :: c170 :: c171 :: c172 :: c173 :: c174 :: c175 :: c176 :: c177 :: c178 :: c179 :: c180 :: c181 :: c182 :: c183 :: c184 :: c185 :: c186 :: c187 :: c188 :: c189 :: c190 :: c191 :: c192 :: c193 :: c194 :: c195 :: c196 :: c197 :: c198 :: c199 :: c200 :: c201 :: c202 :: c203 :: c204 :: c205 :: c206 :: c207 :: c208 :: c209 :: c210 :: c211 :: c212 :: c213 :: c214 :: c215 :: c216 :: c217 :: c218 :: c219 :: c220 :: c221 :: c222 :: c223 :: c224 :: c225 :: c226 :: c227 :: c228 :: c229 :: c230 :: c231 :: c232 :: c233 :: c234 :: c235 :: c236 :: c237 :: c238 :: c239 :: c240 :: c241 :: c242 :: c243 :: c244 :: c245 :: c246 :: c247 :: c248 :: c249 :: c250 :: c251 :: c252 :: c253 :: c254 :: c255 :: c256 :: c257 :: c258 :: c259 :: c260 :: c261 :: c262 :: [])), []⟩ wz := by
  have HX := hide hexit
  have hSd := hS.low (low_drew wz)
  obtain ⟨ls, hl1, hl2, hl3⟩ := hSd.hp.lv
  obtain ⟨lb, hlb1, hlb2⟩ := hSd.hl
  obtain ⟨rb, hrb1, hrb2⟩ := hSd.hr
  have hBd := low_trans hB (low_drew wz)
  obtain ⟨WA, hWA⟩ : ∃ WA, wz.drew.alloc (.cells #[.slice (some ⟨gl, 0, none⟩) 32 lc] 32) = WA := ⟨_, rfl⟩
  obtain ⟨va, wa, happ, lva, lowa, blka⟩ := app_leaf2 hl3 hlb2 hBd.size (by omega) hWA
  obtain ⟨aa, ac, hva, hac, hpa⟩ := lva.pat
  have hlen : (ls ++ [lb]).length = N + 1 := by rw [List.length_append, hl1]; rfl
  rw [hlen] at hva hac
  subst hva
  have zS : wa.cell? ⟨bp, 0, none⟩ = some (.slice pa N pc) ∧ wa.cell? ⟨bi, 0, none⟩ = some (.int .i64 i) ∧ wa.cell? ⟨bn, 0, none⟩ = some (.int .i64 n) ∧ wa.cell? ⟨bl, 0, none⟩ = some (.slice (some ⟨gl, 0, none⟩) 32 lc) ∧ wa.cell? ⟨br, 0, none⟩ = some (.slice (some ⟨gr, 0, none⟩) 32 rc) := ⟨app_cell hl3 blka (fun pb e => (hPL pb e).2.2.2.2) hSd.cp, app_cell hl3 blka (fun pb e => (hPL pb e).2.2.1) hSd.ci, app_cell hl3 blka (fun pb e => (hPL pb e).2.2.2.1) hSd.cn, app_cell hl3 blka (fun pb e => (hPL pb e).2.1) hSd.cl, app_cell hl3 blka (fun pb e => (hPL pb e).1) hSd.cr⟩
  obtain ⟨E, hE⟩ : ∃ E, recE (ls ++ [lb]) i n lb rb = E := ⟨_, rfl⟩
  have hE0 : E ≠ 0 := by rw [← hE]; exact hRM ls lb rb hl1
  have hE1 : (E != 0) = true := by simpa using hE0
  have HCK : Hid (Calls Tryz.prog 38 #[.slice aa (N + 1) ac, .int .i64 i, .int .i64 n, .slice (some ⟨gl, 0, none⟩) 32 lc, .slice (some ⟨gr, 0, none⟩) 32 rc] wa fun e w' => e = .returned (.int .i64 E) ∧ Hid (Below w0.heap.size w0 w') ∧ (w'.cell? ⟨bp, 0, none⟩ = some (.slice pa N pc) ∧ w'.cell? ⟨bi, 0, none⟩ = some (.int .i64 i) ∧ w'.cell? ⟨bn, 0, none⟩ = some (.int .i64 n) ∧ w'.cell? ⟨bl, 0, none⟩ = some (.slice (some ⟨gl, 0, none⟩) 32 lc) ∧ w'.cell? ⟨br, 0, none⟩ = some (.slice (some ⟨gr, 0, none⟩) 32 rc))) := hide (by
    refine (checkRec_any (w := wa) (i := i) (n := n) (c := ac) (lc := lc) (rc := rc) hlen (by omega) hac (fun p hp => by
      rcases List.mem_append.1 hp with q | q
      · rw [hl2 p q]; decide
      · rw [List.mem_singleton.1 q, hlb1]; decide) hlb1 (by omega) hrb1 (by omega) hpa (own_at (app_own hl3 blka hlb2) hlb1) (own_at (app_own hl3 blka hrb2) hrb1)).mono ?_
    rintro e w' ⟨rfl, bl⟩
    obtain ⟨z1, z2, z3, z4, z5⟩ := zS
    exact ⟨by rw [hE], hide (low_trans (hBd.trans lowa) bl), (bl.cell (lt_of_cell z1)).trans z1, (bl.cell (lt_of_cell z2)).trans z2, (bl.cell (lt_of_cell z3)).trans z3, (bl.cell (lt_of_cell z4)).trans z4, (bl.cell (lt_of_cell z5)).trans z5⟩)
  have HW1 : Hid ((wz.alloc (.cells #[.slice (some ⟨gl, 0, none⟩) 32 lc] 32)).drew = WA) := hide hWA
  have happ2 : (Builtin.append_ #[22, 22] 22 #[.slice pa N pc, .slice (some ⟨wz.heap.size, 0, none⟩) 1 1]).run Tryz.prog WA = .ok (.slice aa (N + 1) ac) wa := happ
  have yS : wz.cell? ⟨bp, 0, none⟩ = some (.slice pa N pc) ∧ wz.cell? ⟨bi, 0, none⟩ = some (.int .i64 i) ∧ wz.cell? ⟨bn, 0, none⟩ = some (.int .i64 n) ∧ wz.cell? ⟨bl, 0, none⟩ = some (.slice (some ⟨gl, 0, none⟩) 32 lc) ∧ wz.cell? ⟨br, 0, none⟩ = some (.slice (some ⟨gr, 0, none⟩) 32 rc) := ⟨hS.cp, hS.ci, hS.cn, hS.cl, hS.cr⟩
  obtain ⟨y1, y2, y3, y4, y5⟩ := yS
  have hN1 : N + 1 ≤ 1001 := by omega
  clear hl1 hl2 hl3 hlb1 hlb2 hrb1 hrb2 lva lowa blka hac hpa hlen hE hE0 hS hB hSd hBd hWA happ hPL hRM hexit
  conv => arg 2; whnf
  go_wp2
  go_region_held3 (fun wx => wx.cell? ⟨bp, 0, none⟩ = some (.slice pa N pc) ∧ wx.cell? ⟨bi, 0, none⟩ = some (.int .i64 i) ∧ wx.cell? ⟨bn, 0, none⟩ = some (.int .i64 n) ∧ wx.cell? ⟨bl, 0, none⟩ = some (.slice (some ⟨gl, 0, none⟩) 32 lc) ∧ wx.cell? ⟨br, 0, none⟩ = some (.slice (some ⟨gr, 0, none⟩) 32 rc))
    (first | go_keep | exact zS | assumption)
    ((first | (go_at_call 38; refine (unhide HCK).mono ?_; rintro e w9 ⟨rfl, hz9, hS9⟩) | (go_at_call 21; refine (errno_any _ _).mono ?_; rintro e wn ⟨rfl, hwn⟩; rw [hwn]; clear hwn wn) | (rw [unhide HW1]; refine Lib.wp_append_run _ (.tmp 251) (.tmp 253) 22 22 (by rfl) (.slice pa N pc) (.slice (some ⟨wz.heap.size, 0, none⟩) 1 1) (by kernel_rfl) (by kernel_rfl) _ wa happ2 ?_)))
  have HZ9 := hz9
  clear hz9
  go_wp2
  exact unhide HX _ _ _ _ _ _ _ _ _ _ _ _ _ _ w9 (unhide HZ9)
end Go.Proofs.YtkpmbbeidcpclaaGreatDoor

namespace Go.Proofs.YtkpmbbeidcpclaaGreatDoor
open Go.RowKit

set_option maxRecDepth 1000000 in
set_option maxHeartbeats 4000000 in
theorem loopQ_any {c0 c1 c2 c3 c5 c7 c9 c10 c12 c13 c14 c16 c18 c20 c22 c26 c28 c29 c30 c31 c32 c33 c34 c35 c36 c37 c38 c39 c40 c41 c42 c43 c44 c45 c46 c47 c48 c49 c50 c51 c52 c53 c54 c55 c56 c57 c58 c59 c60 c61 c62 c63 c64 c65 c66 c67 c68 c69 c70 c71 c72 c73 c74 c75 c76 c77 c78 c79 c80 c81 c82 c83 c84 c85 c86 c87 c88 c89 c90 c91 c92 c93 c94 c95 c96 c97 c98 c99 c100 c101 c102 c103 c104 c105 c106 c107 c108 c109 c110 c111 c112 c113 c114 c115 c116 c117 c118 c119 c120 c121 c122 c123 c124 c125 c126 c127 c128 c129 c130 c131 c132 c133 c134 c135 c136 c137 c138 c139 c140 c141 c142 c143 c144 c145 c146 c147 c148 c149 c150 c151 c152 c153 c154 c155 c156 c157 c158 c159 c160 c161 c162 c163 c164 c165 c166 c167 c168 c169 c170 c171 c172 c173 c174 c175 c176 c177 c178 c179 c180 c181 c182 c183 c184 c185 c186 c187 c188 c189 c190 c191 c192 c193 c194 c195 c196 c197 c198 c199 c200 c201 c202 c203 c204 c205 c206 c207 c208 c209 c210 c211 c212 c213 c214 c215 c216 c217 c218 c219 c220 c221 c222 c223 c224 c225 c226 c227 c228 c229 c230 c231 c232 c233 c234 c235 c236 c237 c238 c239 c240 c241 c242 c243 c244 c245 c246 c247 c248 c249 c250 c251 c252 c253 c254 c255 c256 c257 c258 c259 c260 c261 c262 : Value} {bi bm bn br bo bp bq bl : Nat} {i m n : Int} {gr rc go oc : Nat} {pa : Option Addr} {N pc : Nat} {qa : Option Addr} {M qc : Nat} {gl lc : Nat} {B X d8 : Nat} {c : UInt8} {w0 wa : World} {Post : Act → World → Prop} (hB : B < 256) (e8 : (B : Int).tdiv 8 = (d8 : Int)) (hc : c.toNat = X) (hM1000 : M ≤ 1000) (hS0 : Snd w0.heap.size wa bi bm bn br bo bp bq bl i m n gr rc go oc pa N pc qa M qc gl lc) (hb0 : Below w0.heap.size w0 wa)
    (hexit : ∀ d204 d205 d206 d207 d208 d209 d210 d211 d212 d213 d214 d215 d216 d217 d218 d219 d220 d221 d222 d223 d224 d225 d226 d227 d228 d229 d230 d231 d232 d233 d234 d235 d236 d237 d238 d239 d240 d241 d242 d243 d244 d245 d246 d247 d248 w', Snd w0.heap.size w' bi bm bn br bo bp bq bl i m n gr rc go oc pa N pc qa M qc gl lc → Below w0.heap.size w0 w' → Post ⟨(List.toArray (c0 :: c1 :: c2 :: c3 :: (.int .i64 (B : Int)) :: c5 :: (.pointer (some ⟨bi, 0, none⟩)) :: c7 :: (.pointer (some ⟨bn, 0, none⟩)) :: c9 :: c10 :: (.pointer (some ⟨br, 0, none⟩)) :: c12 :: c13 :: c14 :: (.pointer (some ⟨bp, 0, none⟩)) :: c16 :: (.pointer (some ⟨bq, 0, none⟩)) :: c18 :: (.pointer (some ⟨bl, 0, none⟩)) :: c20 :: (.int .u8 (X : Int)) :: c22 :: (.func (.func 40) #[] #[.pointer (some ⟨bp, 0, none⟩), .pointer (some ⟨bi, 0, none⟩), .pointer (some ⟨bn, 0, none⟩), .pointer (some ⟨bl, 0, none⟩), .pointer (some ⟨br, 0, none⟩)]) :: (.func (.func 42) #[] #[.pointer (some ⟨bq, 0, none⟩), .pointer (some ⟨bm, 0, none⟩), .pointer (some ⟨bn, 0, none⟩), .pointer (some ⟨bo, 0, none⟩), .pointer (some ⟨br, 0, none⟩)]) :: (.bool true) :: c26 :: (.int .i64 (M : Int)) :: c28 :: c29 :: c30 :: c31 :: c32 :: c33 :: c34 :: c35 :: c36 :: c37 :: c38 :: c39 :: c40 :: c41 :: c42 :: c43 :: c44 :: c45 :: c46 :: c47 :: c48 :: c49 :: c50 :: c51 :: c52 :: c53 :: c54 :: c55 :: c56 :: c57 :: c58 :: c59 :: c60 :: c61 :: c62 :: c63 :: c64 :: c65 :: c66 :: c67 :: c68 :: c69 :: c70 :: c71 :: c72 :: c73 :: c74 :: c75 :: c76 :: c77 :: c78 :: c79 :: c80 :: c81 :: c82 :: c83 :: c84 :: c85 :: c86 :: c87 :: c88 :: c89 :: c90 :: c91 :: c92 :: c93 :: c94 :: c95 :: c96 :: c97 :: c98 :: c99 :: c100 :: c101 :: c102 :: c103 :: c104 :: c105 :: c106 :: c107 :: c108 :: c109 :: c110 :: c111 :: c112 :: c113 :: c114 :: c115 :: c116 :: c117 :: c118 :: c119 :: c120 :: c121 :: c122 :: c123 :: c124 :: c125 :: c126 :: c127 :: c128 :: c129 :: c130 :: c131 :: c132 :: c133 :: c134 :: c135 :: c136 :: c137 :: c138 :: c139 :: c140 :: c141 :: c142 :: c143 :: c144 :: c145 :: c146 :: c147 :: c148 :: c149 :: c150 :: c151 :: c152 :: c153 :: c154 :: c155 :: c156 :: c157 :: c158 :: c159 :: c160 :: c161 :: c162 :: c163 :: c164 :: c165 :: c166 :: c167 :: c168 :: c169 :: c170 :: c171 :: c172 :: c173 :: c174 :: c175 :: c176 :: c177 :: c178 :: c179 :: c180 :: c181 :: c182 :: c183 :: c184 :: c185 :: c186 :: c187 :: c188 :: c189 :: c190 :: c191 :: c192 :: c193 :: c194 :: c195 :: c196 :: c197 :: c198 :: c199 :: c200 :: c201 :: c202 :: c203 :: d204 :: d205 :: d206 :: d207 :: d208 :: d209 :: d210 :: d211 :: d212 :: d213 :: d214 :: d215 :: d216 :: d217 :: d218 :: d219 :: d220 :: d221 :: d222 :: d223 :: d224 :: d225 :: d226 :: d227 :: d228 :: d229 :: d230 :: d231 :: d232 :: d233 :: d234 :: d235 :: d236 :: d237 :: d238 :: d239 :: d240 :: d241 :: d242 :: d243 :: d244 :: d245 :: d246 :: d247 :: d248 :: c249 :: c250 :: c251 :: c252 :: c253 :: c254 :: c255 :: c256 :: c257 :: c258 :: c259 :: c260 :: c261 :: c262 :: [])), []⟩ w') :
    Code.wp Tryz.prog (Code.loop loopQ9) (OnExit 4 Post) ⟨(List.toArray (c0 :: c1 :: c2 :: c3 :: (.int .i64 (B : Int)) :: c5 :: (.pointer (some ⟨bi, 0, none⟩)) :: c7 :: (.pointer (some ⟨bn, 0, none⟩)) :: c9 :: c10 :: (.pointer (some ⟨br, 0, none⟩)) :: c12 :: c13 :: c14 :: (.pointer (some ⟨bp, 0, none⟩)) :: c16 :: (.pointer (some ⟨bq, 0, none⟩)) :: c18 :: (.pointer (some ⟨bl, 0, none⟩)) :: c20 :: (.int .u8 (X : Int)) :: c22 :: (.func (.func 40) #[] #[.pointer (some ⟨bp, 0, none⟩), .pointer (some ⟨bi, 0, none⟩), .pointer (some ⟨bn, 0, none⟩), .pointer (some ⟨bl, 0, none⟩), .pointer (some ⟨br, 0, none⟩)]) :: (.func (.func 42) #[] #[.pointer (some ⟨bq, 0, none⟩), .pointer (some ⟨bm, 0, none⟩), .pointer (some ⟨bn, 0, none⟩), .pointer (some ⟨bo, 0, none⟩), .pointer (some ⟨br, 0, none⟩)]) :: (.bool true) :: c26 :: (.int .i64 0) :: c28 :: c29 :: c30 :: c31 :: c32 :: c33 :: c34 :: c35 :: c36 :: c37 :: c38 :: c39 :: c40 :: c41 :: c42 :: c43 :: c44 :: c45 :: c46 :: c47 :: c48 :: c49 :: c50 :: c51 :: c52 :: c53 :: c54 :: c55 :: c56 :: c57 :: c58 :: c59 :: c60 :: c61 :: c62 :: c63 :: c64 :: c65 :: c66 :: c67 :: c68 :: c69 :: c70 :: c71 :: c72 :: c73 :: c74 :: c75 :: c76 :: c77 :: c78 :: c79 :: c80 :: c81 :: c82 :: c83 :: c84 :: c85 :: c86 :: c87 :: c88 :: c89 :: c90 :: c91 :: c92 :: c93 :: c94 :: c95 :: c96 :: c97 :: c98 :: c99 :: c100 :: c101 :: c102 :: c103 :: c104 :: c105 :: c106 :: c107 :: c108 :: c109 :: c110 :: c111 :: c112 :: c113 :: c114 :: c115 :: c116 :: c117 :: c118 :: c119 :: c120 :: c121 :: c122 :: c123 :: c124 :: c125 :: c126 :: c127 :: c128 :: c129 :: c130 :: c131 :: c132 :: c133 :: c134 :: c135 :: c136 :: c137 :: c138 :: c139 :: c140 :: c141 :: c142 :: c143 :: c144 :: c145 :: c146 :: c147 :: c148 :: c149 :: c150 :: c151 :: c152 :: c153 :: c154 :: c155 :: c156 :: c157 :: c158 :: c159 :: c160 :: c161 :: c162 :: c163 :: c164 :: c165 :: c166 :: c167 :: c168 :: c169 :: c170 :: c171 :: c172 :: c173 :: c174 :: c175 :: c176 :: c177 :: c178 :: c179 :: c180 :: c181 :: c182 :: c183 :: c184 :: c185 :: c186 :: c187 :: c188 :: c189 :: c190 :: c191 :: c192 :: c193 :: c194 :: c195 :: c196 :: c197 :: c198 :: c199 :: c200 :: c201 :: c202 :: c203 :: c204 :: c205 :: c206 :: c207 :: c208 :: c209 :: c210 :: c211 :: c212 :: c213 :: c214 :: c215 :: c216 :: c217 :: c218 :: c219 :: c220 :: c221 :: c222 :: c223 :: c224 :: c225 :: c226 :: c227 :: c228 :: c229 :: c230 :: c231 :: c232 :: c233 :: c234 :: c235 :: c236 :: c237 :: c238 :: c239 :: c240 :: c241 :: c242 :: c243 :: c244 :: c245 :: c246 :: c247 :: c248 :: c249 :: c250 :: c251 :: c252 :: c253 :: c254 :: c255 :: c256 :: c257 :: c258 :: c259 :: c260 :: c261 :: c262 :: [])), []⟩ wa := by
  have d32 : d8 < 32 := by
    have h1 : (B : Int).tdiv 8 = (B : Int) / 8 := Int.tdiv_eq_ediv_of_nonneg (by omega)
    omega
  have HX := hide hexit
  have HS := hide hS0
  have HBW := hide hb0
  clear hexit hS0 hb0
  conv => arg 2; arg 1; whnf
  go_loopw [25, 27] (fun v25 v27 wy => ∃ kk : Nat, kk ≤ M ∧ v27 = .int .i64 (kk : Int) ∧ v25 = .bool true ∧ Snd w0.heap.size wy bi bm bn br bo bp bq bl i m n gr rc go oc pa N pc qa M qc gl lc ∧ Below w0.heap.size w0 wy) (fun _ v27 _ => M - (intOf v27).toNat)
  case atStart => exact ⟨0, Nat.zero_le _, rfl, rfl, unhide HS, unhide HBW⟩
  case round =>
    rename World => wy
    clear HS HBW
    obtain ⟨kk, hkk, rfl, rfl, hS, hB2⟩ := hrel
    have HS := hide hS
    have HBW := hide hB2
    have ycp0 := hS.cq
    by_cases hlt : kk < M
    · obtain ⟨pb, ge, ce, cur, hpa, kro0, ycl0, he0⟩ := hS.hq.elem hlt
      subst hpa
      have HE := hide he0
      have HROW := hide (And.intro kro0 ycl0)
      clear hS hB2 kro0 ycl0 he0 ycp0
      obtain ⟨hg, cs, kb, sz, byt⟩ := (unhide HE).far
      obtain ⟨x, hx⟩ := byt d8 d32
      obtain ⟨z, hz⟩ := byt 0 (by omega)
      have hcell : wy.cell? ⟨ge, d8, none⟩ = some (.int .u8 (x.toNat : Int)) := (kb.cell d8).trans hx
      have hfree := kb.free d8
      have hxor := bx8 x c
      rw [hc] at hxor
      obtain ⟨y, hy⟩ : ∃ y, (x ^^^ c) = y := ⟨_, rfl⟩
      rw [hy] at hxor
      have HS2 : Hid (Snd w0.heap.size ((wy.setCell ⟨ge, d8, none⟩ (.int .u8 (y.toNat : Int))).drew) bi bm bn br bo bp bq bl i m n gr rc go oc pa N pc (some ⟨pb, 0, none⟩) M qc gl lc) := hide (((unhide HS).turn (c := y) kb hz).low (low_drew _))
      have HBW2 : Hid (Below w0.heap.size w0 ((wy.setCell ⟨ge, d8, none⟩ (.int .u8 (y.toNat : Int))).drew)) := hide (low_trans (low_turn (unhide HBW) hg) (low_drew _))
      have ycp := (unhide HS).cq
      obtain ⟨kro, ycl⟩ := unhide HROW
      obtain ⟨kr2, yc2⟩ := row_turn (k := d8) (c := .int .u8 (y.toNat : Int)) kb kro ycl
      have HROW2 : Hid (Blk ((wy.setCell ⟨ge, d8, none⟩ (.int .u8 (y.toNat : Int))).drew) pb cur 32 ∧ ((wy.setCell ⟨ge, d8, none⟩ (.int .u8 (y.toNat : Int))).drew).cell? ⟨pb, kk, none⟩ = some (.slice (some ⟨ge, 0, none⟩) 32 ce)) := hide ⟨kr2, yc2⟩
      have HE2 : Hid (H32 w0.heap.size ((wy.setCell ⟨ge, d8, none⟩ (.int .u8 (y.toNat : Int))).drew) (.slice (some ⟨ge, 0, none⟩) 32 ce)) := hide ((H32.turn (c := y) (unhide HE) kb).low (low_drew _))
      have d32i : (d8 : Int) < 32 := by omega
      clear hx hz kb sz byt hg hy HS HBW HE HROW kro kr2 yc2
      go_wp2
      go_region
      obtain ⟨v1, hv1⟩ : ∃ v1, (wy.setCell ⟨ge, d8, none⟩ (.int .u8 (y.toNat : Int))).drew = v1 := ⟨_, rfl⟩
      rw [hv1] at HS2 HBW2 HROW2 HE2 ⊢
      have HS := HS2
      have HBW := HBW2
      have HE := HE2
      have HROW := HROW2
      clear hcell hfree hxor ycl d32i HS2 HBW2 hv1 ycp HE2 HROW2
      go_wp2_with (go_at_call 42; fail)
      refine (tree_any (unhide HS).cq (unhide HS).cm (unhide HS).cn (unhide HS).co (unhide HS).cr (unhide HS).hq hM1000 (unhide HS).ho (unhide HS).hr).mono ?_
      rintro e v2 ⟨rfl, b⟩
      have HS := hide ((unhide HS).low b)
      have HBW := hide (low_trans (unhide HBW) b)
      have HE := hide ((unhide HE).low b)
      have HROW := hide (And.intro ((unhide HROW).1.low b) ((b.cell (lt_of_cell (unhide HROW).2)).trans (unhide HROW).2))
      clear b
      obtain ⟨hg, cs, kb, sz, byt⟩ := (unhide HE).far
      obtain ⟨x, hx⟩ := byt d8 d32
      obtain ⟨z, hz⟩ := byt 0 (by omega)
      have hcell : v2.cell? ⟨ge, d8, none⟩ = some (.int .u8 (x.toNat : Int)) := (kb.cell d8).trans hx
      have hfree := kb.free d8
      have hxor := bx8 x c
      rw [hc] at hxor
      obtain ⟨y, hy⟩ : ∃ y, (x ^^^ c) = y := ⟨_, rfl⟩
      rw [hy] at hxor
      have HS2 : Hid (Snd w0.heap.size ((v2.setCell ⟨ge, d8, none⟩ (.int .u8 (y.toNat : Int))).drew) bi bm bn br bo bp bq bl i m n gr rc go oc pa N pc (some ⟨pb, 0, none⟩) M qc gl lc) := hide (((unhide HS).turn (c := y) kb hz).low (low_drew _))
      have HBW2 : Hid (Below w0.heap.size w0 ((v2.setCell ⟨ge, d8, none⟩ (.int .u8 (y.toNat : Int))).drew)) := hide (low_trans (low_turn (unhide HBW) hg) (low_drew _))
      have ycp := (unhide HS).cq
      obtain ⟨kro, ycl⟩ := unhide HROW
      obtain ⟨kr2, yc2⟩ := row_turn (k := d8) (c := .int .u8 (y.toNat : Int)) kb kro ycl
      have HROW2 : Hid (Blk ((v2.setCell ⟨ge, d8, none⟩ (.int .u8 (y.toNat : Int))).drew) pb cur 32 ∧ ((v2.setCell ⟨ge, d8, none⟩ (.int .u8 (y.toNat : Int))).drew).cell? ⟨pb, kk, none⟩ = some (.slice (some ⟨ge, 0, none⟩) 32 ce)) := hide ⟨kr2, yc2⟩
      have HE2 : Hid (H32 w0.heap.size ((v2.setCell ⟨ge, d8, none⟩ (.int .u8 (y.toNat : Int))).drew) (.slice (some ⟨ge, 0, none⟩) 32 ce)) := hide ((H32.turn (c := y) (unhide HE) kb).low (low_drew _))
      have d32i : (d8 : Int) < 32 := by omega
      clear hx hz kb sz byt hg hy HS HBW HE HROW kro kr2 yc2
      go_wp2
      go_region
      obtain ⟨v3, hv3⟩ : ∃ v3, (v2.setCell ⟨ge, d8, none⟩ (.int .u8 (y.toNat : Int))).drew = v3 := ⟨_, rfl⟩
      rw [hv3] at HS2 HBW2 HROW2 HE2 ⊢
      have HS := HS2
      have HBW := HBW2
      have HE := HE2
      have HROW := HROW2
      clear hcell hfree hxor ycl d32i HS2 HBW2 hv3 ycp HE2 HROW2
      go_wp2
      refine ⟨⟨kk + 1, hlt, by push_cast; rfl, rfl, unhide HS, unhide HBW⟩, ?_⟩
      simp [intOf]
      omega
    · have hke : kk = M := by omega
      subst hke
      clear hS hB2
      go_wp2
      exact ⟨rfl, unhide HX _ _ _ _ _ _ _ _ _ _ _ _ _ _ _ _ _ _ _ _ _ _ _ _ _ _ _ _ _ _ _ _ _ _ _ _ _ _ _ _ _ _ _ _ _ wy (unhide HS) (unhide HBW)⟩
end Go.Proofs.YtkpmbbeidcpclaaGreatDoor
