/-
  A note opened, the reference's: any text, any keys.
-/
import Derived.Test.YtkablmjkffdloaaGreatDoorSpX
import Derived.Test.YtkablmjkffdloaaGreatDoorKysQ
import Derived.Test.YtkablmjkffdloaaGreatDoorSigW
import Derived.BigRegion
import Derived.Deep.RegionHeld3
namespace Go.Proofs.YtkablmjkffdloaaGreatDoor
open Go.RowKit

/-- A loop that is left by its end, or by an answer. -/
def OnOut (n : Nat) (Post : Act → World → Prop) (R : Ending → World → Prop) : Exit → Act → World → Prop
  | .exit m, a, w => m = n ∧ Post a w
  | .ret, a, w => bodyPost Tryz.prog Tryz.f58 R .ret a w
  | _, _, _ => False
theorem onOut_out {Q : Exit → Act → World → Prop} {n : Nat} {R : Ending → World → Prop} (hr : ∀ a w, bodyPost Tryz.prog Tryz.f58 R .ret a w → Q .ret a w) : ∀ e a w, OnOut n (fun a w => Q (.exit n) a w) R e a w → Q e a w := by
  intro e a w h
  cases e with
  | exit m => obtain ⟨rfl, h⟩ := h; exact h
  | ret => exact hr a w h
  | _ => exact h.elim
theorem useOut {P : Program} {c : Code} {Q : Exit → Act → World → Prop} {a : Act} {w : World} (n : Nat) (R : Ending → World → Prop) (hr : ∀ a w, bodyPost Tryz.prog Tryz.f58 R .ret a w → Q .ret a w) (h : Code.wp P c (OnOut n (fun a w => Q (.exit n) a w) R) a w) : Code.wp P c Q a w := Code.wp_mono (onOut_out hr) h
noncomputable def loop58c : Code := ((Tryz.f58.body.map loopsOf).getD []).getD 2 .skip
noncomputable def loop58d : Code := ((Tryz.f58.body.map loopsOf).getD []).getD 3 .skip
noncomputable def loop58e : Code := ((Tryz.f58.body.map loopsOf).getD []).getD 4 .skip

theorem num_take {b c : Bs} (hb : 4 ≤ b.length) (hc : 4 ≤ c.length) : numU b = numU c ↔ b.take 4 = c.take 4 := by
  constructor
  · intro e; rw [← be4_num hb, ← be4_num hc, e]
  · intro e
    have h : ∀ l : Bs, numU l = numU (l.take 4) := fun l => by
      unfold numU
      simp [List.getD_eq_getElem?_getD]
    rw [h b, h c, e]
theorem mapL_at : ∀ {V : List Bs} {LL : List (Bs × Bs)}, mapL V = some LL → ∀ j (hj : j < V.length) (hj2 : j < LL.length), lineR V[j] = some LL[j]
  | [], _, _, j, hj, _ => by simp at hj
  | v :: V, LL, h, j, hj, hj2 => by
    simp only [mapL] at h
    cases hl : lineR v with
    | none => rw [hl] at h; cases h
    | some p =>
      rw [hl] at h
      cases hr : mapL V with
      | none => rw [hr] at h; cases h
      | some q' =>
        rw [hr] at h
        simp at h
        subst h
        match j with
        | 0 => simpa using hl
        | j + 1 => simpa using mapL_at hr j (by simpa using hj) (by simpa using hj2)
theorem line_five {l nm b : Bs} (h : lineR l = some (nm, b)) : 5 ≤ b.length := by
  rw [← mark_line] at h
  unfold markR at h
  split at h
  · split at h
    · split at h
      · split at h
        · cases h
        · split at h
          · cases h; assumption
          · cases h
      · cases h
    · cases h
  · cases h
/-- Lines in their block, from a place on. -/
def LinesAt (w : World) (B o : Nat) (V : List Bs) : Prop := ∀ j (hj : j < V.length), w.cell? ⟨B, o + j, none⟩ = some (.string (ba V[j]))
theorem LinesAt.low {w w' : World} {B o : Nat} {V : List Bs} (h : LinesAt w B o V) (b : Below w.heap.size w w') : LinesAt w' B o V := fun j hj => (b.cell (lt_of_cell (h j hj))).trans (h j hj)
/-- A signature's bytes in a slice. -/
structure MAt (w : World) (g bn bc : Nat) (b : Bs) : Prop where
  len : b.length = bn
  five : 5 ≤ bn
  cap : bn ≤ bc
  mx : bc ≤ maxLen
  at_ : BAt w (some ⟨g, 0, none⟩) b
theorem MAt.low {w w' : World} {g bn bc : Nat} {b : Bs} (h : MAt w g bn bc b) (hb : Below w.heap.size w w') : MAt w' g bn bc b := ⟨h.len, h.five, h.cap, h.mx, h.at_.low hb⟩
theorem OwnB.mat {base : Nat} {w : World} {g n c : Nat} {b : Bs} (h : OwnB base w (.slice (some ⟨g, 0, none⟩) n c) b) (hn : b.length = n) (h5 : 5 ≤ n) : MAt w g n c b := by
  obtain ⟨a', c', e, hat, h1, h2⟩ := OwnB.at h
  cases e
  exact ⟨rfl, h5, h1, h2, hat⟩

set_option maxRecDepth 1000000 in
set_option maxHeartbeats 8000000 in
theorem dup_any {c0 c1 c2 c3 c5 c8 c9 c10 c11 c12 c13 c14 c18 c20 c21 c22 c23 c24 c25 c26 c27 c28 c29 c30 c31 c32 c33 c34 c35 c36 c37 c38 c39 c40 c41 c42 c43 c44 c45 c46 c47 c48 c49 c50 c51 c52 c53 c54 c55 c56 c57 c58 c59 c60 c61 c62 c63 c64 c65 c66 c67 c68 c69 c70 c71 c72 c73 c74 c75 c76 c77 c78 c79 c80 c81 c82 c83 c84 c85 c86 c87 c88 c89 c90 c91 c92 c93 c94 c95 c96 c97 c98 c99 c100 c101 c102 c103 c104 c105 c106 c107 c108 c109 c110 c111 c112 c113 c114 c115 c116 c117 c118 c119 c120 c121 c122 c123 c124 c125 c126 c127 c128 c129 c130 c131 c132 c133 c134 c135 c136 c137 c138 c139 c140 c141 c142 c143 c144 c145 c146 c147 c148 c149 c150 c151 c152 c153 c154 c155 c156 c157 c158 c159 c160 c161 c162 c163 c164 c165 c166 c167 c168 c169 c170 c171 c172 c173 c174 c175 c176 c177 c178 c179 c180 c181 c182 c183 c184 c185 c186 c187 c188 c189 c190 c191 c192 c193 c194 c195 c196 c197 c198 c199 c200 c201 c202 c203 : Value} {A B k cp at1 i q g bn bc : Nat} {nm b : Bs} {V : List Bs} {LL : List (Bs × Bs)} {w0 wa : World} {Post : Act → World → Prop} {R : Ending → World → Prop} (hV : LinesAt wa B at1 V) (hL : mapL V = some LL) (hVl : ∀ v ∈ V, v.length ≤ 200000) (hk : at1 + V.length = k) (hk2 : k ≤ 200000) (hq : q < V.length) (hi : at1 + q = i) (hM : MAt wa g bn bc b) (hA : Blk wa A #[.string ⟨#[]⟩, .slice none 0 0, .slice none 0 0] 82) (hA0 : w0.heap.size ≤ A) (hb0 : Below w0.heap.size w0 wa)
    (hret : sgS (nm, b) ∈ (LL.take q).map sgS → ∀ w', Below w0.heap.size w0 w' → R (.returned (.tuple #[.agg #[.string ⟨#[]⟩, .slice none 0 0, .slice none 0 0], .int .i64 12])) w')
    (hexit : ¬ sgS (nm, b) ∈ (LL.take q).map sgS → ∀ d5 d20 d21 d22 d23 d118 d119 d120 d121 d122 d123 d124 d125 d126 d127 d128 d129 d130 d131 d132 d133 d134 d135 d136 d137 d138 d139 d140 d141 d142 d143 w', Below wa.heap.size wa w' → Post ⟨(List.toArray (c0 :: c1 :: c2 :: c3 :: (.pointer (some ⟨A, 0, none⟩)) :: d5 :: (.slice (some ⟨B, 0, none⟩) k cp) :: (.int .i64 (at1 : Int)) :: c8 :: c9 :: c10 :: c11 :: c12 :: c13 :: c14 :: (.int .i64 (i : Int)) :: (.string (ba nm)) :: (.slice (some ⟨g, 0, none⟩) bn bc) :: c18 :: (.int .i64 (i : Int)) :: d20 :: d21 :: d22 :: d23 :: c24 :: c25 :: c26 :: c27 :: c28 :: c29 :: c30 :: c31 :: c32 :: c33 :: c34 :: c35 :: c36 :: c37 :: c38 :: c39 :: c40 :: c41 :: c42 :: c43 :: c44 :: c45 :: c46 :: c47 :: c48 :: c49 :: c50 :: c51 :: c52 :: c53 :: c54 :: c55 :: c56 :: c57 :: c58 :: c59 :: c60 :: c61 :: c62 :: c63 :: c64 :: c65 :: c66 :: c67 :: c68 :: c69 :: c70 :: c71 :: c72 :: c73 :: c74 :: c75 :: c76 :: c77 :: c78 :: c79 :: c80 :: c81 :: c82 :: c83 :: c84 :: c85 :: c86 :: c87 :: c88 :: c89 :: c90 :: c91 :: c92 :: c93 :: c94 :: c95 :: c96 :: c97 :: c98 :: c99 :: c100 :: c101 :: c102 :: c103 :: c104 :: c105 :: c106 :: c107 :: c108 :: c109 :: c110 :: c111 :: c112 :: c113 :: c114 :: c115 :: c116 :: c117 :: d118 :: d119 :: d120 :: d121 :: d122 :: d123 :: d124 :: d125 :: d126 :: d127 :: d128 :: d129 :: d130 :: d131 :: d132 :: d133 :: d134 :: d135 :: d136 :: d137 :: d138 :: d139 :: d140 :: d141 :: d142 :: d143 :: c144 :: c145 :: c146 :: c147 :: c148 :: c149 :: c150 :: c151 :: c152 :: c153 :: c154 :: c155 :: c156 :: c157 :: c158 :: c159 :: c160 :: c161 :: c162 :: c163 :: c164 :: c165 :: c166 :: c167 :: c168 :: c169 :: c170 :: c171 :: c172 :: c173 :: c174 :: c175 :: c176 :: c177 :: c178 :: c179 :: c180 :: c181 :: c182 :: c183 :: c184 :: c185 :: c186 :: c187 :: c188 :: c189 :: c190 :: c191 :: c192 :: c193 :: c194 :: c195 :: c196 :: c197 :: c198 :: c199 :: c200 :: c201 :: c202 :: c203 :: [])), []⟩ w') :
    Code.wp Tryz.prog (Code.loop loop58d) (OnOut 6 Post R) ⟨(List.toArray (c0 :: c1 :: c2 :: c3 :: (.pointer (some ⟨A, 0, none⟩)) :: c5 :: (.slice (some ⟨B, 0, none⟩) k cp) :: (.int .i64 (at1 : Int)) :: c8 :: c9 :: c10 :: c11 :: c12 :: c13 :: c14 :: (.int .i64 (i : Int)) :: (.string (ba nm)) :: (.slice (some ⟨g, 0, none⟩) bn bc) :: c18 :: (.int .i64 (at1 : Int)) :: c20 :: c21 :: c22 :: c23 :: c24 :: c25 :: c26 :: c27 :: c28 :: c29 :: c30 :: c31 :: c32 :: c33 :: c34 :: c35 :: c36 :: c37 :: c38 :: c39 :: c40 :: c41 :: c42 :: c43 :: c44 :: c45 :: c46 :: c47 :: c48 :: c49 :: c50 :: c51 :: c52 :: c53 :: c54 :: c55 :: c56 :: c57 :: c58 :: c59 :: c60 :: c61 :: c62 :: c63 :: c64 :: c65 :: c66 :: c67 :: c68 :: c69 :: c70 :: c71 :: c72 :: c73 :: c74 :: c75 :: c76 :: c77 :: c78 :: c79 :: c80 :: c81 :: c82 :: c83 :: c84 :: c85 :: c86 :: c87 :: c88 :: c89 :: c90 :: c91 :: c92 :: c93 :: c94 :: c95 :: c96 :: c97 :: c98 :: c99 :: c100 :: c101 :: c102 :: c103 :: c104 :: c105 :: c106 :: c107 :: c108 :: c109 :: c110 :: c111 :: c112 :: c113 :: c114 :: c115 :: c116 :: c117 :: c118 :: c119 :: c120 :: c121 :: c122 :: c123 :: c124 :: c125 :: c126 :: c127 :: c128 :: c129 :: c130 :: c131 :: c132 :: c133 :: c134 :: c135 :: c136 :: c137 :: c138 :: c139 :: c140 :: c141 :: c142 :: c143 :: c144 :: c145 :: c146 :: c147 :: c148 :: c149 :: c150 :: c151 :: c152 :: c153 :: c154 :: c155 :: c156 :: c157 :: c158 :: c159 :: c160 :: c161 :: c162 :: c163 :: c164 :: c165 :: c166 :: c167 :: c168 :: c169 :: c170 :: c171 :: c172 :: c173 :: c174 :: c175 :: c176 :: c177 :: c178 :: c179 :: c180 :: c181 :: c182 :: c183 :: c184 :: c185 :: c186 :: c187 :: c188 :: c189 :: c190 :: c191 :: c192 :: c193 :: c194 :: c195 :: c196 :: c197 :: c198 :: c199 :: c200 :: c201 :: c202 :: c203 :: [])), []⟩ wa := by
  have HR := hide hret
  have HX := hide hexit
  have HV := hide hV
  have HL := hide hL
  have HVL := hide hVl
  have HM := hide hM
  have HA := hide hA
  have HB0 := hide hb0
  have hLl : LL.length = V.length := mapL_len V LL hL
  have hbc : 4 ≤ bc := by have := hM.five; have := hM.cap; omega
  have hbci : (4 : Int) ≤ (bc : Int) := by omega
  have hbcm : bc ≤ 9223372036854775807 := hM.mx
  obtain ⟨b4, hb4⟩ : ∃ b4, b.take 4 = b4 := ⟨_, rfl⟩
  have hb4l : b4.length = 4 := by rw [← hb4, List.length_take]; have := hM.five; have := hM.len; omega
  have HB4 := hide hb4
  have HB4L := hide hb4l
  have HLL := hide hLl
  have HK := hide hk
  have HI := hide hi
  have HQ := hide hq
  clear hret hexit hV hL hVl hM hA hb0 hb4 hb4l hLl
  conv => arg 2; arg 1; whnf
  go_loopw [19, 20, 21, 22, 23] (fun v19 _ _ _ _ wr => ∃ j x : Nat, j ≤ q ∧ at1 + j = x ∧ v19 = .int .i64 (x : Int) ∧ Hid (¬ sgS (nm, b) ∈ (LL.take j).map sgS) ∧ Below wa.heap.size wa wr) (fun v19 _ _ _ _ _ => i - (intOf v19).toNat)
  case atStart => exact ⟨0, at1, Nat.zero_le _, rfl, rfl, hide (by simp), Below.refl _ _⟩
  case round =>
    rename World => wr
    obtain ⟨j, x, hj, hx, rfl, hno, hbw⟩ := hrel
    by_cases hlt : j < q
    · have hjV : j < V.length := by omega
      have hjL : j < LL.length := by rw [unhide HLL]; exact hjV
      have c0 := ((unhide HV).low hbw) j hjV
      rw [hx] at c0
      have hln := mapL_at (unhide HL) j hjV hjL
      have hvl := unhide HVL _ (List.getElem_mem hjV)
      have htk := take_snoc hjL
      obtain ⟨v, hv⟩ : ∃ v, V[j] = v := ⟨_, rfl⟩
      obtain ⟨p, hp⟩ : ∃ p, LL[j] = p := ⟨_, rfl⟩
      rw [hv] at c0 hln hvl
      rw [hp] at hln htk
      obtain ⟨nm2, b2⟩ := p
      have hmem : ∀ y, y ∈ (LL.take (j + 1)).map sgS ↔ (y ∈ (LL.take j).map sgS ∨ y = sgS (nm2, b2)) := fun y => by rw [htk, List.map_append]; simp
      have hsub : ∀ y, y ∈ (LL.take (j + 1)).map sgS → y ∈ (LL.take q).map sgS := fun y hy => by
        obtain ⟨z, hz, e⟩ := List.mem_map.1 hy
        refine List.mem_map.2 ⟨z, ?_, e⟩
        exact (List.take_subset_take_left LL (by omega : j + 1 ≤ q)) hz
      have xi : (x : Int) < (i : Int) := by have := unhide HI; omega
      have xk : (x : Int) < (k : Int) := by have := unhide HK; omega
      have xk2 : x < k := by have := unhide HK; omega
      have KM := hide (mark_any (w := wr) hvl)
      have HLN := hide hln
      have HME := hide hmem
      have HSU := hide hsub
      have HBW := hide hbw
      have HXX := hide hx
      clear hln hmem hsub hbw hvl htk hv hp hx
      go_wp2_with (go_at_call 114; fail)
      refine (unhide KM).mono ?_
      rintro e w3 ⟨hms, b3⟩
      rcases hms with ⟨hnone, -⟩ | ⟨nm3, b3', g3, n3, c3, hyes, hn3, rfl, ho3⟩
      · exfalso
        have h1 := unhide HLN
        rw [hnone] at h1
        cases h1
      · have e3 : (nm3, b3') = (nm2, b2) := by
          have h1 := unhide HLN
          rw [hyes] at h1
          exact Option.some.inj h1
        obtain ⟨e31, e32⟩ := Prod.mk.inj e3
        subst e31 e32
        have h5 := line_five (unhide HLN)
        have hM3 := OwnB.mat ho3 hn3 (by omega)
        have hc3 : 4 ≤ c3 := by have := hM3.five; have := hM3.cap; omega
        have hc3i : (4 : Int) ≤ (c3 : Int) := by omega
        have hc3m : c3 ≤ 9223372036854775807 := hM3.mx
        have hbw3 := low_trans (unhide HBW) b3
        have hMb := (unhide HM).low hbw3
        obtain ⟨ff, hff⟩ : ∃ ff, decide (b4 = b3'.take 4) = ff := ⟨_, rfl⟩
        have hEQ : sgS (nm, b) = sgS (nm3, b3') ↔ nm3 = nm ∧ ff = true := by
          rw [← hff, ← unhide HB4, decide_eq_true_iff, ← num_take (by have := hM3.len; have := (unhide HM).len; have := (unhide HM).five; omega) (by omega)]
          unfold sgS
          simp only [Prod.mk.injEq]
          constructor
          · rintro ⟨h1, h2⟩; exact ⟨h1.symm, h2⟩
          · rintro ⟨h1, h2⟩; exact ⟨h1.symm, h2⟩
        have HC : Hid (∀ nq, Calls Tryz.prog 23 #[.slice (some ⟨g, 0, none⟩) 4 bc, .slice (some ⟨g3, 0, none⟩) 4 c3] (w3.drewN nq) fun e w' => e = .returned (.bool ff) ∧ ∃ m, w' = (w3.drewN nq).drewN m) := hide (fun nq => by
          have kk := sameBytes_any (w := w3.drewN nq) (c := bc) (c2 := c3) (unhide HB4L) (show (b3'.take 4).length = 4 by rw [List.length_take]; omega) (by omega) (by omega) (by rw [← unhide HB4]; exact (hMb.at_.low (low_drewN _ _)).take 4) ((hM3.at_.low (low_drewN _ _)).take 4)
          rw [hff] at kk
          exact kk)
        have HEQ := hide hEQ
        have HB3 := hide hbw3
        obtain ⟨ss, hss⟩ : ∃ ss, ((ba nm3).toList == (ba nm).toList) = ss := ⟨_, rfl⟩
        have HSS : Hid (ss = true ↔ nm3 = nm) := hide (by
          rw [← hss, beq_iff_eq, Lib.toList_data, Lib.toList_data, ba_data, ba_data])
        clear hEQ hff hM3 hMb h5 e3 ho3 hyes hn3 hbw3 b3 KM c0
        go_wp2
        go_quiet ((go_at_call 23; exact Calls.quiet_of (unhide HC _)))
        have HBX4 : Hid (Below wa.heap.size wa (w3.drewN nq)) := hide (low_trans (unhide HB3) (low_drewN _ _))
        obtain ⟨w4, hw4⟩ : ∃ w4, w3.drewN nq = w4 := ⟨_, rfl⟩
        rw [hw4] at HBX4 ⊢
        clear hw4
        by_cases hdup : ss = true ∧ ff = true
        · have HD := hide (unhide HR (unhide HSU _ ((unhide HME _).2 (Or.inr ((unhide HEQ).2 ⟨(unhide HSS).1 hdup.1, hdup.2⟩)))))
          obtain ⟨h1, h2⟩ := hdup
          subst h1 h2
          have p0 := (unhide HA).low (unhide HBX4)
          have r0 := p0.cell 0
          have r1 := p0.cell 1
          have r2 := p0.cell 2
          have f0 := p0.free 0
          have f1 := p0.free 1
          have f2 := p0.free 2
          have qs := ((p0.set 0 (.string ⟨#[]⟩)).set 1 (.slice none 0 0)).set 2 (.slice none 0 0)
          have d0 := qs.cell 0
          have d1 := qs.cell 1
          have d2 := qs.cell 2
          have HZ : Hid (Below w0.heap.size w0 (((w4.setCell ⟨A, 0, none⟩ (.string ⟨#[]⟩)).setCell ⟨A, 1, none⟩ (.slice none 0 0)).setCell ⟨A, 2, none⟩ (.slice none 0 0))) := hide (low_put3 (low_trans (unhide HB0) (unhide HBX4)) hA0)
          clear p0 qs
          go_wp2
          exact bodyPost_ret (v := .tuple #[.agg #[.string ⟨#[]⟩, .slice none 0 0, .slice none 0 0], .int .i64 12]) (by simp [results, Tryz.results58, go_sem, d0, d1, d2]) rfl (unhide HD _ (unhide HZ))
        · have HF : Hid (¬ sgS (nm, b) ∈ (LL.take (j + 1)).map sgS) := hide (fun hm => by
            rcases (unhide HME _).1 hm with h | h
            · exact unhide hno h
            · obtain ⟨h1, h2⟩ := (unhide HEQ).1 h
              exact hdup ⟨(unhide HSS).2 h1, h2⟩)
          have hx2 := unhide HXX
          have hi2 := unhide HI
          cases ss with
          | false =>
            clear hdup
            go_wp2
            go_roundw
            case rel => exact ⟨j + 1, x + 1, hlt, by omega, by push_cast; rfl, HF, unhide HBX4⟩
            case measure => simp [intOf]; omega
          | true =>
            have hff2 : ff = false := by
              cases ff with
              | false => rfl
              | true => exact absurd ⟨rfl, rfl⟩ hdup
            subst hff2
            clear hdup
            go_wp2
            go_roundw
            case rel => exact ⟨j + 1, x + 1, hlt, by omega, by push_cast; rfl, HF, unhide HBX4⟩
            case measure => simp [intOf]; omega
    · have hje : j = q := by omega
      subst hje
      have hxi : x = i := by have := unhide HI; omega
      subst hxi
      have HF := hide (unhide HX (unhide hno))
      have HBW := hide hbw
      clear hbw
      go_wp2
      exact ⟨rfl, unhide HF _ _ _ _ _ _ _ _ _ _ _ _ _ _ _ _ _ _ _ _ _ _ _ _ _ _ _ _ _ _ _ wr (unhide HBW)⟩
end Go.Proofs.YtkablmjkffdloaaGreatDoor

namespace Go.Proofs.YtkablmjkffdloaaGreatDoor
open Go.RowKit

set_option maxRecDepth 1000000 in
set_option maxHeartbeats 8000000 in
theorem who_any {c0 c2 c3 c5 c6 c7 c8 c9 c10 c12 c13 c14 c15 c18 c19 c20 c21 c22 c23 c26 c27 c28 c29 c30 c31 c32 c33 c34 c35 c36 c37 c38 c39 c40 c41 c42 c43 c44 c45 c46 c47 c48 c49 c50 c51 c52 c53 c54 c55 c56 c57 c58 c59 c60 c61 c62 c63 c64 c65 c66 c67 c68 c69 c70 c71 c72 c73 c74 c75 c76 c77 c78 c79 c80 c81 c82 c83 c84 c85 c86 c87 c88 c89 c90 c91 c92 c93 c94 c95 c96 c97 c98 c99 c100 c101 c102 c103 c104 c105 c106 c107 c108 c109 c110 c111 c112 c113 c114 c115 c116 c117 c118 c119 c120 c121 c122 c123 c124 c125 c126 c127 c128 c129 c130 c131 c132 c133 c134 c135 c136 c137 c138 c139 c140 c141 c142 c143 c144 c145 c146 c147 c148 c149 c150 c151 c152 c153 c154 c155 c156 c157 c158 c159 c160 c161 c162 c163 c164 c165 c166 c167 c168 c169 c170 c171 c172 c173 c174 c175 c176 c177 c178 c179 c180 c181 c182 c183 c184 c185 c186 c187 c188 c189 c190 c191 c192 c193 c194 c195 c196 c197 c198 c199 c200 c201 c202 c203 : Value} {A n c g bn bc : Nat} {a : Option Addr} {tx nm b : Bs} {ts : List Wk} {w0 wa : World} {Post : Act → World → Prop} {R : Ending → World → Prop} (htx : tx.length ≤ 1000000) (hn : ts.length = n) (hN : n ≤ 1000) (hgd : ∀ t ∈ ts, t.nm.length ≤ 50 ∧ t.sec.length ≤ 64) (hbt : ∀ t ∈ ts, BAt wa t.a t.sec) (hP : PRow wa a ts) (hM : MAt wa g bn bc b) (hbn6 : bn ≤ 1000000) (hA : Blk wa A #[.string ⟨#[]⟩, .slice none 0 0, .slice none 0 0] 82) (hA0 : w0.heap.size ≤ A) (hb0 : Below w0.heap.size w0 wa)
    (hret : ∀ y, keyFor (nm, numU b) (ts.map kyOf) = some y → b.drop 4 ≠ sigL y.2 tx → ∀ w', Below w0.heap.size w0 w' → R (.returned (.tuple #[.agg #[.string ⟨#[]⟩, .slice none 0 0, .slice none 0 0], .int .i64 21])) w')
    (hno : keyFor (nm, numU b) (ts.map kyOf) = none → ∀ d5 d25 d144 d145 d146 d147 d148 d149 d150 d151 d152 d153 d154 d155 d156 d157 d158 d159 d160 d161 d162 d163 d164 d165 d166 d167 d168 d169 d170 d171 d172 d173 d174 d175 d176 d177 d178 d179 d180 d181 d182 d183 d184 w', Below wa.heap.size wa w' → Post ⟨(List.toArray (c0 :: (.slice a n c) :: c2 :: c3 :: (.pointer (some ⟨A, 0, none⟩)) :: d5 :: c6 :: c7 :: c8 :: c9 :: c10 :: (.string (ba tx)) :: c12 :: c13 :: c14 :: c15 :: (.string (ba nm)) :: (.slice (some ⟨g, 0, none⟩) bn bc) :: c18 :: c19 :: c20 :: c21 :: c22 :: c23 :: (.bool false) :: d25 :: c26 :: c27 :: c28 :: c29 :: c30 :: c31 :: c32 :: c33 :: c34 :: c35 :: c36 :: c37 :: c38 :: c39 :: c40 :: c41 :: c42 :: c43 :: c44 :: c45 :: c46 :: c47 :: c48 :: c49 :: c50 :: c51 :: c52 :: c53 :: c54 :: c55 :: c56 :: c57 :: c58 :: c59 :: c60 :: c61 :: c62 :: c63 :: c64 :: c65 :: c66 :: c67 :: c68 :: c69 :: c70 :: c71 :: c72 :: c73 :: c74 :: c75 :: c76 :: c77 :: c78 :: c79 :: c80 :: c81 :: c82 :: c83 :: c84 :: c85 :: c86 :: c87 :: c88 :: c89 :: c90 :: c91 :: c92 :: c93 :: c94 :: c95 :: c96 :: c97 :: c98 :: c99 :: c100 :: c101 :: c102 :: c103 :: c104 :: c105 :: c106 :: c107 :: c108 :: c109 :: c110 :: c111 :: c112 :: c113 :: c114 :: c115 :: c116 :: c117 :: c118 :: c119 :: c120 :: c121 :: c122 :: c123 :: c124 :: c125 :: c126 :: c127 :: c128 :: c129 :: c130 :: c131 :: c132 :: c133 :: c134 :: c135 :: c136 :: c137 :: c138 :: c139 :: c140 :: c141 :: c142 :: c143 :: d144 :: d145 :: d146 :: d147 :: d148 :: d149 :: d150 :: d151 :: d152 :: d153 :: d154 :: d155 :: d156 :: d157 :: d158 :: d159 :: d160 :: d161 :: d162 :: d163 :: d164 :: d165 :: d166 :: d167 :: d168 :: d169 :: d170 :: d171 :: d172 :: d173 :: d174 :: d175 :: d176 :: d177 :: d178 :: d179 :: d180 :: d181 :: d182 :: d183 :: d184 :: c185 :: c186 :: c187 :: c188 :: c189 :: c190 :: c191 :: c192 :: c193 :: c194 :: c195 :: c196 :: c197 :: c198 :: c199 :: c200 :: c201 :: c202 :: c203 :: [])), []⟩ w')
    (hyes : ∀ y, keyFor (nm, numU b) (ts.map kyOf) = some y → b.drop 4 = sigL y.2 tx → ∀ d5 d25 d144 d145 d146 d147 d148 d149 d150 d151 d152 d153 d154 d155 d156 d157 d158 d159 d160 d161 d162 d163 d164 d165 d166 d167 d168 d169 d170 d171 d172 d173 d174 d175 d176 d177 d178 d179 d180 d181 d182 d183 d184 w', Below wa.heap.size wa w' → Post ⟨(List.toArray (c0 :: (.slice a n c) :: c2 :: c3 :: (.pointer (some ⟨A, 0, none⟩)) :: d5 :: c6 :: c7 :: c8 :: c9 :: c10 :: (.string (ba tx)) :: c12 :: c13 :: c14 :: c15 :: (.string (ba nm)) :: (.slice (some ⟨g, 0, none⟩) bn bc) :: c18 :: c19 :: c20 :: c21 :: c22 :: c23 :: (.bool true) :: d25 :: c26 :: c27 :: c28 :: c29 :: c30 :: c31 :: c32 :: c33 :: c34 :: c35 :: c36 :: c37 :: c38 :: c39 :: c40 :: c41 :: c42 :: c43 :: c44 :: c45 :: c46 :: c47 :: c48 :: c49 :: c50 :: c51 :: c52 :: c53 :: c54 :: c55 :: c56 :: c57 :: c58 :: c59 :: c60 :: c61 :: c62 :: c63 :: c64 :: c65 :: c66 :: c67 :: c68 :: c69 :: c70 :: c71 :: c72 :: c73 :: c74 :: c75 :: c76 :: c77 :: c78 :: c79 :: c80 :: c81 :: c82 :: c83 :: c84 :: c85 :: c86 :: c87 :: c88 :: c89 :: c90 :: c91 :: c92 :: c93 :: c94 :: c95 :: c96 :: c97 :: c98 :: c99 :: c100 :: c101 :: c102 :: c103 :: c104 :: c105 :: c106 :: c107 :: c108 :: c109 :: c110 :: c111 :: c112 :: c113 :: c114 :: c115 :: c116 :: c117 :: c118 :: c119 :: c120 :: c121 :: c122 :: c123 :: c124 :: c125 :: c126 :: c127 :: c128 :: c129 :: c130 :: c131 :: c132 :: c133 :: c134 :: c135 :: c136 :: c137 :: c138 :: c139 :: c140 :: c141 :: c142 :: c143 :: d144 :: d145 :: d146 :: d147 :: d148 :: d149 :: d150 :: d151 :: d152 :: d153 :: d154 :: d155 :: d156 :: d157 :: d158 :: d159 :: d160 :: d161 :: d162 :: d163 :: d164 :: d165 :: d166 :: d167 :: d168 :: d169 :: d170 :: d171 :: d172 :: d173 :: d174 :: d175 :: d176 :: d177 :: d178 :: d179 :: d180 :: d181 :: d182 :: d183 :: d184 :: c185 :: c186 :: c187 :: c188 :: c189 :: c190 :: c191 :: c192 :: c193 :: c194 :: c195 :: c196 :: c197 :: c198 :: c199 :: c200 :: c201 :: c202 :: c203 :: [])), []⟩ w') :
    Code.wp Tryz.prog (Code.loop loop58e) (OnOut 8 Post R) ⟨(List.toArray (c0 :: (.slice a n c) :: c2 :: c3 :: (.pointer (some ⟨A, 0, none⟩)) :: c5 :: c6 :: c7 :: c8 :: c9 :: c10 :: (.string (ba tx)) :: c12 :: c13 :: c14 :: c15 :: (.string (ba nm)) :: (.slice (some ⟨g, 0, none⟩) bn bc) :: c18 :: c19 :: c20 :: c21 :: c22 :: c23 :: (.bool false) :: (.int .i64 0) :: c26 :: c27 :: c28 :: c29 :: c30 :: c31 :: c32 :: c33 :: c34 :: c35 :: c36 :: c37 :: c38 :: c39 :: c40 :: c41 :: c42 :: c43 :: c44 :: c45 :: c46 :: c47 :: c48 :: c49 :: c50 :: c51 :: c52 :: c53 :: c54 :: c55 :: c56 :: c57 :: c58 :: c59 :: c60 :: c61 :: c62 :: c63 :: c64 :: c65 :: c66 :: c67 :: c68 :: c69 :: c70 :: c71 :: c72 :: c73 :: c74 :: c75 :: c76 :: c77 :: c78 :: c79 :: c80 :: c81 :: c82 :: c83 :: c84 :: c85 :: c86 :: c87 :: c88 :: c89 :: c90 :: c91 :: c92 :: c93 :: c94 :: c95 :: c96 :: c97 :: c98 :: c99 :: c100 :: c101 :: c102 :: c103 :: c104 :: c105 :: c106 :: c107 :: c108 :: c109 :: c110 :: c111 :: c112 :: c113 :: c114 :: c115 :: c116 :: c117 :: c118 :: c119 :: c120 :: c121 :: c122 :: c123 :: c124 :: c125 :: c126 :: c127 :: c128 :: c129 :: c130 :: c131 :: c132 :: c133 :: c134 :: c135 :: c136 :: c137 :: c138 :: c139 :: c140 :: c141 :: c142 :: c143 :: c144 :: c145 :: c146 :: c147 :: c148 :: c149 :: c150 :: c151 :: c152 :: c153 :: c154 :: c155 :: c156 :: c157 :: c158 :: c159 :: c160 :: c161 :: c162 :: c163 :: c164 :: c165 :: c166 :: c167 :: c168 :: c169 :: c170 :: c171 :: c172 :: c173 :: c174 :: c175 :: c176 :: c177 :: c178 :: c179 :: c180 :: c181 :: c182 :: c183 :: c184 :: c185 :: c186 :: c187 :: c188 :: c189 :: c190 :: c191 :: c192 :: c193 :: c194 :: c195 :: c196 :: c197 :: c198 :: c199 :: c200 :: c201 :: c202 :: c203 :: [])), []⟩ wa := by
  obtain ⟨RES, hRES⟩ : ∃ RES, keyFor (nm, numU b) (ts.map kyOf) = RES := ⟨_, rfl⟩
  rw [hRES] at hret hno hyes
  have HR := hide hret
  have HNO := hide hno
  have HYES := hide hyes
  have HRES := hide hRES
  have HN := hide hn
  have HGD := hide hgd
  have HBT := hide hbt
  have HP := hide hP
  have HM := hide hM
  have HA := hide hA
  have HB0 := hide hb0
  have HTX := hide htx
  have hbc : 4 ≤ bc := by have := hM.five; have := hM.cap; omega
  have hbci : (4 : Int) ≤ (bc : Int) := by omega
  have hbn5 : 5 ≤ bn := hM.five
  have hbc5 : 5 ≤ bc := by have := hM.five; have := hM.cap; omega
  have hbn : 4 ≤ bn := by omega
  have hbni : (4 : Int) ≤ (bn : Int) := by omega
  have hbnc : bn ≤ bc := hM.cap
  have hbnci : (bn : Int) ≤ (bc : Int) := by omega
  have hbcm : bc ≤ 9223372036854775807 := hM.mx
  have HBN : Hid (bn ≤ 1000000) := hide hbn6
  clear htx hbn6 hn hgd hbt hP hM hA hb0 hret hno hyes hRES
  conv => arg 2; arg 1; whnf
  go_loopw [24, 25] (fun v24 v25 wr => ∃ (k : Nat) (fd : Bool), k ≤ n ∧ v25 = .int .i64 (k : Int) ∧ v24 = .bool fd ∧ Hid (fd = false → RES = keyFor (nm, numU b) ((ts.drop k).map kyOf)) ∧ Hid (fd = true → ∃ y, RES = some y ∧ b.drop 4 = sigL y.2 tx) ∧ Below wa.heap.size wa wr) (fun _ v25 _ => n - (intOf v25).toNat)
  case atStart => exact ⟨0, false, Nat.zero_le _, rfl, rfl, hide (fun _ => by rw [← unhide HRES]; rfl), hide (fun h => by cases h), Below.refl _ _⟩
  case round =>
    rename World => wr
    obtain ⟨k, fd, hk, rfl, rfl, hf, ht, hbw⟩ := hrel
    have HBW := hide hbw
    cases fd with
    | true =>
      obtain ⟨y, hy1, hy2⟩ := unhide ht rfl
      have HF := hide (unhide HYES y hy1 hy2)
      clear hy1 hy2 hf ht hbw
      by_cases hlt : k < n
      · have hlt' : (k : Int) < (n : Int) := by omega
        go_wp2
        exact ⟨rfl, unhide HF _ _ _ _ _ _ _ _ _ _ _ _ _ _ _ _ _ _ _ _ _ _ _ _ _ _ _ _ _ _ _ _ _ _ _ _ _ _ _ _ _ _ _ wr (unhide HBW)⟩
      · have hlt' : ¬ (k : Int) < (n : Int) := by omega
        go_wp2
        exact ⟨rfl, unhide HF _ _ _ _ _ _ _ _ _ _ _ _ _ _ _ _ _ _ _ _ _ _ _ _ _ _ _ _ _ _ _ _ _ _ _ _ _ _ _ _ _ _ _ wr (unhide HBW)⟩
    | false =>
      have HF0 := hide (unhide hf rfl)
      clear hf ht
      by_cases hlt : k < n
      · have hlt' : (k : Int) < (n : Int) := by omega
        have hkl : k < ts.length := by rw [unhide HN]; exact hlt
        obtain ⟨B, O, rfl, g0, g1⟩ := ((unhide HP).low hbw).at hkl
        have hsz := unhide HGD _ (List.getElem_mem hkl)
        have hbb := (unhide HBT _ (List.getElem_mem hkl)).low hbw
        have hdr : ts.drop k = ts[k] :: ts.drop (k + 1) := List.drop_eq_getElem_cons hkl
        obtain ⟨x, hx⟩ : ∃ x, ts[k] = x := ⟨_, rfl⟩
        rw [hx] at g0 g1 hsz hbb hdr
        obtain ⟨kn, sec, xa, xc⟩ := x
        have hres := unhide HF0
        rw [hdr, List.map_cons] at hres
        have hres2 : RES = if sgOf (kn, sec) = (nm, numU b) then some (kn, sec) else keyFor (nm, numU b) ((ts.drop (k + 1)).map kyOf) := by
          rw [hres]
          unfold keyFor
          rw [List.find?_cons]
          by_cases h : sgOf (kn, sec) = (nm, numU b)
          · rw [if_pos h]
            have : decide (sgOf (kyOf ⟨kn, sec, xa, xc⟩) = (nm, numU b)) = true := decide_eq_true h
            rw [this]
            rfl
          · rw [if_neg h]
            have : decide (sgOf (kyOf ⟨kn, sec, xa, xc⟩) = (nm, numU b)) = false := decide_eq_false h
            rw [this]
        have HRE := hide hres2
        simp only at g0 g1 hsz hbb
        obtain ⟨sl, hsl⟩ : ∃ sl, sec.length = sl := ⟨_, rfl⟩
        rw [hsl] at g1 hsz
        clear hres hres2 hdr hx HF0
        by_cases hname : kn = nm
        · subst hname
          obtain ⟨i4, hi4⟩ : ∃ i4, (idH kn sec).take 4 = i4 := ⟨_, rfl⟩
          have hi4l : i4.length = 4 := by rw [← hi4, List.length_take, show (idH kn sec).length = 32 from sha32 _]; rfl
          obtain ⟨b4, hb4⟩ : ∃ b4, b.take 4 = b4 := ⟨_, rfl⟩
          have hb4l : b4.length = 4 := by rw [← hb4, List.length_take, (unhide HM).len]; omega
          obtain ⟨bd, hbd⟩ : ∃ bd, b.drop 4 = bd := ⟨_, rfl⟩
          have hbdl : bd.length = bn - 4 := by rw [← hbd, List.length_drop, (unhide HM).len]
          obtain ⟨sg, hsg⟩ : ∃ sg, sigL sec tx = sg := ⟨_, rfl⟩
          have hsgl : sg.length = 32 := by rw [← hsg]; exact sha32 _
          obtain ⟨ff, hff⟩ : ∃ ff, decide (i4 = b4) = ff := ⟨_, rfl⟩
          have hEQ : sgOf (kn, sec) = (kn, numU b) ↔ ff = true := by
            rw [← hff, decide_eq_true_iff, ← hi4, ← hb4, ← num_take (by rw [show (idH kn sec).length = 32 from sha32 _]; decide) (by rw [(unhide HM).len]; exact hbn)]
            unfold sgOf idN
            rw [Prod.mk.injEq]
            exact ⟨fun h => h.2, fun h => ⟨rfl, h⟩⟩
          have HM4 : Hid (∀ wx, Below wr.heap.size wr wx → BAt wx (some ⟨g, 0, none⟩) b4) := hide (fun wx hw => by rw [← hb4]; exact ((unhide HM).at_.low (low_trans (unhide HBW) hw)).take 4)
          have HMd : Hid (∀ wx, Below wr.heap.size wr wx → BAt wx (some ⟨g, 4, none⟩) bd) := hide (fun wx hw => by
            have hat := ((unhide HM).at_.low (low_trans (unhide HBW) hw)).drop 4
            rw [Nat.zero_add, hbd] at hat
            exact hat)
          have hS : (((wr.cell? ⟨B, O + k * 2, none⟩ = some (.string (ba kn)) ∧ wr.cell? ⟨B, O + k * 2 + 1, none⟩ = some (.slice xa sl xc)) ∧ Below wr.heap.size wr wr)) := ⟨⟨g0, g1⟩, Below.refl _ _⟩
          have hSd := two_at hS (lowD (Below.refl _ _))
          have H116 : Hid (∀ wx, (((wx.cell? ⟨B, O + k * 2, none⟩ = some (.string (ba kn)) ∧ wx.cell? ⟨B, O + k * 2 + 1, none⟩ = some (.slice xa sl xc)) ∧ Below wr.heap.size wr wx)) → Calls Tryz.prog 116 #[.agg #[.string (ba kn), .slice xa sl xc]] wx fun e w' => ∃ g cap, e = .returned (.slice (some ⟨g, 0, none⟩) 4 cap) ∧ Hid (BAt w' (some ⟨g, 0, none⟩) i4) ∧ (((w'.cell? ⟨B, O + k * 2, none⟩ = some (.string (ba kn)) ∧ w'.cell? ⟨B, O + k * 2 + 1, none⟩ = some (.slice xa sl xc)) ∧ Below wr.heap.size wr w'))) := hide (fun wx hx => by
            refine (refID_any (nm := kn) (sec := sec) (c := xc) (by omega) hsl (by omega) (hbb.low hx.2)).mono ?_
            rintro e w' ⟨g, cap, rfl, o, b⟩
            rw [hi4] at o
            obtain ⟨a', c', e', hat, -, -⟩ := OwnB.at o
            rw [hi4l] at e'
            cases e'
            exact ⟨g, _, rfl, hide hat, two_at hx b⟩)
          have H23 : Hid (∀ wx g7 c7, (((wx.cell? ⟨B, O + k * 2, none⟩ = some (.string (ba kn)) ∧ wx.cell? ⟨B, O + k * 2 + 1, none⟩ = some (.slice xa sl xc)) ∧ Below wr.heap.size wr wx)) → Hid (BAt wx (some ⟨g7, 0, none⟩) i4) → Calls Tryz.prog 23 #[.slice (some ⟨g7, 0, none⟩) 4 c7, .slice (some ⟨g, 0, none⟩) 4 bc] wx fun e w' => e = .returned (.bool ff) ∧ (((w'.cell? ⟨B, O + k * 2, none⟩ = some (.string (ba kn)) ∧ w'.cell? ⟨B, O + k * 2 + 1, none⟩ = some (.slice xa sl xc)) ∧ Below wr.heap.size wr w'))) := hide (fun wx g7 c7 hx hv => by
            have kk := sameBytes_any (w := wx) (c := c7) (c2 := bc) (b := i4) (b2 := b4) hi4l hb4l (by omega) (by omega) (unhide hv) (unhide HM4 wx hx.2)
            rw [hff] at kk
            refine kk.mono ?_
            rintro e w' ⟨rfl, q, hw⟩
            exact ⟨rfl, two_at hx (by rw [hw]; exact low_drewN _ _)⟩)
          obtain ⟨vb, hvb⟩ : ∃ vb, decide (sg = bd) = vb := ⟨_, rfl⟩
          have H61 : Hid (∀ wx, (((wx.cell? ⟨B, O + k * 2, none⟩ = some (.string (ba kn)) ∧ wx.cell? ⟨B, O + k * 2 + 1, none⟩ = some (.slice xa sl xc)) ∧ Below wr.heap.size wr wx)) → Calls Tryz.prog 61 #[.agg #[.string (ba kn), .slice xa sl xc], .string (ba tx)] wx fun e w' => ∃ g cap, e = .returned (.slice (some ⟨g, 0, none⟩) 32 cap) ∧ Hid (BAt w' (some ⟨g, 0, none⟩) sg) ∧ (((w'.cell? ⟨B, O + k * 2, none⟩ = some (.string (ba kn)) ∧ w'.cell? ⟨B, O + k * 2 + 1, none⟩ = some (.slice xa sl xc)) ∧ Below wr.heap.size wr w'))) := hide (fun wx hx => by
            refine (refSig_any (nm := kn) (sec := sec) (text := tx) (c := xc) hsl (by omega) (unhide HTX) (hbb.low hx.2)).mono ?_
            rintro e w' ⟨v, rfl, o, b⟩
            rw [hsg] at o
            obtain ⟨g, cap, rfl, hat, -, -⟩ := OwnB.adr2 o hsgl
            exact ⟨g, cap, rfl, hide hat, two_at hx b⟩)
          have H23b : Hid (∀ wx g7 c7 c8, (((wx.cell? ⟨B, O + k * 2, none⟩ = some (.string (ba kn)) ∧ wx.cell? ⟨B, O + k * 2 + 1, none⟩ = some (.slice xa sl xc)) ∧ Below wr.heap.size wr wx)) → Hid (BAt wx (some ⟨g7, 0, none⟩) sg) → Calls Tryz.prog 23 #[.slice (some ⟨g7, 0, none⟩) 32 c7, .slice (some ⟨g, 4, none⟩) (bn - 4) c8] wx fun e w' => e = .returned (.bool vb) ∧ (((w'.cell? ⟨B, O + k * 2, none⟩ = some (.string (ba kn)) ∧ w'.cell? ⟨B, O + k * 2 + 1, none⟩ = some (.slice xa sl xc)) ∧ Below wr.heap.size wr w'))) := hide (fun wx g7 c7 c8 hx hv => by
            have kk := sameBytes_any (w := wx) (c := c7) (c2 := c8) (b := sg) (b2 := bd) hsgl hbdl (by omega) (by have := unhide HBN; omega) (unhide hv) (unhide HMd wx hx.2)
            rw [hvb] at kk
            refine kk.mono ?_
            rintro e w' ⟨rfl, q, hw⟩
            exact ⟨rfl, two_at hx (by rw [hw]; exact low_drewN _ _)⟩)
          have hq : ((ba kn).toList == (ba kn).toList) = true := by simp
          have HEQ := hide hEQ
          have HVB := hide hvb
          have HBD := hide hbd
          have HSG := hide hsg
          clear hEQ hff hsz hbb hsl hbw hvb hi4 hi4l hb4 hb4l hbd hbdl hsg hsgl HMd HM4
          go_wp2
          go_region_held3 (fun wx => (wx.cell? ⟨B, O + k * 2, none⟩ = some (.string (ba kn)) ∧ wx.cell? ⟨B, O + k * 2 + 1, none⟩ = some (.slice xa sl xc)) ∧ Below wr.heap.size wr wx)
            (first | assumption | exact hS | exact hSd)
            (first
              | (go_at_call 116; refine (unhide H116 _ (by assumption)).mono ?_; rintro e w9 ⟨g9, c9, rfl, hv9, hS9⟩)
              | (go_at_call 23; revert hv9; intro hv9; refine (unhide H23 _ _ _ (by assumption) hv9).mono ?_; rintro e w9 ⟨rfl, hS9⟩))
          all_goals
            have HB9 := hide hS9.2
            clear hS hSd hv9 g0 g1
            cases ff with
            | false =>
              have HF : Hid (RES = keyFor (kn, numU b) ((ts.drop (k + 1)).map kyOf)) := hide (by
                rw [unhide HRE, if_neg (fun e => by have := (unhide HEQ).1 e; cases this)])
              clear hS9
              go_wp2
              go_quiet (fail)
              go_wp2
              go_roundw
              case rel => exact ⟨k + 1, false, hlt, by push_cast; rfl, rfl, hide (fun _ => unhide HF), hide (fun h => by cases h), low_trans (low_trans (unhide HBW) (unhide HB9)) (low_drewN _ _)⟩
              case measure => simp [intOf]; omega
            | true =>
              have HF : Hid (RES = some (kn, sec)) := hide (by rw [unhide HRE, if_pos ((unhide HEQ).2 rfl)])
              have hT := hS9
              have hTd := two_at hT (lowD (Below.refl _ _))
              obtain ⟨⟨g2, g3⟩, -⟩ := hS9
              go_wp2
              go_region_held3 (fun wx => (wx.cell? ⟨B, O + k * 2, none⟩ = some (.string (ba kn)) ∧ wx.cell? ⟨B, O + k * 2 + 1, none⟩ = some (.slice xa sl xc)) ∧ Below wr.heap.size wr wx)
                (first | assumption | exact hT | exact hTd)
                (first
                  | (go_at_call 61; refine (unhide H61 _ (by assumption)).mono ?_; rintro e w11 ⟨g11, c11, rfl, hv11, hS11⟩)
                  | (go_at_call 23; revert hv11; intro hv11; refine (unhide H23b _ _ _ _ (by assumption) hv11).mono ?_; rintro e w11 ⟨rfl, hS11⟩))
              all_goals
                have HB11 := hide (low_trans (unhide HBW) hS11.2)
                clear hT hTd hv11 g2 g3 hS11
                cases vb with
                | false =>
                  have HD := hide (unhide HR _ (unhide HF) (by rw [unhide HBD]; show bd ≠ sigL sec tx; rw [unhide HSG]; exact fun e => absurd e.symm (of_decide_eq_false (unhide HVB))))
                  have p0 := (unhide HA).low (unhide HB11)
                  have r0 := p0.cell 0
                  have r1 := p0.cell 1
                  have r2 := p0.cell 2
                  have f0 := p0.free 0
                  have f1 := p0.free 1
                  have f2 := p0.free 2
                  have qs := ((p0.set 0 (.string ⟨#[]⟩)).set 1 (.slice none 0 0)).set 2 (.slice none 0 0)
                  have d0 := qs.cell 0
                  have d1 := qs.cell 1
                  have d2 := qs.cell 2
                  have HZ : Hid (Below w0.heap.size w0 (((w11.setCell ⟨A, 0, none⟩ (.string ⟨#[]⟩)).setCell ⟨A, 1, none⟩ (.slice none 0 0)).setCell ⟨A, 2, none⟩ (.slice none 0 0))) := hide (low_put3 (low_trans (unhide HB0) (unhide HB11)) hA0)
                  clear p0 qs
                  go_wp2
                  exact bodyPost_ret (v := .tuple #[.agg #[.string ⟨#[]⟩, .slice none 0 0, .slice none 0 0], .int .i64 21]) (by simp [results, Tryz.results58, go_sem, d0, d1, d2]) rfl (unhide HD _ (unhide HZ))
                | true =>
                  have HS2 : Hid (b.drop 4 = sigL sec tx) := hide (by rw [unhide HBD, unhide HSG]; exact (of_decide_eq_true (unhide HVB)).symm)
                  go_wp2
                  go_roundw
                  case rel => exact ⟨k + 1, true, hlt, by push_cast; rfl, rfl, hide (fun h => by cases h), hide (fun _ => ⟨_, unhide HF, unhide HS2⟩), unhide HB11⟩
                  case measure => simp [intOf]; omega
        · have hq : ((ba kn).toList == (ba nm).toList) = false := by
            rw [Bool.eq_false_iff]
            intro e
            rw [beq_iff_eq, Lib.toList_data, Lib.toList_data, ba_data, ba_data] at e
            exact hname (by simpa using e)
          have HF : Hid (RES = keyFor (nm, numU b) ((ts.drop (k + 1)).map kyOf)) := hide (by
            rw [unhide HRE, if_neg (fun e => hname (congrArg Prod.fst e))])
          clear hbb hsz hsl hbw hname
          go_wp2
          go_quiet (fail)
          obtain ⟨w4, hw4⟩ : ∃ w4, wr.drewN nq = w4 := ⟨_, rfl⟩
          have HB4 : Hid (Below wa.heap.size wa w4) := hide (by rw [← hw4]; exact low_trans (unhide HBW) (low_drewN _ _))
          rw [hw4]
          clear hw4 g0 g1 nq
          go_wp2
          go_quiet (fail)
          go_wp2
          go_roundw
          case rel => exact ⟨k + 1, false, hlt, by push_cast; rfl, rfl, hide (fun _ => unhide HF), hide (fun h => by cases h), low_trans (unhide HB4) (low_drewN _ _)⟩
          case measure => simp [intOf]; omega
      · have hke : k = n := by omega
        subst hke
        have hlt' : ¬ (k : Int) < (k : Int) := by omega
        have hd : RES = none := by
          rw [unhide HF0, List.drop_of_length_le (by rw [unhide HN]; exact Nat.le_refl _)]
          rfl
        have HF := hide (unhide HNO hd)
        clear hd HF0 hbw
        go_wp2
        exact ⟨rfl, unhide HF _ _ _ _ _ _ _ _ _ _ _ _ _ _ _ _ _ _ _ _ _ _ _ _ _ _ _ _ _ _ _ _ _ _ _ _ _ _ _ _ _ _ _ wr (unhide HBW)⟩
end Go.Proofs.YtkablmjkffdloaaGreatDoor

namespace Go.Proofs.YtkablmjkffdloaaGreatDoor
open Go.RowKit

theorem grp_len9 (g : Bs) (h : g.length ≤ 3) : g.length ≤ (grp g).length := by
  match g, h with
  | [], _ => simp
  | [a], _ => simp [grp, lets]
  | [a, b], _ => simp [grp, lets]
  | [a, b, c], _ => simp [grp, lets]
theorem b64_len9 : ∀ r : Bs, r.length ≤ (b64 r).length
  | [] => by simp
  | [a] => by simp only [b64]; exact grp_len9 _ (by simp)
  | [a, b] => by simp only [b64]; exact grp_len9 _ (by simp)
  | a :: b :: c :: r => by
    have h1 := grp_len9 [a, b, c] (by simp)
    have h2 := b64_len9 r
    simp only [b64, List.length_append, List.length_cons, List.length_nil] at h1 ⊢
    omega
theorem line_len {l nm b : Bs} (h : lineR l = some (nm, b)) : b.length ≤ l.length := by
  rw [← mark_line] at h
  unfold markR at h
  split at h
  · split at h
    · rename_i p q hpq
      split at h
      · split at h
        · cases h
        · rename_i b' hf
          split at h
          · cases h
            have h1 := from_some hf
            have h2 := b64_len9 b
            have h3 := pieces_short 32 (l.drop 4) q (by rw [hpq]; simp)
            rw [List.length_drop] at h3
            rw [h1] at h2
            omega
          · cases h
      · cases h
    · cases h
  · cases h

set_option maxRecDepth 1000000 in
set_option maxHeartbeats 8000000 in
theorem marks_any {c0 c2 c3 c5 c8 c9 c10 c12 c13 c16 c17 c18 c19 c20 c21 c22 c23 c24 c25 c26 c27 c28 c29 c30 c31 c32 c33 c34 c35 c36 c37 c38 c39 c40 c41 c42 c43 c44 c45 c46 c47 c48 c49 c50 c51 c52 c53 c54 c55 c56 c57 c58 c59 c60 c61 c62 c63 c64 c65 c66 c67 c68 c69 c70 c71 c72 c73 c74 c75 c76 c77 c78 c79 c80 c81 c82 c83 c84 c85 c86 c87 c88 c89 c90 c91 c92 c93 c94 c95 c96 c97 c98 c99 c100 c101 c102 c103 c104 c105 c106 c107 c108 c109 c110 c111 c112 c113 c114 c115 c116 c117 c118 c119 c120 c121 c122 c123 c124 c125 c126 c127 c128 c129 c130 c131 c132 c133 c134 c135 c136 c137 c138 c139 c140 c141 c142 c143 c144 c145 c146 c147 c148 c149 c150 c151 c152 c153 c154 c155 c156 c157 c158 c159 c160 c161 c162 c163 c164 c165 c166 c167 c168 c169 c170 c171 c172 c173 c174 c175 c176 c177 c178 c179 c180 c181 c182 c183 c184 c185 c186 c187 c188 c189 c190 c191 c192 c193 c194 c195 c196 c197 c198 c199 c200 c201 c202 c203 : Value} {A B G k cp at1 n c vl : Nat} {a : Option Addr} {tx : Bs} {V : List Bs} {LL : List (Bs × Bs)} {ts : List Wk} {RES : Int × List Bs × List Bs} {w0 wb wa : World} {Post : Act → World → Prop} {R : Ending → World → Prop} (hV : LinesAt wb B at1 V) (hL : mapL V = some LL) (hVl : ∀ v ∈ V, v.length ≤ 200000) (hvl : V.length = vl) (hk : at1 + vl = k) (hk2 : k ≤ 200000) (htx : tx.length ≤ 1000000) (hn : ts.length = n) (hN : n ≤ 1000) (hgd : ∀ t ∈ ts, t.nm.length ≤ 50 ∧ t.sec.length ≤ 64) (hbt : ∀ t ∈ ts, BAt wb t.a t.sec) (hP : PRow wb a ts) (hA : Blk wb A #[.string ⟨#[]⟩, .slice none 0 0, .slice none 0 0] 82) (hA0 : w0.heap.size ≤ A) (hb0 : Below w0.heap.size w0 wb) (hGb : wb.heap.size ≤ G) (hG : Blk wa G #[.string (ba tx), .slice none 0 0, .slice none 0 0] 82) (hba : Below wb.heap.size wb wa)
    (hRES : chk tx (ts.map kyOf) [] [] [] LL = RES)
    (hret : ∀ E : Int, E ≠ 0 → RES = (E, [], []) → ∀ w', Below w0.heap.size w0 w' → R (.returned (.tuple #[.agg #[.string ⟨#[]⟩, .slice none 0 0, .slice none 0 0], .int .i64 E])) w')
    (hexit : ∀ (g u : List Bs) ga gl gc ua ul uc, RES = (if g = [] then (20, [], []) else (0, g, u)) → g.length = gl → u.length = ul → ∀ d5 d16 d17 d18 d19 d20 d21 d22 d23 d24 d25 d102 d103 d104 d105 d106 d107 d108 d109 d110 d111 d112 d113 d114 d115 d116 d117 d118 d119 d120 d121 d122 d123 d124 d125 d126 d127 d128 d129 d130 d131 d132 d133 d134 d135 d136 d137 d138 d139 d140 d141 d142 d143 d144 d145 d146 d147 d148 d149 d150 d151 d152 d153 d154 d155 d156 d157 d158 d159 d160 d161 d162 d163 d164 d165 d166 d167 d168 d169 d170 d171 d172 d173 d174 d175 d176 d177 d178 d179 d180 d181 d182 d183 d184 d185 d186 d187 d188 d189 d190 d191 d192 d193 d194 d195 d196 d197 w', Blk w' G #[.string (ba tx), .slice ga gl gc, .slice ua ul uc] 82 → TOwn (G + 1) w' (.slice ga gl gc) g → TOwn (G + 1) w' (.slice ua ul uc) u → Below wb.heap.size wb w' → Post ⟨(List.toArray (c0 :: (.slice a n c) :: c2 :: c3 :: (.pointer (some ⟨A, 0, none⟩)) :: d5 :: (.slice (some ⟨B, 0, none⟩) k cp) :: (.int .i64 (at1 : Int)) :: c8 :: c9 :: c10 :: (.string (ba tx)) :: c12 :: c13 :: (.pointer (some ⟨G, 0, none⟩)) :: (.int .i64 (k : Int)) :: d16 :: d17 :: d18 :: d19 :: d20 :: d21 :: d22 :: d23 :: d24 :: d25 :: c26 :: c27 :: c28 :: c29 :: c30 :: c31 :: c32 :: c33 :: c34 :: c35 :: c36 :: c37 :: c38 :: c39 :: c40 :: c41 :: c42 :: c43 :: c44 :: c45 :: c46 :: c47 :: c48 :: c49 :: c50 :: c51 :: c52 :: c53 :: c54 :: c55 :: c56 :: c57 :: c58 :: c59 :: c60 :: c61 :: c62 :: c63 :: c64 :: c65 :: c66 :: c67 :: c68 :: c69 :: c70 :: c71 :: c72 :: c73 :: c74 :: c75 :: c76 :: c77 :: c78 :: c79 :: c80 :: c81 :: c82 :: c83 :: c84 :: c85 :: c86 :: c87 :: c88 :: c89 :: c90 :: c91 :: c92 :: c93 :: c94 :: c95 :: c96 :: c97 :: c98 :: c99 :: c100 :: c101 :: d102 :: d103 :: d104 :: d105 :: d106 :: d107 :: d108 :: d109 :: d110 :: d111 :: d112 :: d113 :: d114 :: d115 :: d116 :: d117 :: d118 :: d119 :: d120 :: d121 :: d122 :: d123 :: d124 :: d125 :: d126 :: d127 :: d128 :: d129 :: d130 :: d131 :: d132 :: d133 :: d134 :: d135 :: d136 :: d137 :: d138 :: d139 :: d140 :: d141 :: d142 :: d143 :: d144 :: d145 :: d146 :: d147 :: d148 :: d149 :: d150 :: d151 :: d152 :: d153 :: d154 :: d155 :: d156 :: d157 :: d158 :: d159 :: d160 :: d161 :: d162 :: d163 :: d164 :: d165 :: d166 :: d167 :: d168 :: d169 :: d170 :: d171 :: d172 :: d173 :: d174 :: d175 :: d176 :: d177 :: d178 :: d179 :: d180 :: d181 :: d182 :: d183 :: d184 :: d185 :: d186 :: d187 :: d188 :: d189 :: d190 :: d191 :: d192 :: d193 :: d194 :: d195 :: d196 :: d197 :: c198 :: c199 :: c200 :: c201 :: c202 :: c203 :: [])), []⟩ w') :
    Code.wp Tryz.prog (Code.loop loop58c) (OnOut 4 Post R) ⟨(List.toArray (c0 :: (.slice a n c) :: c2 :: c3 :: (.pointer (some ⟨A, 0, none⟩)) :: c5 :: (.slice (some ⟨B, 0, none⟩) k cp) :: (.int .i64 (at1 : Int)) :: c8 :: c9 :: c10 :: (.string (ba tx)) :: c12 :: c13 :: (.pointer (some ⟨G, 0, none⟩)) :: (.int .i64 (at1 : Int)) :: c16 :: c17 :: c18 :: c19 :: c20 :: c21 :: c22 :: c23 :: c24 :: c25 :: c26 :: c27 :: c28 :: c29 :: c30 :: c31 :: c32 :: c33 :: c34 :: c35 :: c36 :: c37 :: c38 :: c39 :: c40 :: c41 :: c42 :: c43 :: c44 :: c45 :: c46 :: c47 :: c48 :: c49 :: c50 :: c51 :: c52 :: c53 :: c54 :: c55 :: c56 :: c57 :: c58 :: c59 :: c60 :: c61 :: c62 :: c63 :: c64 :: c65 :: c66 :: c67 :: c68 :: c69 :: c70 :: c71 :: c72 :: c73 :: c74 :: c75 :: c76 :: c77 :: c78 :: c79 :: c80 :: c81 :: c82 :: c83 :: c84 :: c85 :: c86 :: c87 :: c88 :: c89 :: c90 :: c91 :: c92 :: c93 :: c94 :: c95 :: c96 :: c97 :: c98 :: c99 :: c100 :: c101 :: c102 :: c103 :: c104 :: c105 :: c106 :: c107 :: c108 :: c109 :: c110 :: c111 :: c112 :: c113 :: c114 :: c115 :: c116 :: c117 :: c118 :: c119 :: c120 :: c121 :: c122 :: c123 :: c124 :: c125 :: c126 :: c127 :: c128 :: c129 :: c130 :: c131 :: c132 :: c133 :: c134 :: c135 :: c136 :: c137 :: c138 :: c139 :: c140 :: c141 :: c142 :: c143 :: c144 :: c145 :: c146 :: c147 :: c148 :: c149 :: c150 :: c151 :: c152 :: c153 :: c154 :: c155 :: c156 :: c157 :: c158 :: c159 :: c160 :: c161 :: c162 :: c163 :: c164 :: c165 :: c166 :: c167 :: c168 :: c169 :: c170 :: c171 :: c172 :: c173 :: c174 :: c175 :: c176 :: c177 :: c178 :: c179 :: c180 :: c181 :: c182 :: c183 :: c184 :: c185 :: c186 :: c187 :: c188 :: c189 :: c190 :: c191 :: c192 :: c193 :: c194 :: c195 :: c196 :: c197 :: c198 :: c199 :: c200 :: c201 :: c202 :: c203 :: [])), []⟩ wa := by
  have HR := hide hret
  have HX := hide hexit
  have HV := hide hV
  have HL := hide hL
  have HVL := hide hVl
  have HVN := hide hvl
  have HN := hide hn
  have HGD := hide hgd
  have HBT := hide hbt
  have HP := hide hP
  have HA := hide hA
  have HB0 := hide hb0
  have HTX := hide htx
  have HG0 := hide hG
  have HBA := hide hba
  have HR0 := hide hRES
  have hLl : LL.length = vl := by rw [← hvl]; exact mapL_len V LL hL
  have HLL := hide hLl
  have HK := hide hk
  clear hret hexit hV hL hVl hvl hn hgd hbt hP hA hb0 htx hG hba hRES hLl
  conv => arg 2; arg 1; whnf
  go_loopw [15, 16, 17, 18, 19, 20, 21, 22, 23, 24, 25] (fun v15 _ _ _ _ _ _ _ _ _ _ wr => ∃ (q x : Nat) (g u : List Bs) (gv uv : Value), q ≤ vl ∧ at1 + q = x ∧ v15 = .int .i64 (x : Int) ∧ g.length ≤ q ∧ u.length ≤ q ∧ Blk wr G #[.string (ba tx), gv, uv] 82 ∧ TOwn (G + 1) wr gv g ∧ TOwn (G + 1) wr uv u ∧ Hid (∀ k, gv.ownBlock = some k → uv.ownBlock = some k → False) ∧ Hid (RES = chk tx (ts.map kyOf) ((LL.take q).map sgS) g u (LL.drop q)) ∧ Below wb.heap.size wb wr) (fun v15 _ _ _ _ _ _ _ _ _ _ _ => k - (intOf v15).toNat)
  case atStart => exact ⟨0, at1, [], [], _, _, Nat.zero_le _, rfl, rfl, Nat.zero_le _, Nat.zero_le _, unhide HG0, World.ownsRow_nil _ _ _ _, World.ownsRow_nil _ _ _ _, hide (fun k h => by cases h), hide (by rw [← unhide HR0]; simp), unhide HBA⟩
  case round =>
    rename World => wr
    obtain ⟨q, x, g, u, gv, uv, hq, hx, rfl, hgl, hul, p1, tg, tu, hne, hres, hbw⟩ := hrel
    by_cases hlt : q < vl
    · have hqV : q < V.length := by rw [unhide HVN]; exact hlt
      have hqL : q < LL.length := by rw [unhide HLL]; exact hlt
      have c0 := ((unhide HV).low hbw) q hqV
      rw [hx] at c0
      have hln := mapL_at (unhide HL) q hqV hqL
      have hvl := unhide HVL _ (List.getElem_mem hqV)
      have htk := take_snoc hqL
      have hdr : LL.drop q = LL[q] :: LL.drop (q + 1) := List.drop_eq_getElem_cons hqL
      obtain ⟨v, hv⟩ : ∃ v, V[q] = v := ⟨_, rfl⟩
      obtain ⟨p, hp⟩ : ∃ p, LL[q] = p := ⟨_, rfl⟩
      rw [hv] at c0 hln hvl
      rw [hp] at hln htk hdr
      obtain ⟨nm, b⟩ := p
      have hres2 := unhide hres
      rw [hdr] at hres2
      simp only [chk] at hres2
      have htk2 : (LL.take (q + 1)).map sgS = (LL.take q).map sgS ++ [sgS (nm, b)] := by rw [htk, List.map_append]; rfl
      have xk : (x : Int) < (k : Int) := by have := unhide HK; omega
      have xk2 : x < k := by have := unhide HK; omega
      have KM := hide (mark_any (w := wr) hvl)
      have HLN := hide hln
      have HVV := hide hvl
      have HTK := hide htk2
      have HRES := hide hres2
      have HQG := hide p1
      have HTG := hide tg
      have HTU := hide tu
      have HNE := hide (unhide hne)
      have HBW := hide hbw
      have HXX := hide hx
      clear hln hvl htk hdr hres hres2 htk2 hv hp hbw p1 tg tu hne hqV hqL hx
      go_wp2_with (go_at_call 114; fail)
      refine (unhide KM).mono ?_
      rintro e w3 ⟨hms, b3⟩
      rcases hms with ⟨hnone, -⟩ | ⟨nm3, b3', g3, n3, c3, hyes, hn3, rfl, ho3⟩
      · exfalso
        have h1 := unhide HLN
        rw [hnone] at h1
        cases h1
      · have e3 : (nm3, b3') = (nm, b) := by
          have h1 := unhide HLN
          rw [hyes] at h1
          exact Option.some.inj h1
        obtain ⟨e31, e32⟩ := Prod.mk.inj e3
        subst e31 e32
        have h5 := line_five (unhide HLN)
        have h6 := line_len (unhide HLN)
        have h7 : n3 ≤ 1000000 := by have := unhide HVV; omega
        have HM3 := hide (OwnB.mat ho3 hn3 (by omega))
        have HB3 := hide b3
        have HBW3 := hide (low_trans (unhide HBW) b3)
        have hk3 : at1 + V.length = k := by rw [unhide HVN]; exact unhide HK
        have hq3 : q < V.length := by rw [unhide HVN]; exact hlt
        clear ho3 hyes e3 b3 KM c0 hn3 h5 h6
        go_wp2
        refine useOut 6 R (fun _ _ h => h) (dup_any (w0 := w0) (q := q) (nm := nm3) (b := b3') ((unhide HV).low (unhide HBW3)) (unhide HL) (unhide HVL) hk3 hk2 hq3 (unhide HXX) (unhide HM3) ((unhide HA).low (unhide HBW3)) hA0 (low_trans (unhide HB0) (unhide HBW3)) ?_ ?_)
        · intro hdup w' hw'
          exact unhide HR 12 (by decide) (by rw [unhide HRES, if_pos hdup]) w' hw'
        · intro hnd d5 d20 d21 d22 d23 d118 d119 d120 d121 d122 d123 d124 d125 d126 d127 d128 d129 d130 d131 d132 d133 d134 d135 d136 d137 d138 d139 d140 d141 d142 d143 w4 hb4
          have HRE2 := hide (unhide HRES)
          have hre := unhide HRE2
          rw [if_neg hnd] at hre
          have HRE3 := hide hre
          have HB4 := hide (low_trans (unhide HB3) hb4)
          have HBW4 := hide (low_trans (unhide HBW3) hb4)
          have HM4 := hide ((unhide HM3).low hb4)
          clear hre HRE2 hb4 hnd HRES
          go_wp2
          refine useOut 8 R (fun _ _ h => h) (who_any (w0 := w0) (nm := nm3) (b := b3') (ts := ts) (tx := tx) (unhide HTX) (unhide HN) hN (unhide HGD) (fun t ht => (unhide HBT t ht).low (unhide HBW4)) ((unhide HP).low (unhide HBW4)) (unhide HM4) h7 ((unhide HA).low (unhide HBW4)) hA0 (low_trans (unhide HB0) (unhide HBW4)) ?_ ?_ ?_)
          · intro y hy hne w' hw'
            refine unhide HR 21 (by decide) ?_ w' hw'
            have hre := unhide HRE3
            rw [show keyFor (sgS (nm3, b3')) (ts.map kyOf) = some y from hy] at hre
            simp only at hre
            rw [if_neg hne] at hre
            exact hre
          · intro hy e5 e25 e144 e145 e146 e147 e148 e149 e150 e151 e152 e153 e154 e155 e156 e157 e158 e159 e160 e161 e162 e163 e164 e165 e166 e167 e168 e169 e170 e171 e172 e173 e174 e175 e176 e177 e178 e179 e180 e181 e182 e183 e184 w5 hb5
            have hre := unhide HRE3
            rw [show keyFor (sgS (nm3, b3')) (ts.map kyOf) = none from hy] at hre
            simp only at hre
            rw [← unhide HTK] at hre
            have HRS := hide hre
            have HB5 := hide (low_trans (unhide HB4) hb5)
            clear hre hy hb5
            have hx2 := unhide HXX
            have hk4 := unhide HK
            have q6 := (unhide HQG).low (unhide HB5)
            have z1 := q6.cell 2
            have oa : TOwn (G + 1) w5 uv u := row_low (unhide HTU) (unhide HB5)
            have oo : TOwn (G + 1) w5 gv g := row_low (unhide HTG) (unhide HB5)
            have bw := low_trans (unhide HBW) (unhide HB5)
            have hsz : G + 1 ≤ w5.heap.size := by have := q6.lt; omega
            obtain ⟨W6, hW6⟩ : ∃ W6, w5.alloc (.cells #[.string (ba nm3)] 9) = W6 := ⟨_, rfl⟩
            obtain ⟨v7, w7, happ, o7, gr7, hb7⟩ := app_txt (t := nm3) oa hsz (by omega) hW6
            obtain ⟨a7, c7, hv7⟩ := TOwn.form o7
            obtain ⟨L7, hL7⟩ : ∃ L7, (u ++ [nm3]).length = L7 := ⟨_, rfl⟩
            rw [hL7] at hv7
            subst hv7
            have hbl : ∀ k, uv.ownBlock = some k → G + 1 ≤ k := fun k hk => (row_ge oa hk).1
            have q67 : Blk w7 G #[.string (ba tx), gv, uv] 82 := (gr7.block G q6.lt (fun e => by have := hbl G e.symm; omega)).trans q6
            have u0 := q67.cell 2
            have f0 := q67.free 2
            have bw7 : Below wb.heap.size wb w7 := bw.grown gr7 bw.size (fun k hk => by have := hbl k hk; omega)
            have oo7 : TOwn (G + 1) w7 gv g := row_keep oo (fun k hk => by
              obtain ⟨_, cur, hc⟩ := row_ge oo hk
              exact gr7.block k (Array.getElem?_eq_some_iff.1 hc).1 (fun e => unhide HNE k hk e.symm))
            have HP1 : Hid (Blk (w7.setCell ⟨G, 2, none⟩ (.slice a7 L7 c7)) G #[.string (ba tx), gv, .slice a7 L7 c7] 82) := hide (by have := q67.set 2 (.slice a7 L7 c7); simpa using this)
            have HB7 : Hid (Below wb.heap.size wb (w7.setCell ⟨G, 2, none⟩ (.slice a7 L7 c7))) := hide (low_put2 bw7 (by omega))
            have HT1 : Hid (TOwn (G + 1) (w7.setCell ⟨G, 2, none⟩ (.slice a7 L7 c7)) (.slice a7 L7 c7) (u ++ [nm3])) := hide (TOwn.put o7 (by omega))
            have HT2 : Hid (TOwn (G + 1) (w7.setCell ⟨G, 2, none⟩ (.slice a7 L7 c7)) gv g) := hide (TOwn.put oo7 (by omega))
            have HN7 : Hid (∀ k, gv.ownBlock = some k → (Value.slice a7 L7 c7).ownBlock = some k → False) := hide (fun k h1 h2 => by
              rcases hb7 with e | ⟨gg, e, hge⟩
              · rw [e] at h2; exact unhide HNE k h1 h2
              · rw [e] at h2
                obtain ⟨_, cur, hc⟩ := row_ge oo h1
                have := (Array.getElem?_eq_some_iff.1 hc).1
                have : gg = k := Option.some.inj h2
                omega)
            have HW6 := hide hW6
            clear q6 oa oo bw hsz o7 gr7 hb7 hbl q67 bw7 oo7 hW6 hL7
            go_wp2_with (at_builtin; rw [unhide HW6]; refine Lib.wpList_append_run _ rfl _ _ _ _ rfl _ _ rfl rfl _ _ happ ?_; clear happ)
            go_roundw
            case rel => exact ⟨q + 1, x + 1, g, u ++ [nm3], gv, .slice a7 L7 c7, hlt, by omega, by push_cast; rfl, by first | omega | (simp; omega), by first | omega | (simp; omega), unhide HP1, unhide HT2, unhide HT1, HN7, HRS, unhide HB7⟩
            case measure => simp [intOf]; omega
          · intro y hy hys e5 e25 e144 e145 e146 e147 e148 e149 e150 e151 e152 e153 e154 e155 e156 e157 e158 e159 e160 e161 e162 e163 e164 e165 e166 e167 e168 e169 e170 e171 e172 e173 e174 e175 e176 e177 e178 e179 e180 e181 e182 e183 e184 w5 hb5
            have hre := unhide HRE3
            rw [show keyFor (sgS (nm3, b3')) (ts.map kyOf) = some y from hy] at hre
            simp only at hre
            rw [if_pos hys, ← unhide HTK] at hre
            have HRS := hide hre
            have HB5 := hide (low_trans (unhide HB4) hb5)
            clear hre hy hys hb5
            have hx2 := unhide HXX
            have hk4 := unhide HK
            have q6 := (unhide HQG).low (unhide HB5)
            have z1 := q6.cell 1
            have oa : TOwn (G + 1) w5 gv g := row_low (unhide HTG) (unhide HB5)
            have oo : TOwn (G + 1) w5 uv u := row_low (unhide HTU) (unhide HB5)
            have bw := low_trans (unhide HBW) (unhide HB5)
            have hsz : G + 1 ≤ w5.heap.size := by have := q6.lt; omega
            obtain ⟨W6, hW6⟩ : ∃ W6, w5.alloc (.cells #[.string (ba nm3)] 9) = W6 := ⟨_, rfl⟩
            obtain ⟨v7, w7, happ, o7, gr7, hb7⟩ := app_txt (t := nm3) oa hsz (by omega) hW6
            obtain ⟨a7, c7, hv7⟩ := TOwn.form o7
            obtain ⟨L7, hL7⟩ : ∃ L7, (g ++ [nm3]).length = L7 := ⟨_, rfl⟩
            rw [hL7] at hv7
            subst hv7
            have hbl : ∀ k, gv.ownBlock = some k → G + 1 ≤ k := fun k hk => (row_ge oa hk).1
            have q67 : Blk w7 G #[.string (ba tx), gv, uv] 82 := (gr7.block G q6.lt (fun e => by have := hbl G e.symm; omega)).trans q6
            have u0 := q67.cell 1
            have f0 := q67.free 1
            have bw7 : Below wb.heap.size wb w7 := bw.grown gr7 bw.size (fun k hk => by have := hbl k hk; omega)
            have oo7 : TOwn (G + 1) w7 uv u := row_keep oo (fun k hk => by
              obtain ⟨_, cur, hc⟩ := row_ge oo hk
              exact gr7.block k (Array.getElem?_eq_some_iff.1 hc).1 (fun e => unhide HNE k e.symm hk))
            have HP1 : Hid (Blk (w7.setCell ⟨G, 1, none⟩ (.slice a7 L7 c7)) G #[.string (ba tx), .slice a7 L7 c7, uv] 82) := hide (by have := q67.set 1 (.slice a7 L7 c7); simpa using this)
            have HB7 : Hid (Below wb.heap.size wb (w7.setCell ⟨G, 1, none⟩ (.slice a7 L7 c7))) := hide (low_put2 bw7 (by omega))
            have HT1 : Hid (TOwn (G + 1) (w7.setCell ⟨G, 1, none⟩ (.slice a7 L7 c7)) (.slice a7 L7 c7) (g ++ [nm3])) := hide (TOwn.put o7 (by omega))
            have HT2 : Hid (TOwn (G + 1) (w7.setCell ⟨G, 1, none⟩ (.slice a7 L7 c7)) uv u) := hide (TOwn.put oo7 (by omega))
            have HN7 : Hid (∀ k, (Value.slice a7 L7 c7).ownBlock = some k → uv.ownBlock = some k → False) := hide (fun k h1 h2 => by
              rcases hb7 with e | ⟨gg, e, hge⟩
              · rw [e] at h1; exact unhide HNE k h1 h2
              · rw [e] at h1
                obtain ⟨_, cur, hc⟩ := row_ge oo h2
                have := (Array.getElem?_eq_some_iff.1 hc).1
                have : gg = k := Option.some.inj h1
                omega)
            have HW6 := hide hW6
            clear q6 oa oo bw hsz o7 gr7 hb7 hbl q67 bw7 oo7 hW6 hL7
            go_wp2_with (at_builtin; rw [unhide HW6]; refine Lib.wpList_append_run _ rfl _ _ _ _ rfl _ _ rfl rfl _ _ happ ?_; clear happ)
            go_roundw
            case rel => exact ⟨q + 1, x + 1, g ++ [nm3], u, .slice a7 L7 c7, uv, hlt, by omega, by push_cast; rfl, by first | omega | (simp; omega), by first | omega | (simp; omega), unhide HP1, unhide HT1, unhide HT2, HN7, HRS, unhide HB7⟩
            case measure => simp [intOf]; omega
    · have hqe : q = vl := by omega
      subst hqe
      have hxk : x = k := by have := unhide HK; omega
      subst hxk
      have hres2 := unhide hres
      rw [List.drop_of_length_le (by rw [unhide HLL]; exact Nat.le_refl _)] at hres2
      simp only [chk] at hres2
      obtain ⟨ga, gc, rfl⟩ := TOwn.form tg
      obtain ⟨ua, uc, rfl⟩ := TOwn.form tu
      obtain ⟨gl, hgl2⟩ : ∃ gl, g.length = gl := ⟨_, rfl⟩
      obtain ⟨ul, hul2⟩ : ∃ ul, u.length = ul := ⟨_, rfl⟩
      rw [hgl2] at p1 tg
      rw [hul2] at p1 tu
      have HF := hide (unhide HX g u ga gl gc ua ul uc hres2 hgl2 hul2)
      have HZ := hide (And.intro p1 (And.intro tg (And.intro tu hbw)))
      clear hres hres2 p1 tg tu hbw hne hgl2 hul2
      go_wp2
      obtain ⟨z1, z2, z3, z4⟩ := unhide HZ
      exact ⟨rfl, unhide HF _ _ _ _ _ _ _ _ _ _ _ _ _ _ _ _ _ _ _ _ _ _ _ _ _ _ _ _ _ _ _ _ _ _ _ _ _ _ _ _ _ _ _ _ _ _ _ _ _ _ _ _ _ _ _ _ _ _ _ _ _ _ _ _ _ _ _ _ _ _ _ _ _ _ _ _ _ _ _ _ _ _ _ _ _ _ _ _ _ _ _ _ _ _ _ _ _ _ _ _ _ _ _ _ _ _ _ wr z1 z2 z3 z4⟩
end Go.Proofs.YtkablmjkffdloaaGreatDoor

namespace Go.Proofs.YtkablmjkffdloaaGreatDoor
open Go.RowKit

def ROpnSaid (base : Nat) (s : Bs) (ks : List Ky) (e : Ending) (w' : World) : Prop :=
  (∃ E : Int, E ≠ 0 ∧ openE s ks = E ∧ e = .returned (.tuple #[.agg #[.string ⟨#[]⟩, .slice none 0 0, .slice none 0 0], .int .i64 E])) ∨
  ∃ T L g u ga gc ua uc, splitR s = some (T, L) ∧ L.length ≤ 8 ∧ chk T ks [] [] [] L = (0, g, u) ∧ g ≠ [] ∧ e = .returned (.tuple #[.agg #[.string (ba T), .slice ga g.length gc, .slice ua u.length uc], .int .i64 0]) ∧ TOwn base w' (.slice ga g.length gc) g ∧ TOwn base w' (.slice ua u.length uc) u

set_option maxRecDepth 100000 in
set_option maxHeartbeats 8000000 in
theorem refOpen_any {w : World} {s : Bs} {ts : List Wk} {a : Option Addr} {n c : Nat} (hl : s.length ≤ 131072) (hn : ts.length = n) (hN : n ≤ 1000) (hgd : ∀ t ∈ ts, goodB t.nm t.sec = true) (hb : ∀ t ∈ ts, BAt w t.a t.sec) (h : PRow w a ts) :
    Calls Tryz.prog 58 #[.string (ba s), .slice a n c] w fun e w' => ROpnSaid w.heap.size s (ts.map kyOf) e w' ∧ Below w.heap.size w w' := by
  obtain ⟨sn, hsn⟩ : ∃ sn, s.length = sn := ⟨_, rfl⟩
  have hsz : (ba s).size = sn := by rw [ba_size]; exact hsn
  have hi1 : ¬ (131072 : Int) < (sn : Int) := by omega
  have hsn2 : sn ≤ 131072 := by omega
  obtain ⟨sf, hsf⟩ : ∃ sf, Lib.hasSuffix s [10] = sf := ⟨_, rfl⟩
  have KE : Hid (∀ W, Calls Tryz.prog 113 #[.string (ba s), .string ⟨#[10]⟩] W fun e w' => e = .returned (.bool sf) ∧ w' = W) := hide (fun W => by have k := ends10_any (l := s) (by omega) W; rw [hsf] at k; exact k)
  obtain ⟨A, hA⟩ : ∃ A, w.heap.size = A := ⟨_, rfl⟩
  obtain ⟨W1, hW1⟩ : ∃ W1, w.alloc (.cells #[.string ⟨#[]⟩, .slice none 0 0, .slice none 0 0] 82) = W1 := ⟨_, rfl⟩
  have b1 : Below w.heap.size w W1 := by rw [← hW1]; exact lowA (Below.refl _ _) _
  have q1 : Blk W1 A #[.string ⟨#[]⟩, .slice none 0 0, .slice none 0 0] 82 := by rw [← hW1, ← hA]; exact Blk.new _ _ _
  have HQ1 := hide q1
  have HB1 := hide b1
  have HW1 := hide hW1
  have HA := hide hA
  have HN := hide hn
  have HGD := hide hgd
  have HBT := hide hb
  have HH := hide h
  clear hn hgd hb h b1 q1 hW1 hA
  cases sf with
  | false =>
    have HF : Hid (openE s (ts.map kyOf) = 15) := hide (by unfold openE; rw [suffix_none hsf])
    have p0 := unhide HQ1
    have r0 := p0.cell 0
    have r1 := p0.cell 1
    have r2 := p0.cell 2
    have f0 := p0.free 0
    have f1 := p0.free 1
    have f2 := p0.free 2
    have qs := ((p0.set 0 (.string ⟨#[]⟩)).set 1 (.slice none 0 0)).set 2 (.slice none 0 0)
    have d0 := qs.cell 0
    have d1 := qs.cell 1
    have d2 := qs.cell 2
    have HZ : Hid (Below w.heap.size w (((W1.setCell ⟨A, 0, none⟩ (.string ⟨#[]⟩)).setCell ⟨A, 1, none⟩ (.slice none 0 0)).setCell ⟨A, 2, none⟩ (.slice none 0 0))) := hide (low_put3 (unhide HB1) (by rw [unhide HA]; exact Nat.le_refl _))
    clear p0 qs hsf hl hsn
    go_enter Tryz.func58, Tryz.ntmps58
    go_wp2_with (go_at_call 113; fail)
    rw [unhide HW1, unhide HA]
    refine (unhide KE _).mono ?_
    rintro e wn ⟨rfl, hwn⟩
    rw [hwn]
    clear hwn wn
    go_wp2
    exact bodyPost_ret (v := .tuple #[.agg #[.string ⟨#[]⟩, .slice none 0 0, .slice none 0 0], .int .i64 15]) (by simp [results, Tryz.results58, go_sem, d0, d1, d2]) rfl ⟨Or.inl ⟨15, by decide, unhide HF, rfl⟩, unhide HZ⟩
  | true =>
    obtain ⟨s0, hs0⟩ : ∃ s0, s = s0 ++ [10] := by
      unfold Lib.hasSuffix at hsf
      rw [List.isSuffixOf_iff_suffix] at hsf
      obtain ⟨s0, e⟩ := hsf
      exact ⟨s0, e.symm⟩
    have hs0l : s0.length + 1 = sn := by rw [← hsn, hs0]; simp
    obtain ⟨m0, hm0⟩ : ∃ m0, s0.length = m0 := ⟨_, rfl⟩
    have x1 : (ba s).extract 0 m0 = ba s0 := by rw [sub_of, hs0, ← hm0]; simp
    have y1 : (sn : Int) - 1 = (m0 : Int) := by omega
    have y2 : IntKind.i64.wrap (m0 : Int) = (m0 : Int) := by rw [IntKind.wrap_i64]; omega
    have y3 : (m0 : Int) ≤ (sn : Int) := by omega
    have y4 : m0 ≤ sn := by omega
    have KC : Hid (Calls Tryz.prog 100 #[.string (ba s0), .int .u8 10] W1 fun e w' => ∃ B cp, e = .returned (.slice (some ⟨B, 0, none⟩) (pieces 10 s0).length cp) ∧ Texts w' B (pieces 10 s0) ∧ (B < w'.heap.size ∧ W1.heap.size ≤ B) ∧ Below W1.heap.size W1 w') := hide (refCut_any 10 (by omega) W1)
    have hps := pieces_short 10 s0
    have hpc := pieces_count s0
    obtain ⟨P, hP⟩ : ∃ P, pieces 10 s0 = P := ⟨_, rfl⟩
    rw [hP] at KC hps hpc
    obtain ⟨k, hk⟩ : ∃ k, P.length = k := ⟨_, rfl⟩
    rw [hk] at KC
    have hk1 : 1 ≤ k := by rw [← hk, ← hP]; cases hh : pieces 10 s0 with
      | nil => exact absurd hh (pieces_ne _ _)
      | cons _ _ => simp
    have hk2 : k ≤ 131073 := by omega
    have HPS : Hid (∀ p ∈ P, p.length ≤ 200000) := hide (fun p hp => by have := hps p hp; omega)
    have HP := hide hP
    have HK := hide hk
    have HS0 := hide hs0
    have HM0 := hide hm0
    clear hsf hl hsn hs0 hs0l hm0 hps hP hk hpc
    go_enter Tryz.func58, Tryz.ntmps58
    go_wp2_with (go_at_call 113; fail)
    rw [unhide HW1, unhide HA]
    refine (unhide KE _).mono ?_
    rintro e wn ⟨rfl, hwn⟩
    rw [hwn]
    clear hwn wn
    go_wp2_with (go_at_call 100; fail)
    refine (unhide KC).mono ?_
    rintro e w2 ⟨B, cp, rfl, tx, -, b2⟩
    have HTX := hide tx
    have HB2 := hide b2
    clear tx b2 KC
    go_wp2
    go_loopw [7, 8, 9, 10] (fun v7 _ _ _ wr => ∃ (U V : List Bs) (qq : Nat), U ++ V = P ∧ U.length = qq ∧ v7 = .int .i64 (qq : Int) ∧ Hid (∀ v ∈ V, (lineR v).isSome = true) ∧ Below w2.heap.size w2 wr) (fun v7 _ _ _ _ => (intOf v7).toNat)
    case atStart => exact ⟨P, [], k, by simp, unhide HK, rfl, hide (by simp), Below.refl _ _⟩
    case round =>
      rename World => wr
      obtain ⟨U, V, at1, hUV, hU1, rfl, hV, hbw⟩ := hrel
      have b12 := low_trans (unhide HB2) hbw
      have HB12 := hide b12
      have HTW := hide ((unhide HTX).low hbw)
      have hUVl : U.length + V.length = k := by rw [← unhide HK, ← hUV, List.length_append]
      rcases List.eq_nil_or_concat U with rfl | ⟨U', x, rfl⟩
      · have HF : Hid (openE s (ts.map kyOf) = 15) := hide (by
          unfold openE
          rw [unhide HS0, split_all (fun v hv => unhide hV v (by
            rw [unhide HP, ← hUV] at hv
            simpa using hv))])
        have i1 : ((0 : Int) == (k : Int)) = false := by simp; omega
        have ha0 : at1 = 0 := by simpa using hU1.symm
        subst ha0
        clear hUV hV hbw hUVl hU1
        have p0 := (unhide HQ1).low (unhide HB12)
        have r0 := p0.cell 0
        have r1 := p0.cell 1
        have r2 := p0.cell 2
        have f0 := p0.free 0
        have f1 := p0.free 1
        have f2 := p0.free 2
        have qs := ((p0.set 0 (.string ⟨#[]⟩)).set 1 (.slice none 0 0)).set 2 (.slice none 0 0)
        have d0 := qs.cell 0
        have d1 := qs.cell 1
        have d2 := qs.cell 2
        have HZ : Hid (Below w.heap.size w (((wr.setCell ⟨A, 0, none⟩ (.string ⟨#[]⟩)).setCell ⟨A, 1, none⟩ (.slice none 0 0)).setCell ⟨A, 2, none⟩ (.slice none 0 0))) := hide (low_put3 (low_trans (unhide HB1) (unhide HB12)) (by rw [unhide HA]; exact Nat.le_refl _))
        clear p0 qs b12
        go_wp2
        exact bodyPost_ret (v := .tuple #[.agg #[.string ⟨#[]⟩, .slice none 0 0, .slice none 0 0], .int .i64 15]) (by simp [results, Tryz.results58, go_sem, d0, d1, d2]) rfl ⟨Or.inl ⟨15, by decide, unhide HF, rfl⟩, unhide HZ⟩
      · have hxl : x.length ≤ 200000 := unhide HPS x (by rw [← hUV]; simp)
        have hcx : wr.cell? ⟨B, U'.length, none⟩ = some (.string (ba x)) := by
          have h1 : U'.length < P.length := by rw [← hUV]; simp
          have h2 := (unhide HTW) U'.length h1
          have h3 : P[U'.length] = x := by simp [← hUV]
          rw [h3] at h2
          exact h2
        obtain ⟨ul, hul⟩ : ∃ ul, U'.length = ul := ⟨_, rfl⟩
        rw [hul] at hcx
        have hat1 : ul + 1 = at1 := by rw [← hU1, ← hul]; simp
        have j1 : (at1 : Int) - 1 = (ul : Int) := by omega
        have j2 : IntKind.i64.wrap (ul : Int) = (ul : Int) := by rw [IntKind.wrap_i64]; omega
        have j3 : (ul : Int) < (k : Int) := by omega
        have j4 : ul < k := by omega
        have j5 : (0 : Int) < (at1 : Int) := by omega
        have KM := hide (mark_any (w := wr) hxl)
        have HUV := hide hUV
        have HUL := hide hul
        have HAT := hide hat1
        have HUVL := hide hUVl
        have HHV := hide (unhide hV)
        have HBW := hide hbw
        clear hUV hV hbw hUVl hxl hul hat1 hU1 b12
        go_wp2_with (go_at_call 114; fail)
        refine (unhide KM).mono ?_
        rintro e w3 ⟨hms, b3⟩
        have HB3 := hide (low_trans (unhide HBW) b3)
        have HB13 := hide (low_trans (unhide HB12) b3)
        clear KM
        rcases hms with ⟨hno, t, xa, xn, xc, rfl⟩ | ⟨nm, b, g, bn, bc, hyes, -, rfl, -⟩
        · have hP2 : pieces 10 s0 = U' ++ x :: V := by rw [unhide HP, ← unhide HUV]; simp
          have hkk : ul + 1 + V.length = k := by have h1 := unhide HUVL; simp at h1; have := unhide HUL; omega
          have hcx3 : w3.cell? ⟨B, ul, none⟩ = some (.string (ba x)) := (b3.cell (lt_of_cell hcx)).trans hcx
          by_cases hbad : V = [] ∨ U' = [] ∨ x ≠ []
          · have HF : Hid (openE s (ts.map kyOf) = 15) := hide (by
              unfold openE
              rw [unhide HS0, split_no hP2 hno (unhide HHV) hbad])
            by_cases c1 : V = []
            · have i1 : ((at1 : Int) == (k : Int)) = true := by rw [c1] at hkk; have := unhide HAT; simp at hkk ⊢; omega
              clear hno hP2 hkk hbad c1 hcx
              have p0 := (unhide HQ1).low (unhide HB13)
              have r0 := p0.cell 0
              have r1 := p0.cell 1
              have r2 := p0.cell 2
              have f0 := p0.free 0
              have f1 := p0.free 1
              have f2 := p0.free 2
              have qs := ((p0.set 0 (.string ⟨#[]⟩)).set 1 (.slice none 0 0)).set 2 (.slice none 0 0)
              have d0 := qs.cell 0
              have d1 := qs.cell 1
              have d2 := qs.cell 2
              have HZ : Hid (Below w.heap.size w (((w3.setCell ⟨A, 0, none⟩ (.string ⟨#[]⟩)).setCell ⟨A, 1, none⟩ (.slice none 0 0)).setCell ⟨A, 2, none⟩ (.slice none 0 0))) := hide (low_put3 (low_trans (unhide HB1) (unhide HB13)) (by rw [unhide HA]; exact Nat.le_refl _))
              clear p0 qs b3
              go_wp2
              exact bodyPost_ret (v := .tuple #[.agg #[.string ⟨#[]⟩, .slice none 0 0, .slice none 0 0], .int .i64 15]) (by simp [results, Tryz.results58, go_sem, d0, d1, d2]) rfl ⟨Or.inl ⟨15, by decide, unhide HF, rfl⟩, unhide HZ⟩
            · have hvl : 1 ≤ V.length := by
                cases V with
                | nil => exact absurd rfl c1
                | cons _ _ => simp
              have i1 : ((at1 : Int) == (k : Int)) = false := by have := unhide HAT; simp; omega
              by_cases c2 : U' = []
              · have i2 : (at1 : Int) < 2 := by have h1 := unhide HUL; rw [c2] at h1; have := unhide HAT; simp at h1; omega
                clear hno hP2 hkk hbad c1 c2 hcx hvl
                have p0 := (unhide HQ1).low (unhide HB13)
                have r0 := p0.cell 0
                have r1 := p0.cell 1
                have r2 := p0.cell 2
                have f0 := p0.free 0
                have f1 := p0.free 1
                have f2 := p0.free 2
                have qs := ((p0.set 0 (.string ⟨#[]⟩)).set 1 (.slice none 0 0)).set 2 (.slice none 0 0)
                have d0 := qs.cell 0
                have d1 := qs.cell 1
                have d2 := qs.cell 2
                have HZ : Hid (Below w.heap.size w (((w3.setCell ⟨A, 0, none⟩ (.string ⟨#[]⟩)).setCell ⟨A, 1, none⟩ (.slice none 0 0)).setCell ⟨A, 2, none⟩ (.slice none 0 0))) := hide (low_put3 (low_trans (unhide HB1) (unhide HB13)) (by rw [unhide HA]; exact Nat.le_refl _))
                clear p0 qs b3
                go_wp2
                exact bodyPost_ret (v := .tuple #[.agg #[.string ⟨#[]⟩, .slice none 0 0, .slice none 0 0], .int .i64 15]) (by simp [results, Tryz.results58, go_sem, d0, d1, d2]) rfl ⟨Or.inl ⟨15, by decide, unhide HF, rfl⟩, unhide HZ⟩
              · have hul2 : 1 ≤ ul := by
                  rw [← unhide HUL]
                  cases U' with
                  | nil => exact absurd rfl c2
                  | cons _ _ => simp
                have i2 : ¬ (at1 : Int) < 2 := by have := unhide HAT; omega
                have c3 : x ≠ [] := by
                  rcases hbad with h | h | h
                  · exact absurd h c1
                  · exact absurd h c2
                  · exact h
                have i3 : ((ba x).toList != []) = true := by
                  rw [Lib.toList_data, ba_data]
                  simpa using c3
                have i4 : ((ba x).toList == []) = false := by
                  rw [Lib.toList_data, ba_data]
                  simpa using c3
                clear hno hP2 hkk hbad c1 c2 c3 hcx hvl hul2
                have p0 := (unhide HQ1).low (unhide HB13)
                have r0 := p0.cell 0
                have r1 := p0.cell 1
                have r2 := p0.cell 2
                have f0 := p0.free 0
                have f1 := p0.free 1
                have f2 := p0.free 2
                have qs := ((p0.set 0 (.string ⟨#[]⟩)).set 1 (.slice none 0 0)).set 2 (.slice none 0 0)
                have d0 := qs.cell 0
                have d1 := qs.cell 1
                have d2 := qs.cell 2
                have HZ : Hid (Below w.heap.size w (((w3.setCell ⟨A, 0, none⟩ (.string ⟨#[]⟩)).setCell ⟨A, 1, none⟩ (.slice none 0 0)).setCell ⟨A, 2, none⟩ (.slice none 0 0))) := hide (low_put3 (low_trans (unhide HB1) (unhide HB13)) (by rw [unhide HA]; exact Nat.le_refl _))
                clear p0 qs b3
                go_wp2
                exact bodyPost_ret (v := .tuple #[.agg #[.string ⟨#[]⟩, .slice none 0 0, .slice none 0 0], .int .i64 15]) (by simp [results, Tryz.results58, go_sem, d0, d1, d2]) rfl ⟨Or.inl ⟨15, by decide, unhide HF, rfl⟩, unhide HZ⟩
          · have hb2 : V ≠ [] ∧ U' ≠ [] ∧ x = [] := by
              refine ⟨fun e => hbad (Or.inl e), fun e => hbad (Or.inr (Or.inl e)), ?_⟩
              by_cases e : x = []
              · exact e
              · exact absurd (Or.inr (Or.inr e)) hbad
            obtain ⟨hV0, hU0, rfl⟩ := hb2
            have hsy := split_yes (s0 := s0) (A := U') (V := V) (by rw [hP2]; simp) hU0 hV0 (unhide HHV)
            rw [← unhide HS0] at hsy
            obtain ⟨LL, hLL⟩ := mapL_all V (unhide HHV)
            rw [hLL] at hsy
            have HSY := hide hsy
            have HLL := hide hLL
            obtain ⟨vl, hvl⟩ : ∃ vl, V.length = vl := ⟨_, rfl⟩
            have hvl1 : 1 ≤ vl := by
              rw [← hvl]
              cases V with
              | nil => exact absurd rfl hV0
              | cons _ _ => simp
            have hul2 : 1 ≤ ul := by
              rw [← unhide HUL]
              cases U' with
              | nil => exact absurd rfl hU0
              | cons _ _ => simp
            have i1 : ((at1 : Int) == (k : Int)) = false := by have := unhide HAT; simp; omega
            have i2 : ¬ (at1 : Int) < 2 := by have := unhide HAT; omega
            have i3 : ((ba ([] : Bs)).toList != []) = false := by rw [Lib.toList_data, ba_data]; rfl
            have i4 : ((ba ([] : Bs)).toList == []) = true := by rw [Lib.toList_data, ba_data]; rfl
            have HVL := hide hvl
            have HKK := hide hkk
            have hkv : ul + 1 + vl = k := by rw [← hvl]; exact hkk
            have HJL : Hid ((joinL U').length ≤ 131073) := hide (by
              have h1 := join_pieces s0
              rw [hP2, joinL_app] at h1
              have h2 := congrArg List.length h1
              rw [List.length_append, List.length_append, unhide HM0] at h2
              simp at h2
              omega)
            clear hbad hno hP2 hsy hLL hvl hkk hcx hV0 hU0 b3
            go_wp2
            go_loopw [11, 12] (fun v11 v12 wr => ∃ (i : Nat) (tx : Bs), i ≤ ul ∧ v12 = .int .i64 (i : Int) ∧ v11 = .string (ba tx) ∧ Hid (joinL (U'.take i) = tx) ∧ Below w3.heap.size w3 wr) (fun _ v12 _ => ul - (intOf v12).toNat)
            case atStart => exact ⟨0, [], Nat.zero_le _, rfl, rfl, hide (by simp [joinL]), Below.refl _ _⟩
            case round =>
              rename World => wr4
              obtain ⟨i, tx, hi, rfl, rfl, htx, hb4⟩ := hrel
              by_cases hlt : i < ul
              · have hlt' : (i : Int) < (ul : Int) := by omega
                have hiu : i < U'.length := by rw [unhide HUL]; exact hlt
                have hiP : i < P.length := by rw [unhide HK]; omega
                have hik : (i : Int) < (k : Int) := by omega
                have c0 := ((unhide HTX).low (low_trans (unhide HB3) hb4)) i hiP
                have hPi : P[i] = U'[i] := by
                  have h1 : P[i]? = U'[i]? := by
                    rw [← unhide HUV]
                    simp only [List.concat_eq_append, List.append_assoc]
                    rw [List.getElem?_append_left hiu]
                  rw [List.getElem?_eq_getElem hiP, List.getElem?_eq_getElem hiu] at h1
                  exact Option.some.inj h1
                rw [hPi] at c0
                have hlz : U'[i].length ≤ 200000 := unhide HPS _ (by rw [← hPi]; exact List.getElem_mem hiP)
                have htk := take_snoc hiu
                obtain ⟨li, hli⟩ : ∃ li, U'[i] = li := ⟨_, rfl⟩
                rw [hli] at c0 hlz htk
                have htl : tx.length ≤ 131073 := by
                  rw [← unhide htx]
                  have h1 := unhide HJL
                  have h2 : joinL U' = joinL (U'.take i) ++ joinL (U'.drop i) := by rw [← joinL_app, List.take_append_drop]
                  rw [h2, List.length_append] at h1
                  omega
                obtain ⟨t1, ht1⟩ : ∃ t1, tx ++ li = t1 := ⟨_, rfl⟩
                obtain ⟨t2, ht2⟩ : ∃ t2, t1 ++ [10] = t2 := ⟨_, rfl⟩
                have e1 : ba tx ++ ba li = ba t1 := by rw [← ht1]; exact cat _ _
                have e2 : ba t1 ++ (⟨#[10]⟩ : ByteArray) = ba t2 := by rw [← ht2]; exact cat _ [10]
                obtain ⟨z0, hz0⟩ : ∃ z, (ba tx).size = z := ⟨_, rfl⟩
                obtain ⟨z1, hz1⟩ : ∃ z, (ba li).size = z := ⟨_, rfl⟩
                obtain ⟨z2, hz2⟩ : ∃ z, (ba t1).size = z := ⟨_, rfl⟩
                have n0 : ¬ 9223372036854775807 < z0 + z1 := by rw [← hz0, ← hz1, ba_size, ba_size]; omega
                have n1 : ¬ 9223372036854775807 < z2 + 1 := by rw [← hz2, ba_size, ← ht1, List.length_append]; omega
                have HF : Hid (joinL (U'.take (i + 1)) = t2) := hide (by
                  rw [htk, joinL_app, unhide htx, ← ht2, ← ht1]
                  simp [joinL])
                have HB4 := hide hb4
                clear htx hb4 hPi hlz htk hli htl ht1 ht2 hiu hiP
                go_wp2
                go_roundw
                case rel => exact ⟨i + 1, t2, hlt, by push_cast; rfl, rfl, HF, unhide HB4⟩
                case measure => simp [intOf]; omega
              · have hie : i = ul := by omega
                subst hie
                have htx2 : joinL U' = tx := by
                  have h1 := unhide htx
                  rw [List.take_of_length_le (by rw [unhide HUL]; exact Nat.le_refl _)] at h1
                  exact h1
                have htl : tx.length ≤ 1000000 := by have h1 := unhide HJL; rw [htx2] at h1; omega
                obtain ⟨tb, htb⟩ : ∃ tb, textB tx = tb := ⟨_, rfl⟩
                have KB : Hid (∀ W, Calls Tryz.prog 115 #[.string (ba tx)] W fun e w' => e = .returned (.bool tb) ∧ w' = W) := hide (fun W => by have kk := refBody_any (l := tx) htl W; rw [htb] at kk; exact kk)
                have hsp : splitR s = if tb = true then some (tx, LL) else none := by
                  have h1 := unhide HSY
                  rw [htx2, htb] at h1
                  exact h1
                have HSP := hide hsp
                have HB14 := hide (low_trans (unhide HB13) hb4)
                have HB24 := hide (low_trans (unhide HB3) hb4)
                have HB34 := hide (low_trans (unhide HB3) hb4)
                have HTL := hide htl
                clear htx htx2 htb hsp hb4 htl
                cases tb with
                | false =>
                  have HF : Hid (openE s (ts.map kyOf) = 15) := hide (by unfold openE; rw [unhide HSP]; rfl)
                  have p0 := (unhide HQ1).low (unhide HB14)
                  have r0 := p0.cell 0
                  have r1 := p0.cell 1
                  have r2 := p0.cell 2
                  have f0 := p0.free 0
                  have f1 := p0.free 1
                  have f2 := p0.free 2
                  have qs := ((p0.set 0 (.string ⟨#[]⟩)).set 1 (.slice none 0 0)).set 2 (.slice none 0 0)
                  have d0 := qs.cell 0
                  have d1 := qs.cell 1
                  have d2 := qs.cell 2
                  have HZ : Hid (Below w.heap.size w (((wr4.setCell ⟨A, 0, none⟩ (.string ⟨#[]⟩)).setCell ⟨A, 1, none⟩ (.slice none 0 0)).setCell ⟨A, 2, none⟩ (.slice none 0 0))) := hide (low_put3 (low_trans (unhide HB1) (unhide HB14)) (by rw [unhide HA]; exact Nat.le_refl _))
                  clear p0 qs 
                  go_wp2_with (go_at_call 115; refine (unhide KB _).mono ?_; rintro e wn ⟨rfl, hwn⟩; rw [hwn]; clear hwn wn)
                  exact bodyPost_ret (v := .tuple #[.agg #[.string ⟨#[]⟩, .slice none 0 0, .slice none 0 0], .int .i64 15]) (by simp [results, Tryz.results58, go_sem, d0, d1, d2]) rfl ⟨Or.inl ⟨15, by decide, unhide HF, rfl⟩, unhide HZ⟩
                | true =>
                  have hkv2 : (k : Int) - (at1 : Int) = (vl : Int) := by have := unhide HAT; omega
                  have hkv3 : IntKind.i64.wrap (vl : Int) = (vl : Int) := by rw [IntKind.wrap_i64]; omega
                  have hLl : LL.length = vl := by rw [mapL_len V LL (unhide HLL)]; exact unhide HVL
                  by_cases h8 : 8 < vl
                  · have i8 : (8 : Int) < (vl : Int) := by omega
                    have HF : Hid (openE s (ts.map kyOf) = 14) := hide (by unfold openE; rw [unhide HSP]; simp only [if_true]; rw [if_pos (by omega)])
                    have p0 := (unhide HQ1).low (unhide HB14)
                    have r0 := p0.cell 0
                    have r1 := p0.cell 1
                    have r2 := p0.cell 2
                    have f0 := p0.free 0
                    have f1 := p0.free 1
                    have f2 := p0.free 2
                    have qs := ((p0.set 0 (.string ⟨#[]⟩)).set 1 (.slice none 0 0)).set 2 (.slice none 0 0)
                    have d0 := qs.cell 0
                    have d1 := qs.cell 1
                    have d2 := qs.cell 2
                    have HZ : Hid (Below w.heap.size w (((wr4.setCell ⟨A, 0, none⟩ (.string ⟨#[]⟩)).setCell ⟨A, 1, none⟩ (.slice none 0 0)).setCell ⟨A, 2, none⟩ (.slice none 0 0))) := hide (low_put3 (low_trans (unhide HB1) (unhide HB14)) (by rw [unhide HA]; exact Nat.le_refl _))
                    clear p0 qs 
                    go_wp2_with (go_at_call 115; refine (unhide KB _).mono ?_; rintro e wn ⟨rfl, hwn⟩; rw [hwn]; clear hwn wn)
                    exact bodyPost_ret (v := .tuple #[.agg #[.string ⟨#[]⟩, .slice none 0 0, .slice none 0 0], .int .i64 14]) (by simp [results, Tryz.results58, go_sem, d0, d1, d2]) rfl ⟨Or.inl ⟨14, by decide, unhide HF, rfl⟩, unhide HZ⟩
                  · have i8 : ¬ (8 : Int) < (vl : Int) := by omega
                    have HLL8 := hide hLl
                    clear hLl
                    go_wp2_with (go_at_call 115; refine (unhide KB _).mono ?_; rintro e wn ⟨rfl, hwn⟩; rw [hwn]; clear hwn wn)
                    obtain ⟨G, hG⟩ : ∃ G, wr4.heap.size = G := ⟨_, rfl⟩
                    obtain ⟨W5, hW5⟩ : ∃ W5, wr4.alloc (.cells #[.string (ba tx), .slice none 0 0, .slice none 0 0] 82) = W5 := ⟨_, rfl⟩
                    have b5 : Below wr4.heap.size wr4 W5 := by rw [← hW5]; exact lowA (Below.refl _ _) _
                    have q5 : Blk W5 G #[.string (ba tx), .slice none 0 0, .slice none 0 0] 82 := by rw [← hW5, ← hG]; exact Blk.new _ _ _
                    have pA := (unhide HQ1).low (unhide HB14)
                    have hAl : w.heap.size ≤ A := by rw [unhide HA]; exact Nat.le_refl _
                    have hAG : A < G := by rw [← hG]; exact pA.lt
                    have b0r := low_trans (unhide HB1) (unhide HB14)
                    have hLA : LinesAt wr4 B at1 V := fun j hj => by
                      have hjP : at1 + j < P.length := by rw [unhide HK]; have := unhide HVL; omega
                      have h1 := ((unhide HTX).low (unhide HB24)) (at1 + j) hjP
                      have h2 : P[at1 + j] = V[j] := by
                        have h3 : P = (U' ++ [[]]) ++ V := by rw [← unhide HUV]; simp
                        have h4 : (U' ++ [([] : Bs)]).length = at1 := by rw [List.length_append, unhide HUL]; exact unhide HAT
                        have h5 : P[at1 + j]? = V[j]? := by
                          rw [h3, List.getElem?_append_right (by omega), h4]
                          congr 1
                          omega
                        rw [List.getElem?_eq_getElem hjP, List.getElem?_eq_getElem hj] at h5
                        exact Option.some.inj h5
                      rw [h2] at h1
                      exact h1
                    have hVS : ∀ v ∈ V, v.length ≤ 200000 := fun v hv => unhide HPS v (by rw [← unhide HUV]; simp [hv])
                    have hGS : ∀ t ∈ ts, t.nm.length ≤ 50 ∧ t.sec.length ≤ 64 := fun t ht => good_len (unhide HGD t ht)
                    have hak : at1 + vl = k := by have := unhide HAT; omega
                    have hk9 : k ≤ 200000 := by omega
                    have hHL : tx.length ≤ 1000000 := unhide HTL
                    have hsp : splitR s = some (tx, LL) := by have h1 := unhide HSP; simpa using h1
                    have hoE : openE s (ts.map kyOf) = (chk tx (ts.map kyOf) [] [] [] LL).1 := by
                      unfold openE
                      rw [hsp]
                      simp only
                      rw [if_neg (by have := unhide HLL8; omega)]
                    have HLA := hide hLA
                    have HVS := hide hVS
                    have HGS := hide hGS
                    have HSPL := hide hsp
                    have HOE := hide hoE
                    have HB0R := hide b0r
                    have HPA := hide pA
                    have HB5 := hide b5
                    have HQ5 := hide q5
                    have HG := hide hG
                    have HW5 := hide hW5
                    clear b5 q5 hG hW5 pA b0r hLA hVS hGS hsp hoE
                    go_wp2
                    rw [unhide HW5, unhide HG]
                    refine useOut 4 (fun e w' => ROpnSaid w.heap.size s (ts.map kyOf) e w' ∧ Below w.heap.size w w') (fun _ _ h => h) (marks_any (w0 := w) (wb := wr4) (ts := ts) (LL := LL) (V := V) (RES := chk tx (ts.map kyOf) [] [] [] LL) (unhide HLA) (unhide HLL) (unhide HVS) (unhide HVL) hak hk9 hHL (unhide HN) hN (unhide HGS) (fun t ht => (unhide HBT t ht).low (unhide HB0R)) ((unhide HH).low (unhide HB0R)) (unhide HPA) hAl (unhide HB0R) (by rw [unhide HG]; exact Nat.le_refl _) (unhide HQ5) (unhide HB5) rfl ?_ ?_)
                    · intro E hE hres w' hw'
                      exact ⟨Or.inl ⟨E, hE, by rw [unhide HOE, hres], rfl⟩, hw'⟩
                    · intro gg uu ga gl gc ua ul uc hres hgl hul2 d5 d16 d17 d18 d19 d20 d21 d22 d23 d24 d25 d102 d103 d104 d105 d106 d107 d108 d109 d110 d111 d112 d113 d114 d115 d116 d117 d118 d119 d120 d121 d122 d123 d124 d125 d126 d127 d128 d129 d130 d131 d132 d133 d134 d135 d136 d137 d138 d139 d140 d141 d142 d143 d144 d145 d146 d147 d148 d149 d150 d151 d152 d153 d154 d155 d156 d157 d158 d159 d160 d161 d162 d163 d164 d165 d166 d167 d168 d169 d170 d171 d172 d173 d174 d175 d176 d177 d178 d179 d180 d181 d182 d183 d184 d185 d186 d187 d188 d189 d190 d191 d192 d193 d194 d195 d196 d197 w6 p6 tg tu hb6
                      have hbw6 := low_trans (unhide HB0R) hb6
                      have p0 := (unhide HPA).low hb6
                      have u0 := p6.cell 0
                      have u1 := p6.cell 1
                      have u2 := p6.cell 2
                      cases gg with
                      | nil =>
                        rw [if_pos rfl] at hres
                        have HF : Hid (openE s (ts.map kyOf) = 20) := hide (by rw [unhide HOE, hres])
                        have hgl3 : ((gl : Int) == 0) = true := by rw [← hgl]; rfl
                        have r0 := p0.cell 0
                        have r1 := p0.cell 1
                        have r2 := p0.cell 2
                        have f0 := p0.free 0
                        have f1 := p0.free 1
                        have f2 := p0.free 2
                        have qs := ((p0.set 0 (.string ⟨#[]⟩)).set 1 (.slice none 0 0)).set 2 (.slice none 0 0)
                        have d0 := qs.cell 0
                        have d1 := qs.cell 1
                        have d2 := qs.cell 2
                        have HZ : Hid (Below w.heap.size w (((w6.setCell ⟨A, 0, none⟩ (.string ⟨#[]⟩)).setCell ⟨A, 1, none⟩ (.slice none 0 0)).setCell ⟨A, 2, none⟩ (.slice none 0 0))) := hide (low_put3 hbw6 (by rw [unhide HA]; exact Nat.le_refl _))
                        clear p0 qs p6 tg tu hb6 hbw6 hres hgl hul2
                        go_wp2
                        exact bodyPost_ret (v := .tuple #[.agg #[.string ⟨#[]⟩, .slice none 0 0, .slice none 0 0], .int .i64 20]) (by simp [results, Tryz.results58, go_sem, d0, d1, d2]) rfl ⟨Or.inl ⟨20, by decide, unhide HF, rfl⟩, unhide HZ⟩
                      | cons g0 gr =>
                        rw [if_neg (by simp)] at hres
                        have HF := hide hres
                        have hgl3 : ((gl : Int) == 0) = false := by rw [← hgl]; simp; omega
                        have r0 := p0.cell 0
                        have r1 := p0.cell 1
                        have r2 := p0.cell 2
                        have f0 := p0.free 0
                        have f1 := p0.free 1
                        have f2 := p0.free 2
                        have qs := ((p0.set 0 (.string (ba tx))).set 1 (.slice ga gl gc)).set 2 (.slice ua ul uc)
                        have d0 := qs.cell 0
                        have d1 := qs.cell 1
                        have d2 := qs.cell 2
                        have HZ : Hid (Below w.heap.size w (((w6.setCell ⟨A, 0, none⟩ (.string (ba tx))).setCell ⟨A, 1, none⟩ (.slice ga gl gc)).setCell ⟨A, 2, none⟩ (.slice ua ul uc))) := hide (low_put3 hbw6 (by rw [unhide HA]; exact Nat.le_refl _))
                        have HG3 : Hid (TOwn w.heap.size (((w6.setCell ⟨A, 0, none⟩ (.string (ba tx))).setCell ⟨A, 1, none⟩ (.slice ga gl gc)).setCell ⟨A, 2, none⟩ (.slice ua ul uc)) (.slice ga gl gc) (g0 :: gr)) := hide (row_less (by omega) (TOwn.put (TOwn.put (TOwn.put tg (by omega)) (by omega)) (by omega)))
                        have HU3 : Hid (TOwn w.heap.size (((w6.setCell ⟨A, 0, none⟩ (.string (ba tx))).setCell ⟨A, 1, none⟩ (.slice ga gl gc)).setCell ⟨A, 2, none⟩ (.slice ua ul uc)) (.slice ua ul uc) uu) := hide (row_less (by omega) (TOwn.put (TOwn.put (TOwn.put tu (by omega)) (by omega)) (by omega)))
                        have HGL := hide hgl
                        have HUL2 := hide hul2
                        clear p0 qs p6 tg tu hb6 hbw6 hres hgl hul2
                        go_wp2
                        refine bodyPost_ret (v := .tuple #[.agg #[.string (ba tx), .slice ga gl gc, .slice ua ul uc], .int .i64 0]) (by simp [results, Tryz.results58, go_sem, d0, d1, d2]) rfl ⟨Or.inr ⟨tx, LL, g0 :: gr, uu, ga, gc, ua, uc, unhide HSPL, by have := unhide HLL8; omega, unhide HF, by simp, ?_, ?_, ?_⟩, unhide HZ⟩
                        · rw [unhide HGL, unhide HUL2]
                        · rw [unhide HGL]; exact unhide HG3
                        · rw [unhide HUL2]; exact unhide HU3
        · have HV2 : Hid (∀ v ∈ x :: V, (lineR v).isSome = true) := hide (fun v hv => by
            rcases List.mem_cons.1 hv with rfl | h
            · rw [hyes]; rfl
            · exact unhide HHV v h)
          clear hyes b3
          go_wp2
          go_roundw
          case rel => exact ⟨U', x :: V, ul, by rw [← unhide HUV]; simp, unhide HUL, rfl, HV2, unhide HB3⟩
          case measure => simp [intOf]; have := unhide HAT; have := unhide HUL; omega
end Go.Proofs.YtkablmjkffdloaaGreatDoor
