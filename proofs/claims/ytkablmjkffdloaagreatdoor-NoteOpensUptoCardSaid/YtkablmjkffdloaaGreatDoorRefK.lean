/-
  The reference's SHA-256 answers what the plain one says.
-/
import Derived.Test.YtkablmjkffdloaaGreatDoorRefJ
import Derived.Test.YtkablmjkffdloaaGreatDoorRefH
namespace Go.Proofs.YtkablmjkffdloaaGreatDoor
open Go.RowKit

theorem mixAll_cat : ∀ (i j : Nat) (s : St) (x y : Bs), x.length = 64 * i → mixAll (i + j) s (x ++ y) = mixAll j (mixAll i s x) y
  | 0, j, s, x, y, h => by
    have : x = [] := List.length_eq_zero_iff.1 (by omega)
    subst this
    simp [mixAll]
  | i + 1, j, s, x, y, h => by
    rw [show i + 1 + j = (i + j) + 1 by omega]
    show mixAll (i + j) (mix s ((x ++ y).take 64)) ((x ++ y).drop 64) = mixAll j (mixAll i (mix s (x.take 64)) (x.drop 64)) y
    rw [List.take_append_of_le_length (by omega), List.drop_append_of_le_length (by omega)]
    exact mixAll_cat i j _ _ _ (by rw [List.length_drop]; omega)

theorem pad_is (r : Bs) (n : Nat) : padL r n = r ++ (128 :: (List.replicate ((119 - r.length) % 64) 0 ++ be8 (n * 8))) := by
  unfold padL
  simp

/-- The whole text with what is laid behind it. -/
theorem sha_is (b : Bs) (z : Nat) (hz : z = (119 - b.length % 64) % 64) : ∃ q, (((b ++ [128]) ++ List.replicate z 0) ++ be8 (b.length * 8)).length = 64 * q ∧ shaL b = (stL (mixAll q st0 (((b ++ [128]) ++ List.replicate z 0) ++ be8 (b.length * 8)))).flatMap be4 := by
  obtain ⟨k, hk⟩ : ∃ k, b.length / 64 = k := ⟨_, rfl⟩
  have hr : (b.drop (k * 64)).length = b.length % 64 := by rw [List.length_drop]; omega
  have hM : (((b ++ [128]) ++ List.replicate z 0) ++ be8 (b.length * 8)) = b.take (k * 64) ++ padL (b.drop (k * 64)) b.length := by
    rw [pad_is, hr, ← hz, ← List.append_assoc (b.take (k * 64)), List.take_append_drop]
    simp
  have hx : (b.take (k * 64)).length = 64 * k := by rw [List.length_take]; omega
  obtain ⟨e, he, _⟩ := pad_length (b.drop (k * 64)) b.length (by rw [hr]; omega)
  refine ⟨k + e, ?_, ?_⟩
  · rw [hM, List.length_append, hx, he]; omega
  · rw [hM, mixAll_cat k e _ _ _ hx]
    unfold shaL
    simp only [hk]
    rw [he, Nat.mul_div_cancel_left _ (by decide)]
    have h2 := mixAll_cat k 0 st0 (b.take (k * 64)) (b.drop (k * 64)) hx
    rw [List.take_append_drop, Nat.add_zero] at h2
    rw [h2]
    rfl

theorem st0_cells : ((stL st0).map encW).toArray = #[.int .u32 1779033703, .int .u32 3144134277, .int .u32 1013904242, .int .u32 2773480762, .int .u32 1359893119, .int .u32 2600822924, .int .u32 528734635, .int .u32 1541459225] := by kernel_rfl

theorem made_words {w' : World} {base g : Nat} (h : w'.ownsRow base 39 1 (.slice (some ⟨g, 0, none⟩) 64 64) 64 (madeCells (Value.cells (.int .u32 0)) (64 * 1)).toList) : WBlk w' g (List.replicate 64 0) := by
  rcases h.2 with ⟨e, _⟩ | ⟨g', cap, cur, e, hb, hblk, hcap, hcm, hcs, hcur⟩
  · cases e
  · cases e
    have e1 : cur.toList = ((List.replicate 64 (0 : UInt32)).map encW) := by
      have hl : cur.toList.length ≤ 64 * 1 := by rw [Array.length_toList]; omega
      rw [List.take_of_length_le hl] at hcur
      rw [hcur]
      apply List.ext_getElem
      · simp [madeCells]
      · intro k h1 h2
        rw [List.getElem_map, List.getElem_replicate]
        simp [madeCells, Value.cells, encW, Nat.mod_one]
    have e2 : cur = ((List.replicate 64 (0 : UInt32)).map encW).toArray := by rw [← e1]
    show w'.heap[g]? = _
    rw [← e2]
    exact hblk

theorem own_block {B : Nat} {w : World} {v : Value} {l : Bs} (h : OwnB B w v l) (hl : 0 < l.length) : ∃ g c, v = .slice (some ⟨g, 0, none⟩) l.length c ∧ B ≤ g ∧ g < w.heap.size ∧ ∀ k (hk : k < l.length), w.cell? ⟨g, k, none⟩ = some (.int .u8 (l[k].toNat : Int)) := by
  obtain ⟨a, c, rfl, hb, _, _⟩ := OwnB.at h
  rcases hb.els with h0 | ⟨g, O, rfl, hc⟩
  · rw [h0] at hl; simp at hl
  · rcases h.2 with ⟨e, _⟩ | ⟨g', cap, cur, e, hB, hblk, _⟩
    · cases e
    · have e1 := (Value.slice.inj e).1
      cases e1
      exact ⟨g, c, rfl, hB, (Array.getElem?_eq_some_iff.1 hblk).1, fun k hk => by have := hc k hk; rwa [Nat.zero_add] at this⟩

set_option maxRecDepth 1000000 in
set_option maxHeartbeats 8000000 in
theorem refSha_any {w : World} {a : Option Addr} {n c : Nat} {b : Bs} (hn : b.length = n) (hN : n ≤ 1000000000) (h : BAt w a b) :
    Calls Tryz.prog 28 #[.slice a n c] w fun e w' => ∃ v, e = .returned v ∧ OwnB w.heap.size w' v (shaL b) ∧ Below w.heap.size w w' := by
  obtain ⟨i0, hi, hz0, hz1, hz2⟩ := info_parts info115
  obtain ⟨z, hz⟩ : ∃ z, (119 - b.length % 64) % 64 = z := ⟨_, rfl⟩
  obtain ⟨q, hMq, hsha⟩ := sha_is b z hz.symm
  have HSHA := hide hsha
  have HMQ := hide hMq
  have HZ := hide hz
  have HN := hide hn
  have H := hide h
  have HST := hide st0_cells
  clear hn h hz hMq hsha
  go_enter Tryz.func28, Tryz.ntmps28
  go_wp2_with (go_at_call 88; fail)
  refine (consts_any w).mono ?_
  rintro e w1 ⟨rfl, hw1⟩
  have kk1 : WBlk w1 w.heap.size kL := by rw [hw1]; exact Blk.new w _ 39
  have b1 : Below w.heap.size w w1 := by rw [hw1]; exact (Below.refl _ _).alloc (Nat.le_refl _) _
  have s1 : w1.heap.size = w.heap.size + 1 := by rw [hw1]; simp
  obtain ⟨W2, hW2⟩ : ∃ W2, w1.alloc (.cells #[.int .u32 1779033703, .int .u32 3144134277, .int .u32 1013904242, .int .u32 2773480762, .int .u32 1359893119, .int .u32 2600822924, .int .u32 528734635, .int .u32 1541459225] 39) = W2 := ⟨_, rfl⟩
  have b2 : Below w1.heap.size w1 W2 := by rw [← hW2]; exact (Below.refl _ _).alloc (Nat.le_refl _) _
  have kh2 : WBlk W2 w1.heap.size (stL st0) := by
    rw [← hW2]
    have := Blk.new w1 ((stL st0).map encW).toArray 39
    rw [unhide HST] at this
    show Blk _ _ _ _
    rw [unhide HST]
    exact this
  have kk2 : WBlk W2 w.heap.size kL := Blk.low kk1 b2
  have s2 : W2.heap.size = w1.heap.size + 1 := by rw [← hW2]; simp
  have hb2 := low_trans b1 b2
  have HBY := hide (bytes_any (c := c) (unhide HN) (by omega) ((unhide H).low hb2))
  have HW2 := hide hW2
  have HS1 := hide s1
  have HS2 := hide s2
  have HKK := hide kk2
  have HKH := hide kh2
  have HB2 := hide hb2
  clear hw1 kk1 b1 s1 hW2 b2 kh2 kk2 s2 hb2
  go_wp2_with (go_at_call 82; fail)
  rw [unhide HW2]
  refine (unhide HBY).mono ?_
  rintro e w3 ⟨v3, rfl, o3, b3⟩
  obtain ⟨W4, hW4⟩ : ∃ W4, w3.alloc (.cells #[.int .u8 128] 5) = W4 := ⟨_, rfl⟩
  obtain ⟨v5, w5, happ, o5, g5⟩ := app_byte (c := 128) (W1 := W4) o3 b3.size (by rw [unhide HN]; omega) hW4
  have hb5 : Below W2.heap.size W2 w5 := b3.trans (g5.low b3.size (OwnB.base o3))
  have HW4 := hide hW4
  have HO5 := hide o5
  have HB5 := hide hb5
  clear o3 b3 o5 g5 hW4 hb5 HBY
  go_wp2_with (at_builtin; rw [unhide HW4]; refine Lib.wpList_append_run _ rfl (.tmp 28) (.tmp 29) 23 23 (by rfl) v3 (.slice (some ⟨w3.heap.size, 0, none⟩) 1 1) (by kernel_rfl) (by kernel_rfl) v5 w5 happ ?_)
  refine useLoop 0 (loop1 (base := W2.heap.size) (z := z) (l := b ++ [128]) ?_ ?_ ?_ ?_ (unhide HB5).size (unhide HO5) ?_)
  · have := unhide HZ; omega
  · simp [unhide HN]; omega
  · intro j hj
    have := unhide HZ
    simp
    omega
  · have := unhide HZ
    simp
    omega
  intro vo x0 x1 x2 x3 x4 x5 x6 w6 o6 b6
  obtain ⟨n8, hn8⟩ : ∃ n8, n * 8 = n8 := ⟨_, rfl⟩
  have e8 : (n : Int) * 8 = (n8 : Int) := by omega
  have ew : IntKind.u64.wrap (n : Int) = (n : Int) := by rw [IntKind.wrap_u64]; omega
  have ew8 : IntKind.u64.wrap (n8 : Int) = (n8 : Int) := by rw [IntKind.wrap_u64]; omega
  have hb6 := (unhide HB5).trans b6
  have HO6 := hide o6
  have HB6 := hide hb6
  have HN8 := hide hn8
  have hn8b : n8 ≤ 8000000000 := by omega
  clear o6 b6 hb6 hn8
  go_wp2
  refine useLoop 2 (loop2 (base := W2.heap.size) (n := n8) (l := (b ++ [128]) ++ List.replicate z 0) ?_ (unhide HB6).size (unhide HO6) ?_)
  · have := unhide HZ; simp [unhide HN]; omega
  intro vm y0 y1 y2 y3 y4 y5 y6 y7 y8 y9 y10 y11 w7 o7 b7
  obtain ⟨M, hM⟩ : ∃ M, ((b ++ [128]) ++ List.replicate z 0) ++ be8 n8 = M := ⟨_, rfl⟩
  rw [hM] at o7
  have hMe : ((b ++ [128]) ++ List.replicate z 0) ++ be8 (b.length * 8) = M := by rw [unhide HN, unhide HN8, hM]
  have hMq : M.length = 64 * q := by have := unhide HMQ; rw [hMe] at this; exact this
  have HSH : Hid (shaL b = (stL (mixAll q st0 M)).flatMap be4) := hide (by have := unhide HSHA; rw [hMe] at this; exact this)
  have hMpos : 0 < M.length := by
    have : (be8 n8).length = 8 := rfl
    rw [← hM, List.length_append]
    omega
  have hMle : M.length ≤ 2147483648 := by
    rw [← hM]
    have := unhide HZ
    simp [be8, unhide HN]
    omega
  obtain ⟨mB, mc, rfl, hmB, hmlt, hmm⟩ := own_block o7 hMpos
  obtain ⟨ml, hml⟩ : ∃ ml, M.length = ml := ⟨_, rfl⟩
  rw [hml]
  have hb7 := (unhide HB6).trans b7
  have HB7 := hide hb7
  have HMM := hide hmm
  have HML := hide hml
  have HMQ2 : Hid (ml = 64 * q) := hide (by rw [← hml]; exact hMq)
  have hml2 : ml ≤ 2147483648 := by rw [← hml]; exact hMle
  have hbase : w.heap.size ≤ w7.heap.size := Nat.le_trans (Nat.le_trans (unhide HB2).size hb7.size) (Nat.le_refl _)
  clear o7 b7 hb7 hM hMe hMq hMpos hMle hmm hml HO5 HO6 HB5 HB6 HMQ HSHA
  go_wp2_with (at_make; refine wpList_make_full _ rfl _ _ 129 rfl w.heap.size 39 i0 (.int .u32 0) 1 Tryz.underlying129 hi hz0 hz1 _ _ _ _ 64 rfl rfl rfl rfl (by rw [hz2]; decide) (by unfold maxLen; omega) hbase ?_; intro w8 hown8 hgrow8; have HW8 : Hid (WBlk w8 w7.heap.size (List.replicate 64 0)) := hide (made_words hown8); have HB8 : Hid (Below w7.heap.size w7 w8) := hide (low_grownN hgrow8); clear hown8 hgrow8)
  have hs1 := unhide HS1
  have hs2 := unhide HS2
  have b28 := (unhide HB7).trans ((unhide HB8).mono (unhide HB7).size)
  have hwl := (unhide HW8).lt
  have r8 : R3 w8 w.heap.size w.heap.size w1.heap.size mB w7.heap.size M st0 w8 := ⟨(unhide HKK).low b28, (unhide HKH).low b28, ⟨_, by simp, unhide HW8⟩, fun k hk => ((unhide HB8).cell hmlt).trans (unhide HMM k hk), Below.refl _ _, by omega⟩
  have HR8 := hide r8
  have HB28 := hide b28
  clear r8 b28
  refine useLoop 4 (loop3 (base := w.heap.size) (kB := w.heap.size) (hB := w1.heap.size) (mB := mB) (wB := w7.heap.size) (q := q) (M := M) (unhide HMQ2) (unhide HML) hml2 (by omega) (by omega) (by have := (unhide HB7).size; omega) (by omega) (by omega) (by omega) hbase (unhide HR8) ?_)
  intro u0 u1 u2 u3 u4 u5 u6 u7 u8 u9 u10 u11 u12 u13 u14 u15 u16 u17 u18 u19 u20 u21 u22 u23 u24 u25 u26 u27 u28 u29 u30 u31 u32 u33 u34 u35 u36 u37 u38 u39 u40 u41 u42 u43 u44 u45 u46 u47 u48 u49 u50 u51 u52 u53 u54 u55 u56 u57 u58 u59 u60 u61 u62 u63 u64 u65 u66 u67 u68 u69 u70 u71 u72 u73 u74 u75 u76 u77 u78 u79 u80 u81 u82 u83 u84 u85 u86 u87 u88 u89 u90 u91 u92 u93 u94 u95 u96 u97 u98 u99 u100 u101 u102 u103 u104 u105 u106 u107 u108 u109 u110 u111 u112 u113 u114 u115 u116 u117 u118 u119 u120 u121 u122 u123 u124 u125 u126 u127 u128 u129 u130 u131 u132 u133 u134 u135 u136 u137 u138 u139 u140 u141 u142 u143 u144 u145 u146 u147 u148 u149 u150 u151 u152 u153 u154 u155 u156 u157 u158 u159 u160 u161 u162 u163 u164 u165 u166 u167 u168 u169 u170 u171 u172 u173 u174 u175 u176 u177 u178 u179 u180 u181 u182 u183 u184 u185 u186 u187 u188 u189 u190 u191 u192 u193 u194 u195 u196 u197 u198 u199 u200 u201 u202 u203 u204 u205 u206 u207 u208 u209 u210 u211 u212 u213 u214 u215 u216 u217 u218 u219 u220 u221 u222 u223 u224 u225 u226 u227 u228 u229 u230 u231 u232 u233 u234 u235 u236 u237 u238 u239 u240 u241 u242 u243 u244 u245 u246 u247 u248 u249 u250 u251 u252 u253 u254 u255 u256 w9 r9
  have HR9 := hide r9
  clear r9
  go_wp2
  refine useLoop 14 (loop8 (hs := stL (mixAll q st0 M)) (stL_len _) (unhide HR9).hh ?_)
  intro vr t0 t1 t2 t3 t4 t5 t6 t7 t8 t9 t10 t11 t12 t13 t14 t15 t16 t17 t18 t19 t20 t21 t22 t23 t24 t25 t26 t27 t28 t29 w10 o10 b10
  have HD : Hid (OwnB w.heap.size w10 vr (shaL b) ∧ Below w.heap.size w w10) := hide (by
    refine ⟨?_, ?_⟩
    · rw [unhide HSH]
      exact OwnB.less (unhide HR9).size o10
    · have h1 : Below w.heap.size w w8 := (unhide HB2).trans ((unhide HB28).mono (unhide HB2).size)
      exact (h1.trans (unhide HR9).low).trans (b10.mono (unhide HR9).size))
  clear o10 b10
  go_wp2
  go_ret
  exact ⟨_, rfl, (unhide HD).1, (unhide HD).2⟩
end Go.Proofs.YtkablmjkffdloaaGreatDoor
