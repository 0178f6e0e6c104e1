/-
  What is in a log is proved, and with one bit turned nothing is: the empty log goes on.
-/
import Derived.Test.YtkpmbbeidcpclaaGreatDoorSndY
namespace Go.Proofs.YtkpmbbeidcpclaaGreatDoor
open Go.RowKit

set_option maxRecDepth 100000 in
set_option maxHeartbeats 4000000 in
theorem proves_pos {w : World} {F i m n K : Nat} {bit : Int} {lv : List Bs} (h : Lg w F K lv) (h32 : All32 lv) (hn1 : 1 ≤ n) (hn : n ≤ K) (hi : i < n) (hm : m ≤ n) (h0 : 1 ≤ m) :
    Calls Tryz.prog 9 #[.pointer (some ⟨F, 0, none⟩), .int .i64 (i : Int), .int .i64 (m : Int), .int .i64 (n : Int), .int .i64 bit] w fun e w' => e = .returned (.bool true) ∧ Below w.heap.size w w' := by
  have H0 := hide h0
  clear h0
  have hK := h.few
  have hlen := h.len
  have hlt : (lv.take n).length = n := by rw [List.length_take]; omega
  have ht32 : All32 (lv.take n) := fun x hx => h32 x (List.mem_of_mem_take hx)
  obtain ⟨W3, hW3⟩ : ∃ W3, ((w.alloc (.cells #[.int .i64 (i : Int)] 3)).alloc (.cells #[.int .i64 (m : Int)] 3)).alloc (.cells #[.int .i64 (n : Int)] 3) = W3 := ⟨_, rfl⟩
  obtain ⟨w1, hw1⟩ : ∃ w1, w.alloc (.cells #[.int .i64 (i : Int)] 3) = w1 := ⟨_, rfl⟩
  obtain ⟨w2, hw2⟩ : ∃ w2, w1.alloc (.cells #[.int .i64 (m : Int)] 3) = w2 := ⟨_, rfl⟩
  have hW3' : w2.alloc (.cells #[.int .i64 (n : Int)] 3) = W3 := by rw [← hw2, ← hw1]; exact hW3
  have s1 : w1.heap.size = w.heap.size + 1 := by rw [← hw1]; simp
  have s2 : w2.heap.size = w.heap.size + 1 + 1 := by rw [← hw2]; simp [s1]
  have b1 : Below w.heap.size w w1 := by rw [← hw1]; exact (Below.refl _ _).alloc (Nat.le_refl _) _
  have b2 : Below w1.heap.size w1 w2 := by rw [← hw2]; exact (Below.refl _ _).alloc (Nat.le_refl _) _
  have b3 : Below w2.heap.size w2 W3 := by rw [← hW3']; exact (Below.refl _ _).alloc (Nat.le_refl _) _
  have k1 : Blk W3 w.heap.size #[.int .i64 (i : Int)] 3 := by
    have := Blk.new w #[.int .i64 (i : Int)] 3
    rw [hw1] at this
    exact (this.low b2).low b3
  have k2 : Blk W3 (w.heap.size + 1) #[.int .i64 (m : Int)] 3 := by
    have := Blk.new w1 #[.int .i64 (m : Int)] 3
    rw [hw2, s1] at this
    exact this.low b3
  have k3 : Blk W3 (w.heap.size + 1 + 1) #[.int .i64 (n : Int)] 3 := by
    have := Blk.new w2 #[.int .i64 (n : Int)] 3
    rw [hW3', s2] at this
    exact this
  have bW := low_trans (low_trans b1 b2) b3
  have hlW := h.low bW
  have ci : W3.cell? ⟨w.heap.size, 0, none⟩ = some (.int .i64 (i : Int)) := k1.cell 0
  have cm : W3.cell? ⟨w.heap.size + 1, 0, none⟩ = some (.int .i64 (m : Int)) := k2.cell 0
  have cn : W3.cell? ⟨w.heap.size + 1 + 1, 0, none⟩ = some (.int .i64 (n : Int)) := k3.cell 0
  obtain ⟨leaf, hleaf⟩ : ∃ x, lv[i]? = some x := ⟨_, List.getElem?_eq_getElem (by omega)⟩
  have hleaft : (lv.take n)[i]? = some leaf := by rw [List.getElem?_take, if_pos hi]; exact hleaf
  have HRO := hide (rec_ok hlt hleaft (by omega) ht32 (pathP_32 _ _ _ ht32))
  have HRM := hide (fun (x root l2 : Bs) (ps : List Bs) (hps : ps.length = (pathP 1000 i (lv.take n)).length) => rec_more2 (x := x) (root := root) (l2 := l2) hlt hleaft (by omega) hps)
  have hleaf32 : leaf.length = 32 := h32 _ (List.mem_of_getElem? hleaf)
  have HTR : Hid (treeE (if m = 0 then [] else subP 1000 m (lv.take n) true) (m : Int) (n : Int) (mth 1000 (lv.take m)) (mth 1000 (lv.take n)) = 0) := hide (by
    by_cases h0 : m = 0
    · subst h0
      rw [if_pos rfl]
      unfold treeE
      rw [partB_at hm (by omega), if_neg (by decide)]
      rfl
    · rw [if_neg h0]
      have := grow_ok2 (m := m) hlt (by omega) hm (by omega) ht32
      rw [List.take_take, Nat.min_eq_left hm] at this
      exact this)
  have HH : Hid (∀ wx, Lg wx F K lv → Calls Tryz.prog 25 #[.pointer (some ⟨F, 0, none⟩), .int .i64 0, .int .i64 (i : Int)] wx fun e w' => ∃ a c, e = .returned (.tuple #[.slice a 32 c, .int .i64 0]) ∧ OwnB wx.heap.size w' (.slice a 32 c) leaf ∧ Below wx.heap.size wx w') := hide (fun wx hx => by
    obtain ⟨⟨bs, hs, hl, hi2⟩, hl3, hl4, _⟩ := hx
    have := logHash_ok (v := 0) (j := i) hl hi2 hl3 (by omega) (by omega) (by omega)
    have e : treeH 0 (lv.drop (i * 2 ^ 0)) = leaf := by
      rw [Nat.pow_zero, Nat.mul_one]
      rw [List.getElem?_eq_some_iff] at hleaf
      obtain ⟨q1, q2⟩ := hleaf
      rw [List.drop_eq_getElem_cons q1, q2]
      rfl
    rw [e] at this
    exact this)
  have HP32 := hide (pathP_32 1000 i _ ht32)
  have HQ32 : Hid (All32 (if m = 0 then [] else subP 1000 m (lv.take n) true)) := hide (by
    split
    · exact fun x hx => by cases hx
    · exact subP_32 _ _ _ _ ht32)
  have HPl := hide (pathP_len 1000 i (lv.take n))
  have HPs : Hid ((pathP 1000 i (lv.take n)).length ≤ 999) := hide (by have := path_short 1000 i (lv.take n) (by rw [hlt]; exact hn1) (by rw [hlt]; omega); rw [hlt] at this; omega)
  have HQl : Hid ((if m = 0 then [] else subP 1000 m (lv.take n) true).length ≤ 1000) := hide (by
    split
    · exact Nat.zero_le _
    · exact subP_len _ _ _ _)
  have HR1 := hide (fun wx (hx : Lg wx F K lv) => logRoot_in hx hn)
  have HR2 := hide (fun wx (hx : Lg wx F K lv) => logRoot_in (m := m) hx (by omega))
  have HPV := hide (fun wx (hx : Lg wx F K lv) => logProve_in hx hn hi)
  have HTV := hide (fun wx (hx : Lg wx F K lv) => logTree_in hx hn hm)
  obtain ⟨PP, hPP⟩ : ∃ PP, pathP 1000 i (lv.take n) = PP := ⟨_, rfl⟩
  obtain ⟨QQ, hQQ⟩ : ∃ QQ, (if m = 0 then [] else subP 1000 m (lv.take n) true) = QQ := ⟨_, rfl⟩
  obtain ⟨RR, hRR⟩ : ∃ RR, mth 1000 (lv.take n) = RR := ⟨_, rfl⟩
  obtain ⟨OO, hOO⟩ : ∃ OO, mth 1000 (lv.take m) = OO := ⟨_, rfl⟩
  rw [hPP] at HRO HRM HP32 HPl HPV HPs
  rw [hQQ] at HTR HQ32 HQl HTV
  rw [hRR] at HRO HTR HR1
  rw [hOO] at HTR HR2
  have HLG := hide hlW
  have HBW := hide bW
  have HW3 := hide hW3
  have HL32 := hide hleaf32
  obtain ⟨bi, hbi⟩ : ∃ bi, w.heap.size = bi := ⟨_, rfl⟩
  obtain ⟨bm, hbm⟩ : ∃ bm, w.heap.size + 1 = bm := ⟨_, rfl⟩
  obtain ⟨bn, hbn⟩ : ∃ bn, w.heap.size + 1 + 1 = bn := ⟨_, rfl⟩
  have HBX := hide (And.intro hbi (And.intro hbm hbn))
  rw [hbi] at ci
  rw [hbm] at cm
  rw [hbn] at cn
  have HCbi := hide ci
  have HCbm := hide cm
  have HCbn := hide cn
  clear h hlW bW k1 k2 k3 b1 b2 b3 s1 s2 hW3' hw1 hw2 hW3 ci cm cn hPP hQQ hRR hOO hlen hlt ht32 hleaf hleaft hleaf32 hbi hbm hbn h32
  obtain ⟨N, hNN⟩ : ∃ N, PP.length = N := ⟨_, rfl⟩
  obtain ⟨M, hMM⟩ : ∃ M, QQ.length = M := ⟨_, rfl⟩
  have HNN := hide hNN
  have HMM := hide hMM
  clear hNN hMM
  go_enter Tryz.func9, Tryz.ntmps9
  go_wp2_with (go_at_call 35; fail)
  rw [unhide HW3, (unhide HBX).2.2, (unhide HBX).2.1, (unhide HBX).1]
  refine (unhide HR1 _ (unhide HLG)).mono ?_
  rintro e w4 ⟨xa, rc, rfl, x32, o4, b4⟩
  obtain ⟨gr, xd, xv, _⟩ := OwnB.adr o4 x32
  obtain ⟨rfl, _, rfl⟩ := Value.slice.inj xv
  obtain ⟨W4, hW4⟩ : ∃ W4, w4.alloc (.cells #[.slice (some ⟨gr, 0, none⟩) 32 rc] 32) = W4 := ⟨_, rfl⟩
  have c4 : Below w4.heap.size w4 W4 := by rw [← hW4]; exact (Below.refl _ _).alloc (Nat.le_refl _) _
  have k4 : Blk W4 w4.heap.size #[.slice (some ⟨gr, 0, none⟩) 32 rc] 32 := by rw [← hW4]; exact Blk.new _ _ _
  obtain ⟨br, hbr⟩ : ∃ br, w4.heap.size = br := ⟨_, rfl⟩
  have d4 := low_trans b4 c4
  have HCbi := hide ((d4.cell (lt_of_cell (unhide HCbi))).trans (unhide HCbi))
  have HCbm := hide ((d4.cell (lt_of_cell (unhide HCbm))).trans (unhide HCbm))
  have HCbn := hide ((d4.cell (lt_of_cell (unhide HCbn))).trans (unhide HCbn))
  rw [hbr] at k4
  have HCbr : Hid (W4.cell? ⟨br, 0, none⟩ = some (.slice (some ⟨gr, 0, none⟩) 32 rc)) := hide (k4.cell 0)
  have HOR := hide (OwnB.less (unhide HBW).size (OwnB.low o4 c4))
  have HOR3 := hide x32
  have HLG := hide ((unhide HLG).low d4)
  have HBW := hide (low_trans (unhide HBW) d4)
  have ybi : (w4.alloc (.cells #[.slice (some ⟨gr, 0, none⟩) 32 rc] 32)).cell? ⟨bi, 0, none⟩ = some (.int .i64 (i : Int)) := by rw [hW4]; exact unhide HCbi
  have ybm : (w4.alloc (.cells #[.slice (some ⟨gr, 0, none⟩) 32 rc] 32)).cell? ⟨bm, 0, none⟩ = some (.int .i64 (m : Int)) := by rw [hW4]; exact unhide HCbm
  have ybn : (w4.alloc (.cells #[.slice (some ⟨gr, 0, none⟩) 32 rc] 32)).cell? ⟨bn, 0, none⟩ = some (.int .i64 (n : Int)) := by rw [hW4]; exact unhide HCbn
  have ybr : (w4.alloc (.cells #[.slice (some ⟨gr, 0, none⟩) 32 rc] 32)).cell? ⟨br, 0, none⟩ = some (.slice (some ⟨gr, 0, none⟩) 32 rc) := by rw [hW4]; exact unhide HCbr
  have HW4 := hide hW4
  have HBbr := hide hbr
  clear o4 b4 c4 d4 k4 hW4 hbr x32 xv
  go_wp2_with ((go_at_call 35; fail))
  rw [unhide HW4, unhide HBbr]
  clear ybi ybm ybn ybr
  refine (unhide HR2 _ (unhide HLG)).mono ?_
  rintro e w5 ⟨xa, oc, rfl, x32, o5, b5⟩
  obtain ⟨go, xd, xv, _⟩ := OwnB.adr o5 x32
  obtain ⟨rfl, _, rfl⟩ := Value.slice.inj xv
  obtain ⟨W5, hW5⟩ : ∃ W5, w5.alloc (.cells #[.slice (some ⟨go, 0, none⟩) 32 oc] 32) = W5 := ⟨_, rfl⟩
  have c5 : Below w5.heap.size w5 W5 := by rw [← hW5]; exact (Below.refl _ _).alloc (Nat.le_refl _) _
  have k5 : Blk W5 w5.heap.size #[.slice (some ⟨go, 0, none⟩) 32 oc] 32 := by rw [← hW5]; exact Blk.new _ _ _
  obtain ⟨bo, hbo⟩ : ∃ bo, w5.heap.size = bo := ⟨_, rfl⟩
  have d5 := low_trans b5 c5
  have HCbi := hide ((d5.cell (lt_of_cell (unhide HCbi))).trans (unhide HCbi))
  have HCbm := hide ((d5.cell (lt_of_cell (unhide HCbm))).trans (unhide HCbm))
  have HCbn := hide ((d5.cell (lt_of_cell (unhide HCbn))).trans (unhide HCbn))
  have HCbr := hide ((d5.cell (lt_of_cell (unhide HCbr))).trans (unhide HCbr))
  rw [hbo] at k5
  have HCbo : Hid (W5.cell? ⟨bo, 0, none⟩ = some (.slice (some ⟨go, 0, none⟩) 32 oc)) := hide (k5.cell 0)
  have HOR := hide (OwnB.low (unhide HOR) d5)
  have HOO := hide (OwnB.less (unhide HBW).size (OwnB.low o5 c5))
  have HOO3 := hide x32
  have HLG := hide ((unhide HLG).low d5)
  have HBW := hide (low_trans (unhide HBW) d5)
  have ybi : (w5.alloc (.cells #[.slice (some ⟨go, 0, none⟩) 32 oc] 32)).cell? ⟨bi, 0, none⟩ = some (.int .i64 (i : Int)) := by rw [hW5]; exact unhide HCbi
  have ybm : (w5.alloc (.cells #[.slice (some ⟨go, 0, none⟩) 32 oc] 32)).cell? ⟨bm, 0, none⟩ = some (.int .i64 (m : Int)) := by rw [hW5]; exact unhide HCbm
  have ybn : (w5.alloc (.cells #[.slice (some ⟨go, 0, none⟩) 32 oc] 32)).cell? ⟨bn, 0, none⟩ = some (.int .i64 (n : Int)) := by rw [hW5]; exact unhide HCbn
  have ybr : (w5.alloc (.cells #[.slice (some ⟨go, 0, none⟩) 32 oc] 32)).cell? ⟨br, 0, none⟩ = some (.slice (some ⟨gr, 0, none⟩) 32 rc) := by rw [hW5]; exact unhide HCbr
  have ybo : (w5.alloc (.cells #[.slice (some ⟨go, 0, none⟩) 32 oc] 32)).cell? ⟨bo, 0, none⟩ = some (.slice (some ⟨go, 0, none⟩) 32 oc) := by rw [hW5]; exact unhide HCbo
  have HW5 := hide hW5
  have HBbo := hide hbo
  clear o5 b5 c5 d5 k5 hW5 hbo x32 xv
  go_wp2_with ((go_at_call 36; fail))
  rw [unhide HW5, unhide HBbo]
  clear ybi ybm ybn ybr ybo
  refine (unhide HPV _ (unhide HLG)).mono ?_
  have HBRS : Hid (br < W5.heap.size ∧ bi < W5.heap.size ∧ bn < W5.heap.size) := hide ⟨lt_of_cell (unhide HCbr), lt_of_cell (unhide HCbi), lt_of_cell (unhide HCbn)⟩
  rintro e w6 ⟨xv, rfl, o6, b6⟩
  obtain ⟨pa, pc, xe, _, _⟩ := o6.pat
  rw [unhide HNN] at xe
  subst xe
  obtain ⟨W6, hW6⟩ : ∃ W6, w6.alloc (.cells #[.slice pa N pc] 22) = W6 := ⟨_, rfl⟩
  have c6 : Below w6.heap.size w6 W6 := by rw [← hW6]; exact (Below.refl _ _).alloc (Nat.le_refl _) _
  have k6 : Blk W6 w6.heap.size #[.slice pa N pc] 22 := by rw [← hW6]; exact Blk.new _ _ _
  obtain ⟨bp, hbp⟩ : ∃ bp, w6.heap.size = bp := ⟨_, rfl⟩
  have d6 := low_trans b6 c6
  have HCbi := hide ((d6.cell (lt_of_cell (unhide HCbi))).trans (unhide HCbi))
  have HCbm := hide ((d6.cell (lt_of_cell (unhide HCbm))).trans (unhide HCbm))
  have HCbn := hide ((d6.cell (lt_of_cell (unhide HCbn))).trans (unhide HCbn))
  have HCbr := hide ((d6.cell (lt_of_cell (unhide HCbr))).trans (unhide HCbr))
  have HCbo := hide ((d6.cell (lt_of_cell (unhide HCbo))).trans (unhide HCbo))
  rw [hbp] at k6
  have HCbp : Hid (W6.cell? ⟨bp, 0, none⟩ = some (.slice pa N pc)) := hide (k6.cell 0)
  have HOR := hide (OwnB.low (unhide HOR) d6)
  have HOO := hide (OwnB.low (unhide HOO) d6)
  have HOP := hide (LvAt.less (unhide HBW).size (LvAt.low o6 c6))
  have HLG := hide ((unhide HLG).low d6)
  have HBW := hide (low_trans (unhide HBW) d6)
  have ybi : (w6.alloc (.cells #[.slice pa N pc] 22)).cell? ⟨bi, 0, none⟩ = some (.int .i64 (i : Int)) := by rw [hW6]; exact unhide HCbi
  have ybm : (w6.alloc (.cells #[.slice pa N pc] 22)).cell? ⟨bm, 0, none⟩ = some (.int .i64 (m : Int)) := by rw [hW6]; exact unhide HCbm
  have ybn : (w6.alloc (.cells #[.slice pa N pc] 22)).cell? ⟨bn, 0, none⟩ = some (.int .i64 (n : Int)) := by rw [hW6]; exact unhide HCbn
  have ybr : (w6.alloc (.cells #[.slice pa N pc] 22)).cell? ⟨br, 0, none⟩ = some (.slice (some ⟨gr, 0, none⟩) 32 rc) := by rw [hW6]; exact unhide HCbr
  have ybo : (w6.alloc (.cells #[.slice pa N pc] 22)).cell? ⟨bo, 0, none⟩ = some (.slice (some ⟨go, 0, none⟩) 32 oc) := by rw [hW6]; exact unhide HCbo
  have ybp : (w6.alloc (.cells #[.slice pa N pc] 22)).cell? ⟨bp, 0, none⟩ = some (.slice pa N pc) := by rw [hW6]; exact unhide HCbp
  have HPB0 : Hid (∀ pb, pa = some ⟨pb, 0, none⟩ → pb ≠ br ∧ pb ≠ bi ∧ pb ≠ bn ∧ pb < bp) := hide (fun pb e => by
    subst e
    obtain ⟨us, o1, _⟩ := o6
    obtain ⟨q1, cu, q2⟩ := row29 (g := pb) o1 rfl
    have q3 : pb < w6.heap.size := (Array.getElem?_eq_some_iff.1 q2).1
    have q4 := unhide HBRS
    have q5 : W5.heap.size ≤ pb := q1
    rw [hbp] at q3
    exact ⟨by omega, by omega, by omega, q3⟩)
  have HW6 := hide hW6
  have HBbp := hide hbp
  clear o6 b6 c6 d6 k6 hW6 hbp 
  have HPB : Hid (∀ pb, pa = some ⟨pb, 0, none⟩ → pb ≠ br ∧ pb ≠ bi ∧ pb ≠ bn ∧ pb < bp) := HPB0
  go_wp2_with ((go_at_call 37; fail))
  rw [unhide HW6, unhide HBbp]
  clear ybi ybm ybn ybr ybo ybp
  refine (unhide HTV _ (unhide HLG)).mono ?_
  rintro e w7 ⟨xv, rfl, o7, b7⟩
  obtain ⟨qa, qc, xe, _, _⟩ := o7.pat
  rw [unhide HMM] at xe
  subst xe
  obtain ⟨W7, hW7⟩ : ∃ W7, w7.alloc (.cells #[.slice qa M qc] 22) = W7 := ⟨_, rfl⟩
  have c7 : Below w7.heap.size w7 W7 := by rw [← hW7]; exact (Below.refl _ _).alloc (Nat.le_refl _) _
  have k7 : Blk W7 w7.heap.size #[.slice qa M qc] 22 := by rw [← hW7]; exact Blk.new _ _ _
  obtain ⟨bq, hbq⟩ : ∃ bq, w7.heap.size = bq := ⟨_, rfl⟩
  have d7 := low_trans b7 c7
  have HCbi := hide ((d7.cell (lt_of_cell (unhide HCbi))).trans (unhide HCbi))
  have HCbm := hide ((d7.cell (lt_of_cell (unhide HCbm))).trans (unhide HCbm))
  have HCbn := hide ((d7.cell (lt_of_cell (unhide HCbn))).trans (unhide HCbn))
  have HCbr := hide ((d7.cell (lt_of_cell (unhide HCbr))).trans (unhide HCbr))
  have HCbo := hide ((d7.cell (lt_of_cell (unhide HCbo))).trans (unhide HCbo))
  have HCbp := hide ((d7.cell (lt_of_cell (unhide HCbp))).trans (unhide HCbp))
  rw [hbq] at k7
  have HCbq : Hid (W7.cell? ⟨bq, 0, none⟩ = some (.slice qa M qc)) := hide (k7.cell 0)
  have HOR := hide (OwnB.low (unhide HOR) d7)
  have HOO := hide (OwnB.low (unhide HOO) d7)
  have HOP := hide (LvAt.low (unhide HOP) d7)
  have HOQ := hide (LvAt.less (unhide HBW).size (LvAt.low o7 c7))
  have HLG := hide ((unhide HLG).low d7)
  have HBW := hide (low_trans (unhide HBW) d7)
  have ybi : (w7.alloc (.cells #[.slice qa M qc] 22)).cell? ⟨bi, 0, none⟩ = some (.int .i64 (i : Int)) := by rw [hW7]; exact unhide HCbi
  have ybm : (w7.alloc (.cells #[.slice qa M qc] 22)).cell? ⟨bm, 0, none⟩ = some (.int .i64 (m : Int)) := by rw [hW7]; exact unhide HCbm
  have ybn : (w7.alloc (.cells #[.slice qa M qc] 22)).cell? ⟨bn, 0, none⟩ = some (.int .i64 (n : Int)) := by rw [hW7]; exact unhide HCbn
  have ybr : (w7.alloc (.cells #[.slice qa M qc] 22)).cell? ⟨br, 0, none⟩ = some (.slice (some ⟨gr, 0, none⟩) 32 rc) := by rw [hW7]; exact unhide HCbr
  have ybo : (w7.alloc (.cells #[.slice qa M qc] 22)).cell? ⟨bo, 0, none⟩ = some (.slice (some ⟨go, 0, none⟩) 32 oc) := by rw [hW7]; exact unhide HCbo
  have ybp : (w7.alloc (.cells #[.slice qa M qc] 22)).cell? ⟨bp, 0, none⟩ = some (.slice pa N pc) := by rw [hW7]; exact unhide HCbp
  have ybq : (w7.alloc (.cells #[.slice qa M qc] 22)).cell? ⟨bq, 0, none⟩ = some (.slice qa M qc) := by rw [hW7]; exact unhide HCbq
  have HW7 := hide hW7
  have HBbq := hide hbq
  clear o7 b7 c7 d7 k7 hW7 hbq 
  go_wp2_with ((go_at_call 25; fail))
  rw [unhide HW7, unhide HBbq]
  clear ybi ybm ybn ybr ybo ybp ybq
  refine (unhide HH _ (unhide HLG)).mono ?_
  have HBLS : Hid (bp < W7.heap.size) := hide (lt_of_cell (unhide HCbp))
  rintro e w8 ⟨xa, lc, rfl, o8, b8⟩
  have x32 := unhide HL32
  obtain ⟨gl, xd, xv, _⟩ := OwnB.adr o8 x32
  obtain ⟨rfl, _, rfl⟩ := Value.slice.inj xv
  obtain ⟨W8, hW8⟩ : ∃ W8, w8.alloc (.cells #[.slice (some ⟨gl, 0, none⟩) 32 lc] 32) = W8 := ⟨_, rfl⟩
  have c8 : Below w8.heap.size w8 W8 := by rw [← hW8]; exact (Below.refl _ _).alloc (Nat.le_refl _) _
  have k8 : Blk W8 w8.heap.size #[.slice (some ⟨gl, 0, none⟩) 32 lc] 32 := by rw [← hW8]; exact Blk.new _ _ _
  obtain ⟨bl, hbl⟩ : ∃ bl, w8.heap.size = bl := ⟨_, rfl⟩
  have d8 := low_trans b8 c8
  have HCbi := hide ((d8.cell (lt_of_cell (unhide HCbi))).trans (unhide HCbi))
  have HCbm := hide ((d8.cell (lt_of_cell (unhide HCbm))).trans (unhide HCbm))
  have HCbn := hide ((d8.cell (lt_of_cell (unhide HCbn))).trans (unhide HCbn))
  have HCbr := hide ((d8.cell (lt_of_cell (unhide HCbr))).trans (unhide HCbr))
  have HCbo := hide ((d8.cell (lt_of_cell (unhide HCbo))).trans (unhide HCbo))
  have HCbp := hide ((d8.cell (lt_of_cell (unhide HCbp))).trans (unhide HCbp))
  have HCbq := hide ((d8.cell (lt_of_cell (unhide HCbq))).trans (unhide HCbq))
  rw [hbl] at k8
  have HCbl : Hid (W8.cell? ⟨bl, 0, none⟩ = some (.slice (some ⟨gl, 0, none⟩) 32 lc)) := hide (k8.cell 0)
  have HOR := hide (OwnB.low (unhide HOR) d8)
  have HOO := hide (OwnB.low (unhide HOO) d8)
  have HOP := hide (LvAt.low (unhide HOP) d8)
  have HOQ := hide (LvAt.low (unhide HOQ) d8)
  have HOL := hide (OwnB.less (unhide HBW).size (OwnB.low o8 c8))
  have HOL3 := hide x32
  have HLG := hide ((unhide HLG).low d8)
  have HBW := hide (low_trans (unhide HBW) d8)
  have ybi : (w8.alloc (.cells #[.slice (some ⟨gl, 0, none⟩) 32 lc] 32)).cell? ⟨bi, 0, none⟩ = some (.int .i64 (i : Int)) := by rw [hW8]; exact unhide HCbi
  have ybm : (w8.alloc (.cells #[.slice (some ⟨gl, 0, none⟩) 32 lc] 32)).cell? ⟨bm, 0, none⟩ = some (.int .i64 (m : Int)) := by rw [hW8]; exact unhide HCbm
  have ybn : (w8.alloc (.cells #[.slice (some ⟨gl, 0, none⟩) 32 lc] 32)).cell? ⟨bn, 0, none⟩ = some (.int .i64 (n : Int)) := by rw [hW8]; exact unhide HCbn
  have ybr : (w8.alloc (.cells #[.slice (some ⟨gl, 0, none⟩) 32 lc] 32)).cell? ⟨br, 0, none⟩ = some (.slice (some ⟨gr, 0, none⟩) 32 rc) := by rw [hW8]; exact unhide HCbr
  have ybo : (w8.alloc (.cells #[.slice (some ⟨gl, 0, none⟩) 32 lc] 32)).cell? ⟨bo, 0, none⟩ = some (.slice (some ⟨go, 0, none⟩) 32 oc) := by rw [hW8]; exact unhide HCbo
  have ybp : (w8.alloc (.cells #[.slice (some ⟨gl, 0, none⟩) 32 lc] 32)).cell? ⟨bp, 0, none⟩ = some (.slice pa N pc) := by rw [hW8]; exact unhide HCbp
  have ybq : (w8.alloc (.cells #[.slice (some ⟨gl, 0, none⟩) 32 lc] 32)).cell? ⟨bq, 0, none⟩ = some (.slice qa M qc) := by rw [hW8]; exact unhide HCbq
  have ybl : (w8.alloc (.cells #[.slice (some ⟨gl, 0, none⟩) 32 lc] 32)).cell? ⟨bl, 0, none⟩ = some (.slice (some ⟨gl, 0, none⟩) 32 lc) := by rw [hW8]; exact unhide HCbl
  have HPL : Hid (∀ pb, pa = some ⟨pb, 0, none⟩ → pb ≠ br ∧ pb ≠ bl ∧ pb ≠ bi ∧ pb ≠ bn ∧ pb ≠ bp) := hide (fun pb e => by
    have q1 := unhide HPB pb e
    have q2 := unhide HBLS
    have q3 := b8.size
    exact ⟨q1.1, by omega, q1.2.1, q1.2.2.1, by omega⟩)
  have HW8 := hide hW8
  have HBbl := hide hbl
  clear o8 b8 c8 d8 k8 hW8 hbl x32 xv
  have HCK := hide (checkRec_any (w := W8) (i := (i : Int)) (n := (n : Int)) (c := pc) (lc := lc) (rc := rc) (unhide HNN) (by have := unhide HPl; have := unhide HNN; omega) (cap_of (unhide HOP) (unhide HNN)) (fun p hp => by rw [unhide HP32 p hp]; decide) (unhide HL32) (by omega) (unhide HOR3) (by omega) (LvAt.patAt (unhide HOP)) (own_at (unhide HOL) (unhide HOL3)) (own_at (unhide HOR) (unhide HOR3)))
  rw [unhide HRO] at HCK
  have HCT := hide (fun wx (b : Below W8.heap.size W8 wx) => checkTree_any (w := wx) (m := (m : Int)) (n := (n : Int)) (c := qc) (lc := oc) (rc := rc) (unhide HMM) (by have := unhide HQl; have := unhide HMM; omega) (cap_of (unhide HOQ) (unhide HMM)) (fun p hp => by rw [unhide HQ32 p hp]; decide) (unhide HOO3) (by omega) (unhide HOR3) (by omega) ((LvAt.patAt (unhide HOQ)).low b) ((own_at (unhide HOO) (unhide HOO3)).low b) ((own_at (unhide HOR) (unhide HOR3)).low b))
  rw [unhide HTR] at HCT
  go_wp2_with (first | (go_at_call 21; refine (errno_any _ _).mono ?_; rintro e wn ⟨rfl, hwn⟩; rw [hwn]; clear hwn wn) | (go_at_call 38; fail))
  rw [unhide HW8, unhide HBbl]
  clear ybi ybm ybn ybr ybo ybp ybq ybl
  refine (unhide HCK).mono ?_
  rintro e w9 ⟨rfl, b9⟩
  have HCbi := hide ((b9.cell (lt_of_cell (unhide HCbi))).trans (unhide HCbi))
  have ybi := unhide HCbi
  have HCbm := hide ((b9.cell (lt_of_cell (unhide HCbm))).trans (unhide HCbm))
  have ybm := unhide HCbm
  have HCbn := hide ((b9.cell (lt_of_cell (unhide HCbn))).trans (unhide HCbn))
  have ybn := unhide HCbn
  have HCbr := hide ((b9.cell (lt_of_cell (unhide HCbr))).trans (unhide HCbr))
  have ybr := unhide HCbr
  have HCbo := hide ((b9.cell (lt_of_cell (unhide HCbo))).trans (unhide HCbo))
  have ybo := unhide HCbo
  have HCbp := hide ((b9.cell (lt_of_cell (unhide HCbp))).trans (unhide HCbp))
  have ybp := unhide HCbp
  have HCbq := hide ((b9.cell (lt_of_cell (unhide HCbq))).trans (unhide HCbq))
  have ybq := unhide HCbq
  have HCbl := hide ((b9.cell (lt_of_cell (unhide HCbl))).trans (unhide HCbl))
  have ybl := unhide HCbl
  have HOR := hide (OwnB.low (unhide HOR) b9)
  have HOO := hide (OwnB.low (unhide HOO) b9)
  have HOP := hide (LvAt.low (unhide HOP) b9)
  have HOQ := hide (LvAt.low (unhide HOQ) b9)
  have HOL := hide (OwnB.low (unhide HOL) b9)
  have HCT9 := hide (unhide HCT _ b9)
  have HBW := hide (low_trans (unhide HBW) b9)
  clear b9 HCK HCT HLG
  go_wp2_with (first | (go_at_call 21; refine (errno_any _ _).mono ?_; rintro e wn ⟨rfl, hwn⟩; rw [hwn]; clear hwn wn) | (go_at_call 39; fail))
  refine (unhide HCT9).mono ?_
  rintro e w10 ⟨rfl, b10⟩
  clear ybi ybm ybn ybr ybo ybp ybq ybl
  have HCbi := hide ((b10.cell (lt_of_cell (unhide HCbi))).trans (unhide HCbi))
  have HCbm := hide ((b10.cell (lt_of_cell (unhide HCbm))).trans (unhide HCbm))
  have HCbn := hide ((b10.cell (lt_of_cell (unhide HCbn))).trans (unhide HCbn))
  have HCbr := hide ((b10.cell (lt_of_cell (unhide HCbr))).trans (unhide HCbr))
  have HCbo := hide ((b10.cell (lt_of_cell (unhide HCbo))).trans (unhide HCbo))
  have HCbp := hide ((b10.cell (lt_of_cell (unhide HCbp))).trans (unhide HCbp))
  have HCbq := hide ((b10.cell (lt_of_cell (unhide HCbq))).trans (unhide HCbq))
  have HCbl := hide ((b10.cell (lt_of_cell (unhide HCbl))).trans (unhide HCbl))
  have HOR := hide (OwnB.low (unhide HOR) b10)
  have HOO := hide (OwnB.low (unhide HOO) b10)
  have HOP := hide (LvAt.low (unhide HOP) b10)
  have HOQ := hide (LvAt.low (unhide HOQ) b10)
  have HOL := hide (OwnB.low (unhide HOL) b10)
  have HBW := hide (low_trans (unhide HBW) b10)
  have HS : Hid (Snd w.heap.size w10 bi bm bn br bo bp bq bl (i : Int) (m : Int) (n : Int) gr rc go oc pa N pc qa M qc gl lc) := hide ⟨unhide HCbi, unhide HCbm, unhide HCbn, unhide HCbr, unhide HCbo, unhide HCbp, unhide HCbq, unhide HCbl, ⟨_, unhide HOR3, unhide HOR⟩, ⟨_, unhide HOO3, unhide HOO⟩, by have := LvAt.l32 (unhide HOP) (unhide HP32); rw [unhide HNN] at this; exact this, by have := LvAt.l32 (unhide HOQ) (unhide HQ32); rw [unhide HMM] at this; exact this, ⟨_, unhide HOL3, unhide HOL⟩⟩
  have HPN : Hid (N = PP.length) := hide (unhide HNN).symm
  have hN999 : N ≤ 999 := by have := unhide HPs; have := unhide HNN; omega
  have hN1000 : N ≤ 1000 := by have := unhide HPl; have := unhide HNN; omega
  have hM1000 : M ≤ 1000 := by have := unhide HQl; have := unhide HMM; omega
  clear b10 HCT9 HOR HOO HOP HOQ HOL HOR3 HOO3 HOL3 HRO HTR HH HP32 HQ32 HPl HQl HR2 HPV HTV HL32 HNN HMM HCbi HCbm HCbn HCbr HCbo HCbp HCbq HCbl
  obtain ⟨r1, s1, B, p1, p2, p3, p4, p5⟩ := mod_256 bit
  obtain ⟨d8, hd8⟩ : ∃ d8, B / 8 = d8 := ⟨_, rfl⟩
  obtain ⟨m8, hm8⟩ : ∃ m8, B % 8 = m8 := ⟨_, rfl⟩
  have e8 : (B : Int).tdiv 8 = (d8 : Int) := by rw [Int.tdiv_eq_ediv_of_nonneg (by omega)]; omega
  have f8 : (B : Int).tmod 8 = (m8 : Int) := by rw [Int.tmod_eq_emod_of_nonneg (by omega)]; omega
  have d32 : d8 < 32 := by omega
  have l8 : m8 < 8 := by omega
  clear hd8 hm8
  go_wp2_with (go_at_call 21; refine (errno_any _ _).mono ?_; rintro e wn ⟨rfl, hwn⟩; rw [hwn]; clear hwn wn)
  go_loop [21, 22] (fun v21 v22 => ∃ k X : Nat, k ≤ m8 ∧ X < 256 ∧ v22 = .int .i64 (k : Int) ∧ v21 = .int .u8 (X : Int)) (fun _ v22 => m8 - (intOf v22).toNat)
  case atStart => exact ⟨0, 1, Nat.zero_le _, by omega, rfl, rfl⟩
  case round =>
    obtain ⟨k, X, hk, hX, rfl, rfl⟩ := hrel
    by_cases hkm : k < m8
    · go_wp2
      go_round
      case rel => exact ⟨k + 1, 2 * X % 256, hkm, Nat.mod_lt _ (by decide), by push_cast; rfl, by push_cast; rfl⟩
      case measure => simp [intOf]; omega
    · obtain ⟨c, hc⟩ : ∃ c : UInt8, c.toNat = X := ⟨UInt8.ofNat X, by rw [UInt8.toNat_ofNat']; omega⟩
      have hkm' : ¬ ((k : Int) < (m8 : Int)) := by omega
      clear hkm
      obtain ⟨hg, cs, kb, sz, byt⟩ := (unhide HS).hl.far
      obtain ⟨x, hx⟩ := byt d8 d32
      obtain ⟨z, hz⟩ := byt 0 (by omega)
      have hcell : w10.cell? ⟨gl, d8, none⟩ = some (.int .u8 (x.toNat : Int)) := (kb.cell d8).trans hx
      have hfree := kb.free d8
      have hxor := bx8 x c
      rw [hc] at hxor
      obtain ⟨y, hy⟩ : ∃ y, (x ^^^ c) = y := ⟨_, rfl⟩
      rw [hy] at hxor
      have HS2 : Hid (Snd w.heap.size ((w10.setCell ⟨gl, d8, none⟩ (.int .u8 (y.toNat : Int))).drew) bi bm bn br bo bp bq bl (i : Int) (m : Int) (n : Int) gr rc go oc pa N pc qa M qc gl lc) := hide (((unhide HS).turn (c := y) kb hz).low (low_drew _))
      have HBW2 : Hid (Below w.heap.size w ((w10.setCell ⟨gl, d8, none⟩ (.int .u8 (y.toNat : Int))).drew)) := hide (low_trans (low_turn (unhide HBW) hg) (low_drew _))
      have ycl := (unhide HS).cl
      have d32i : (d8 : Int) < 32 := by omega
      clear hx hz kb sz byt hg hy HS HBW 
      go_wp2
      refine wp_region_noPanic ?_
      go_region
      refine NoPanic.normal ?_
      obtain ⟨v11, hv11⟩ : ∃ v11, (w10.setCell ⟨gl, d8, none⟩ (.int .u8 (y.toNat : Int))).drew = v11 := ⟨_, rfl⟩
      rw [hv11] at HS2 HBW2  ⊢
      have HS := HS2
      have HBW := HBW2
      clear hcell hfree hxor ycl d32i HS2 HBW2 hv11 
      go_wp2_with (go_at_call 40; fail)
      refine (record_any (unhide HS).cp (unhide HS).ci (unhide HS).cn (unhide HS).cl (unhide HS).cr (unhide HS).hp hN1000 (unhide HS).hl (unhide HS).hr).mono ?_
      rintro e v12 ⟨rfl, b⟩
      have HS := hide ((unhide HS).low b)
      have HBW := hide (low_trans (unhide HBW) b)
      clear b
      obtain ⟨hg, cs, kb, sz, byt⟩ := (unhide HS).hl.far
      obtain ⟨x, hx⟩ := byt d8 d32
      obtain ⟨z, hz⟩ := byt 0 (by omega)
      have hcell : v12.cell? ⟨gl, d8, none⟩ = some (.int .u8 (x.toNat : Int)) := (kb.cell d8).trans hx
      have hfree := kb.free d8
      have hxor := bx8 x c
      rw [hc] at hxor
      obtain ⟨y, hy⟩ : ∃ y, (x ^^^ c) = y := ⟨_, rfl⟩
      rw [hy] at hxor
      have HS2 : Hid (Snd w.heap.size ((v12.setCell ⟨gl, d8, none⟩ (.int .u8 (y.toNat : Int))).drew) bi bm bn br bo bp bq bl (i : Int) (m : Int) (n : Int) gr rc go oc pa N pc qa M qc gl lc) := hide (((unhide HS).turn (c := y) kb hz).low (low_drew _))
      have HBW2 : Hid (Below w.heap.size w ((v12.setCell ⟨gl, d8, none⟩ (.int .u8 (y.toNat : Int))).drew)) := hide (low_trans (low_turn (unhide HBW) hg) (low_drew _))
      have ycl := (unhide HS).cl
      have d32i : (d8 : Int) < 32 := by omega
      clear hx hz kb sz byt hg hy HS HBW 
      go_wp2
      refine wp_region_noPanic ?_
      go_region
      refine NoPanic.normal ?_
      obtain ⟨v13, hv13⟩ : ∃ v13, (v12.setCell ⟨gl, d8, none⟩ (.int .u8 (y.toNat : Int))).drew = v13 := ⟨_, rfl⟩
      rw [hv13] at HS2 HBW2  ⊢
      have HS := HS2
      have HBW := HBW2
      clear hcell hfree hxor ycl d32i HS2 HBW2 hv13 
      obtain ⟨hg, cs, kb, sz, byt⟩ := (unhide HS).hr.far
      obtain ⟨x, hx⟩ := byt d8 d32
      obtain ⟨z, hz⟩ := byt 0 (by omega)
      have hcell : v13.cell? ⟨gr, d8, none⟩ = some (.int .u8 (x.toNat : Int)) := (kb.cell d8).trans hx
      have hfree := kb.free d8
      have hxor := bx8 x c
      rw [hc] at hxor
      obtain ⟨y, hy⟩ : ∃ y, (x ^^^ c) = y := ⟨_, rfl⟩
      rw [hy] at hxor
      have HS2 : Hid (Snd w.heap.size ((v13.setCell ⟨gr, d8, none⟩ (.int .u8 (y.toNat : Int))).drew) bi bm bn br bo bp bq bl (i : Int) (m : Int) (n : Int) gr rc go oc pa N pc qa M qc gl lc) := hide (((unhide HS).turn (c := y) kb hz).low (low_drew _))
      have HBW2 : Hid (Below w.heap.size w ((v13.setCell ⟨gr, d8, none⟩ (.int .u8 (y.toNat : Int))).drew)) := hide (low_trans (low_turn (unhide HBW) hg) (low_drew _))
      have ycl := (unhide HS).cr
      have d32i : (d8 : Int) < 32 := by omega
      clear hx hz kb sz byt hg hy HS HBW 
      go_wp2
      refine wp_region_noPanic ?_
      go_region
      refine NoPanic.normal ?_
      obtain ⟨v14, hv14⟩ : ∃ v14, (v13.setCell ⟨gr, d8, none⟩ (.int .u8 (y.toNat : Int))).drew = v14 := ⟨_, rfl⟩
      rw [hv14] at HS2 HBW2  ⊢
      have HS := HS2
      have HBW := HBW2
      clear hcell hfree hxor ycl d32i HS2 HBW2 hv14 
      go_wp2_with (go_at_call 40; fail)
      refine (record_any (unhide HS).cp (unhide HS).ci (unhide HS).cn (unhide HS).cl (unhide HS).cr (unhide HS).hp hN1000 (unhide HS).hl (unhide HS).hr).mono ?_
      rintro e v15 ⟨rfl, b⟩
      have HS := hide ((unhide HS).low b)
      have HBW := hide (low_trans (unhide HBW) b)
      clear b
      have ycm := (unhide HS).cm
      have hmq : ((m : Int) == 0) = false := by have := unhide H0; simp; omega
      go_wp2_with (go_at_call 42; fail)
      refine (tree_any (unhide HS).cq (unhide HS).cm (unhide HS).cn (unhide HS).co (unhide HS).cr (unhide HS).hq hM1000 (unhide HS).ho (unhide HS).hr).mono ?_
      rintro e v16 ⟨rfl, b⟩
      have HS := hide ((unhide HS).low b)
      have HBW := hide (low_trans (unhide HBW) b)
      clear b
      clear hmq
      obtain ⟨hg, cs, kb, sz, byt⟩ := (unhide HS).hr.far
      obtain ⟨x, hx⟩ := byt d8 d32
      obtain ⟨z, hz⟩ := byt 0 (by omega)
      have hcell : v16.cell? ⟨gr, d8, none⟩ = some (.int .u8 (x.toNat : Int)) := (kb.cell d8).trans hx
      have hfree := kb.free d8
      have hxor := bx8 x c
      rw [hc] at hxor
      obtain ⟨y, hy⟩ : ∃ y, (x ^^^ c) = y := ⟨_, rfl⟩
      rw [hy] at hxor
      have HS2 : Hid (Snd w.heap.size ((v16.setCell ⟨gr, d8, none⟩ (.int .u8 (y.toNat : Int))).drew) bi bm bn br bo bp bq bl (i : Int) (m : Int) (n : Int) gr rc go oc pa N pc qa M qc gl lc) := hide (((unhide HS).turn (c := y) kb hz).low (low_drew _))
      have HBW2 : Hid (Below w.heap.size w ((v16.setCell ⟨gr, d8, none⟩ (.int .u8 (y.toNat : Int))).drew)) := hide (low_trans (low_turn (unhide HBW) hg) (low_drew _))
      have ycl := (unhide HS).cr
      have d32i : (d8 : Int) < 32 := by omega
      clear hx hz kb sz byt hg hy HS HBW 
      go_wp2
      refine wp_region_noPanic ?_
      go_region
      refine NoPanic.normal ?_
      obtain ⟨v17, hv17⟩ : ∃ v17, (v16.setCell ⟨gr, d8, none⟩ (.int .u8 (y.toNat : Int))).drew = v17 := ⟨_, rfl⟩
      rw [hv17] at HS2 HBW2  ⊢
      have HS := HS2
      have HBW := HBW2
      clear hcell hfree hxor ycl d32i HS2 HBW2 hv17 
      clear ycm
      have ycp0 := (unhide HS).cp
      clear ycp0
      go_wp2
      refine useLoop 2 (loopP_any (B := B) (X := X) (d8 := d8) (c := c) p4 e8 hc hN1000 (unhide HS) (unhide HBW) ?_)
      intro d159 d160 d161 d162 d163 d164 d165 d166 d167 d168 d169 d170 d171 d172 d173 d174 d175 d176 d177 d178 d179 d180 d181 d182 d183 d184 d185 d186 d187 d188 d189 d190 d191 d192 d193 d194 d195 d196 d197 d198 d199 d200 d201 d202 d203 w11 hS11 hB11
      have HS := hide hS11
      have HBW := hide hB11
      clear hS11 hB11
      go_wp2
      refine useLoop 4 (loopQ_any (B := B) (X := X) (d8 := d8) (c := c) p4 e8 hc hM1000 (unhide HS) (unhide HBW) ?_)
      intro f204 f205 f206 f207 f208 f209 f210 f211 f212 f213 f214 f215 f216 f217 f218 f219 f220 f221 f222 f223 f224 f225 f226 f227 f228 f229 f230 f231 f232 f233 f234 f235 f236 f237 f238 f239 f240 f241 f242 f243 f244 f245 f246 f247 f248 w12 hS12 hB12
      have HS := hide hS12
      have HBW := hide hB12
      clear hS12 hB12
      go_wp2
      refine useNext (lastLook_any hN999 (unhide HPL) (fun ls lb rb hl => unhide HRM lb rb lb ls (by rw [hl]; exact unhide HPN)) (unhide HS) (unhide HBW) ?_)
      intro g249 g250 g251 g252 g253 g254 g255 g256 g257 g258 g259 g260 g261 g262 w13 hB13
      have HZ := hide hB13
      clear hB13
      go_wp2
      go_ret
      exact ⟨rfl, unhide HZ⟩
end Go.Proofs.YtkpmbbeidcpclaaGreatDoor

namespace Go.Proofs.YtkpmbbeidcpclaaGreatDoor
open Go.RowKit

set_option maxRecDepth 100000 in
set_option maxHeartbeats 4000000 in
theorem proves_zero {w : World} {F i m n K : Nat} {bit : Int} {lv : List Bs} (h : Lg w F K lv) (h32 : All32 lv) (hn1 : 1 ≤ n) (hn : n ≤ K) (hi : i < n) (hm : m ≤ n) (h0 : m = 0) :
    Calls Tryz.prog 9 #[.pointer (some ⟨F, 0, none⟩), .int .i64 (i : Int), .int .i64 (m : Int), .int .i64 (n : Int), .int .i64 bit] w fun e w' => e = .returned (.bool true) ∧ Below w.heap.size w w' := by
  have H0 := hide h0
  clear h0
  have hK := h.few
  have hlen := h.len
  have hlt : (lv.take n).length = n := by rw [List.length_take]; omega
  have ht32 : All32 (lv.take n) := fun x hx => h32 x (List.mem_of_mem_take hx)
  obtain ⟨W3, hW3⟩ : ∃ W3, ((w.alloc (.cells #[.int .i64 (i : Int)] 3)).alloc (.cells #[.int .i64 (m : Int)] 3)).alloc (.cells #[.int .i64 (n : Int)] 3) = W3 := ⟨_, rfl⟩
  obtain ⟨w1, hw1⟩ : ∃ w1, w.alloc (.cells #[.int .i64 (i : Int)] 3) = w1 := ⟨_, rfl⟩
  obtain ⟨w2, hw2⟩ : ∃ w2, w1.alloc (.cells #[.int .i64 (m : Int)] 3) = w2 := ⟨_, rfl⟩
  have hW3' : w2.alloc (.cells #[.int .i64 (n : Int)] 3) = W3 := by rw [← hw2, ← hw1]; exact hW3
  have s1 : w1.heap.size = w.heap.size + 1 := by rw [← hw1]; simp
  have s2 : w2.heap.size = w.heap.size + 1 + 1 := by rw [← hw2]; simp [s1]
  have b1 : Below w.heap.size w w1 := by rw [← hw1]; exact (Below.refl _ _).alloc (Nat.le_refl _) _
  have b2 : Below w1.heap.size w1 w2 := by rw [← hw2]; exact (Below.refl _ _).alloc (Nat.le_refl _) _
  have b3 : Below w2.heap.size w2 W3 := by rw [← hW3']; exact (Below.refl _ _).alloc (Nat.le_refl _) _
  have k1 : Blk W3 w.heap.size #[.int .i64 (i : Int)] 3 := by
    have := Blk.new w #[.int .i64 (i : Int)] 3
    rw [hw1] at this
    exact (this.low b2).low b3
  have k2 : Blk W3 (w.heap.size + 1) #[.int .i64 (m : Int)] 3 := by
    have := Blk.new w1 #[.int .i64 (m : Int)] 3
    rw [hw2, s1] at this
    exact this.low b3
  have k3 : Blk W3 (w.heap.size + 1 + 1) #[.int .i64 (n : Int)] 3 := by
    have := Blk.new w2 #[.int .i64 (n : Int)] 3
    rw [hW3', s2] at this
    exact this
  have bW := low_trans (low_trans b1 b2) b3
  have hlW := h.low bW
  have ci : W3.cell? ⟨w.heap.size, 0, none⟩ = some (.int .i64 (i : Int)) := k1.cell 0
  have cm : W3.cell? ⟨w.heap.size + 1, 0, none⟩ = some (.int .i64 (m : Int)) := k2.cell 0
  have cn : W3.cell? ⟨w.heap.size + 1 + 1, 0, none⟩ = some (.int .i64 (n : Int)) := k3.cell 0
  obtain ⟨leaf, hleaf⟩ : ∃ x, lv[i]? = some x := ⟨_, List.getElem?_eq_getElem (by omega)⟩
  have hleaft : (lv.take n)[i]? = some leaf := by rw [List.getElem?_take, if_pos hi]; exact hleaf
  have HRO := hide (rec_ok hlt hleaft (by omega) ht32 (pathP_32 _ _ _ ht32))
  have HRM := hide (fun (x root l2 : Bs) (ps : List Bs) (hps : ps.length = (pathP 1000 i (lv.take n)).length) => rec_more2 (x := x) (root := root) (l2 := l2) hlt hleaft (by omega) hps)
  have hleaf32 : leaf.length = 32 := h32 _ (List.mem_of_getElem? hleaf)
  have HTR : Hid (treeE (if m = 0 then [] else subP 1000 m (lv.take n) true) (m : Int) (n : Int) (mth 1000 (lv.take m)) (mth 1000 (lv.take n)) = 0) := hide (by
    by_cases h0 : m = 0
    · subst h0
      rw [if_pos rfl]
      unfold treeE
      rw [partB_at hm (by omega), if_neg (by decide)]
      rfl
    · rw [if_neg h0]
      have := grow_ok2 (m := m) hlt (by omega) hm (by omega) ht32
      rw [List.take_take, Nat.min_eq_left hm] at this
      exact this)
  have HH : Hid (∀ wx, Lg wx F K lv → Calls Tryz.prog 25 #[.pointer (some ⟨F, 0, none⟩), .int .i64 0, .int .i64 (i : Int)] wx fun e w' => ∃ a c, e = .returned (.tuple #[.slice a 32 c, .int .i64 0]) ∧ OwnB wx.heap.size w' (.slice a 32 c) leaf ∧ Below wx.heap.size wx w') := hide (fun wx hx => by
    obtain ⟨⟨bs, hs, hl, hi2⟩, hl3, hl4, _⟩ := hx
    have := logHash_ok (v := 0) (j := i) hl hi2 hl3 (by omega) (by omega) (by omega)
    have e : treeH 0 (lv.drop (i * 2 ^ 0)) = leaf := by
      rw [Nat.pow_zero, Nat.mul_one]
      rw [List.getElem?_eq_some_iff] at hleaf
      obtain ⟨q1, q2⟩ := hleaf
      rw [List.drop_eq_getElem_cons q1, q2]
      rfl
    rw [e] at this
    exact this)
  have HP32 := hide (pathP_32 1000 i _ ht32)
  have HQ32 : Hid (All32 (if m = 0 then [] else subP 1000 m (lv.take n) true)) := hide (by
    split
    · exact fun x hx => by cases hx
    · exact subP_32 _ _ _ _ ht32)
  have HPl := hide (pathP_len 1000 i (lv.take n))
  have HPs : Hid ((pathP 1000 i (lv.take n)).length ≤ 999) := hide (by have := path_short 1000 i (lv.take n) (by rw [hlt]; exact hn1) (by rw [hlt]; omega); rw [hlt] at this; omega)
  have HQl : Hid ((if m = 0 then [] else subP 1000 m (lv.take n) true).length ≤ 1000) := hide (by
    split
    · exact Nat.zero_le _
    · exact subP_len _ _ _ _)
  have HR1 := hide (fun wx (hx : Lg wx F K lv) => logRoot_in hx hn)
  have HR2 := hide (fun wx (hx : Lg wx F K lv) => logRoot_in (m := m) hx (by omega))
  have HPV := hide (fun wx (hx : Lg wx F K lv) => logProve_in hx hn hi)
  have HTV := hide (fun wx (hx : Lg wx F K lv) => logTree_in hx hn hm)
  obtain ⟨PP, hPP⟩ : ∃ PP, pathP 1000 i (lv.take n) = PP := ⟨_, rfl⟩
  obtain ⟨QQ, hQQ⟩ : ∃ QQ, (if m = 0 then [] else subP 1000 m (lv.take n) true) = QQ := ⟨_, rfl⟩
  obtain ⟨RR, hRR⟩ : ∃ RR, mth 1000 (lv.take n) = RR := ⟨_, rfl⟩
  obtain ⟨OO, hOO⟩ : ∃ OO, mth 1000 (lv.take m) = OO := ⟨_, rfl⟩
  rw [hPP] at HRO HRM HP32 HPl HPV HPs
  rw [hQQ] at HTR HQ32 HQl HTV
  rw [hRR] at HRO HTR HR1
  rw [hOO] at HTR HR2
  have HLG := hide hlW
  have HBW := hide bW
  have HW3 := hide hW3
  have HL32 := hide hleaf32
  obtain ⟨bi, hbi⟩ : ∃ bi, w.heap.size = bi := ⟨_, rfl⟩
  obtain ⟨bm, hbm⟩ : ∃ bm, w.heap.size + 1 = bm := ⟨_, rfl⟩
  obtain ⟨bn, hbn⟩ : ∃ bn, w.heap.size + 1 + 1 = bn := ⟨_, rfl⟩
  have HBX := hide (And.intro hbi (And.intro hbm hbn))
  rw [hbi] at ci
  rw [hbm] at cm
  rw [hbn] at cn
  have HCbi := hide ci
  have HCbm := hide cm
  have HCbn := hide cn
  clear h hlW bW k1 k2 k3 b1 b2 b3 s1 s2 hW3' hw1 hw2 hW3 ci cm cn hPP hQQ hRR hOO hlen hlt ht32 hleaf hleaft hleaf32 hbi hbm hbn h32
  obtain ⟨N, hNN⟩ : ∃ N, PP.length = N := ⟨_, rfl⟩
  obtain ⟨M, hMM⟩ : ∃ M, QQ.length = M := ⟨_, rfl⟩
  have HNN := hide hNN
  have HMM := hide hMM
  clear hNN hMM
  go_enter Tryz.func9, Tryz.ntmps9
  go_wp2_with (go_at_call 35; fail)
  rw [unhide HW3, (unhide HBX).2.2, (unhide HBX).2.1, (unhide HBX).1]
  refine (unhide HR1 _ (unhide HLG)).mono ?_
  rintro e w4 ⟨xa, rc, rfl, x32, o4, b4⟩
  obtain ⟨gr, xd, xv, _⟩ := OwnB.adr o4 x32
  obtain ⟨rfl, _, rfl⟩ := Value.slice.inj xv
  obtain ⟨W4, hW4⟩ : ∃ W4, w4.alloc (.cells #[.slice (some ⟨gr, 0, none⟩) 32 rc] 32) = W4 := ⟨_, rfl⟩
  have c4 : Below w4.heap.size w4 W4 := by rw [← hW4]; exact (Below.refl _ _).alloc (Nat.le_refl _) _
  have k4 : Blk W4 w4.heap.size #[.slice (some ⟨gr, 0, none⟩) 32 rc] 32 := by rw [← hW4]; exact Blk.new _ _ _
  obtain ⟨br, hbr⟩ : ∃ br, w4.heap.size = br := ⟨_, rfl⟩
  have d4 := low_trans b4 c4
  have HCbi := hide ((d4.cell (lt_of_cell (unhide HCbi))).trans (unhide HCbi))
  have HCbm := hide ((d4.cell (lt_of_cell (unhide HCbm))).trans (unhide HCbm))
  have HCbn := hide ((d4.cell (lt_of_cell (unhide HCbn))).trans (unhide HCbn))
  rw [hbr] at k4
  have HCbr : Hid (W4.cell? ⟨br, 0, none⟩ = some (.slice (some ⟨gr, 0, none⟩) 32 rc)) := hide (k4.cell 0)
  have HOR := hide (OwnB.less (unhide HBW).size (OwnB.low o4 c4))
  have HOR3 := hide x32
  have HLG := hide ((unhide HLG).low d4)
  have HBW := hide (low_trans (unhide HBW) d4)
  have ybi : (w4.alloc (.cells #[.slice (some ⟨gr, 0, none⟩) 32 rc] 32)).cell? ⟨bi, 0, none⟩ = some (.int .i64 (i : Int)) := by rw [hW4]; exact unhide HCbi
  have ybm : (w4.alloc (.cells #[.slice (some ⟨gr, 0, none⟩) 32 rc] 32)).cell? ⟨bm, 0, none⟩ = some (.int .i64 (m : Int)) := by rw [hW4]; exact unhide HCbm
  have ybn : (w4.alloc (.cells #[.slice (some ⟨gr, 0, none⟩) 32 rc] 32)).cell? ⟨bn, 0, none⟩ = some (.int .i64 (n : Int)) := by rw [hW4]; exact unhide HCbn
  have ybr : (w4.alloc (.cells #[.slice (some ⟨gr, 0, none⟩) 32 rc] 32)).cell? ⟨br, 0, none⟩ = some (.slice (some ⟨gr, 0, none⟩) 32 rc) := by rw [hW4]; exact unhide HCbr
  have HW4 := hide hW4
  have HBbr := hide hbr
  clear o4 b4 c4 d4 k4 hW4 hbr x32 xv
  go_wp2_with ((go_at_call 35; fail))
  rw [unhide HW4, unhide HBbr]
  clear ybi ybm ybn ybr
  refine (unhide HR2 _ (unhide HLG)).mono ?_
  rintro e w5 ⟨xa, oc, rfl, x32, o5, b5⟩
  obtain ⟨go, xd, xv, _⟩ := OwnB.adr o5 x32
  obtain ⟨rfl, _, rfl⟩ := Value.slice.inj xv
  obtain ⟨W5, hW5⟩ : ∃ W5, w5.alloc (.cells #[.slice (some ⟨go, 0, none⟩) 32 oc] 32) = W5 := ⟨_, rfl⟩
  have c5 : Below w5.heap.size w5 W5 := by rw [← hW5]; exact (Below.refl _ _).alloc (Nat.le_refl _) _
  have k5 : Blk W5 w5.heap.size #[.slice (some ⟨go, 0, none⟩) 32 oc] 32 := by rw [← hW5]; exact Blk.new _ _ _
  obtain ⟨bo, hbo⟩ : ∃ bo, w5.heap.size = bo := ⟨_, rfl⟩
  have d5 := low_trans b5 c5
  have HCbi := hide ((d5.cell (lt_of_cell (unhide HCbi))).trans (unhide HCbi))
  have HCbm := hide ((d5.cell (lt_of_cell (unhide HCbm))).trans (unhide HCbm))
  have HCbn := hide ((d5.cell (lt_of_cell (unhide HCbn))).trans (unhide HCbn))
  have HCbr := hide ((d5.cell (lt_of_cell (unhide HCbr))).trans (unhide HCbr))
  rw [hbo] at k5
  have HCbo : Hid (W5.cell? ⟨bo, 0, none⟩ = some (.slice (some ⟨go, 0, none⟩) 32 oc)) := hide (k5.cell 0)
  have HOR := hide (OwnB.low (unhide HOR) d5)
  have HOO := hide (OwnB.less (unhide HBW).size (OwnB.low o5 c5))
  have HOO3 := hide x32
  have HLG := hide ((unhide HLG).low d5)
  have HBW := hide (low_trans (unhide HBW) d5)
  have ybi : (w5.alloc (.cells #[.slice (some ⟨go, 0, none⟩) 32 oc] 32)).cell? ⟨bi, 0, none⟩ = some (.int .i64 (i : Int)) := by rw [hW5]; exact unhide HCbi
  have ybm : (w5.alloc (.cells #[.slice (some ⟨go, 0, none⟩) 32 oc] 32)).cell? ⟨bm, 0, none⟩ = some (.int .i64 (m : Int)) := by rw [hW5]; exact unhide HCbm
  have ybn : (w5.alloc (.cells #[.slice (some ⟨go, 0, none⟩) 32 oc] 32)).cell? ⟨bn, 0, none⟩ = some (.int .i64 (n : Int)) := by rw [hW5]; exact unhide HCbn
  have ybr : (w5.alloc (.cells #[.slice (some ⟨go, 0, none⟩) 32 oc] 32)).cell? ⟨br, 0, none⟩ = some (.slice (some ⟨gr, 0, none⟩) 32 rc) := by rw [hW5]; exact unhide HCbr
  have ybo : (w5.alloc (.cells #[.slice (some ⟨go, 0, none⟩) 32 oc] 32)).cell? ⟨bo, 0, none⟩ = some (.slice (some ⟨go, 0, none⟩) 32 oc) := by rw [hW5]; exact unhide HCbo
  have HW5 := hide hW5
  have HBbo := hide hbo
  clear o5 b5 c5 d5 k5 hW5 hbo x32 xv
  go_wp2_with ((go_at_call 36; fail))
  rw [unhide HW5, unhide HBbo]
  clear ybi ybm ybn ybr ybo
  refine (unhide HPV _ (unhide HLG)).mono ?_
  have HBRS : Hid (br < W5.heap.size ∧ bi < W5.heap.size ∧ bn < W5.heap.size) := hide ⟨lt_of_cell (unhide HCbr), lt_of_cell (unhide HCbi), lt_of_cell (unhide HCbn)⟩
  rintro e w6 ⟨xv, rfl, o6, b6⟩
  obtain ⟨pa, pc, xe, _, _⟩ := o6.pat
  rw [unhide HNN] at xe
  subst xe
  obtain ⟨W6, hW6⟩ : ∃ W6, w6.alloc (.cells #[.slice pa N pc] 22) = W6 := ⟨_, rfl⟩
  have c6 : Below w6.heap.size w6 W6 := by rw [← hW6]; exact (Below.refl _ _).alloc (Nat.le_refl _) _
  have k6 : Blk W6 w6.heap.size #[.slice pa N pc] 22 := by rw [← hW6]; exact Blk.new _ _ _
  obtain ⟨bp, hbp⟩ : ∃ bp, w6.heap.size = bp := ⟨_, rfl⟩
  have d6 := low_trans b6 c6
  have HCbi := hide ((d6.cell (lt_of_cell (unhide HCbi))).trans (unhide HCbi))
  have HCbm := hide ((d6.cell (lt_of_cell (unhide HCbm))).trans (unhide HCbm))
  have HCbn := hide ((d6.cell (lt_of_cell (unhide HCbn))).trans (unhide HCbn))
  have HCbr := hide ((d6.cell (lt_of_cell (unhide HCbr))).trans (unhide HCbr))
  have HCbo := hide ((d6.cell (lt_of_cell (unhide HCbo))).trans (unhide HCbo))
  rw [hbp] at k6
  have HCbp : Hid (W6.cell? ⟨bp, 0, none⟩ = some (.slice pa N pc)) := hide (k6.cell 0)
  have HOR := hide (OwnB.low (unhide HOR) d6)
  have HOO := hide (OwnB.low (unhide HOO) d6)
  have HOP := hide (LvAt.less (unhide HBW).size (LvAt.low o6 c6))
  have HLG := hide ((unhide HLG).low d6)
  have HBW := hide (low_trans (unhide HBW) d6)
  have ybi : (w6.alloc (.cells #[.slice pa N pc] 22)).cell? ⟨bi, 0, none⟩ = some (.int .i64 (i : Int)) := by rw [hW6]; exact unhide HCbi
  have ybm : (w6.alloc (.cells #[.slice pa N pc] 22)).cell? ⟨bm, 0, none⟩ = some (.int .i64 (m : Int)) := by rw [hW6]; exact unhide HCbm
  have ybn : (w6.alloc (.cells #[.slice pa N pc] 22)).cell? ⟨bn, 0, none⟩ = some (.int .i64 (n : Int)) := by rw [hW6]; exact unhide HCbn
  have ybr : (w6.alloc (.cells #[.slice pa N pc] 22)).cell? ⟨br, 0, none⟩ = some (.slice (some ⟨gr, 0, none⟩) 32 rc) := by rw [hW6]; exact unhide HCbr
  have ybo : (w6.alloc (.cells #[.slice pa N pc] 22)).cell? ⟨bo, 0, none⟩ = some (.slice (some ⟨go, 0, none⟩) 32 oc) := by rw [hW6]; exact unhide HCbo
  have ybp : (w6.alloc (.cells #[.slice pa N pc] 22)).cell? ⟨bp, 0, none⟩ = some (.slice pa N pc) := by rw [hW6]; exact unhide HCbp
  have HPB0 : Hid (∀ pb, pa = some ⟨pb, 0, none⟩ → pb ≠ br ∧ pb ≠ bi ∧ pb ≠ bn ∧ pb < bp) := hide (fun pb e => by
    subst e
    obtain ⟨us, o1, _⟩ := o6
    obtain ⟨q1, cu, q2⟩ := row29 (g := pb) o1 rfl
    have q3 : pb < w6.heap.size := (Array.getElem?_eq_some_iff.1 q2).1
    have q4 := unhide HBRS
    have q5 : W5.heap.size ≤ pb := q1
    rw [hbp] at q3
    exact ⟨by omega, by omega, by omega, q3⟩)
  have HW6 := hide hW6
  have HBbp := hide hbp
  clear o6 b6 c6 d6 k6 hW6 hbp 
  have HPB : Hid (∀ pb, pa = some ⟨pb, 0, none⟩ → pb ≠ br ∧ pb ≠ bi ∧ pb ≠ bn ∧ pb < bp) := HPB0
  go_wp2_with ((go_at_call 37; fail))
  rw [unhide HW6, unhide HBbp]
  clear ybi ybm ybn ybr ybo ybp
  refine (unhide HTV _ (unhide HLG)).mono ?_
  rintro e w7 ⟨xv, rfl, o7, b7⟩
  obtain ⟨qa, qc, xe, _, _⟩ := o7.pat
  rw [unhide HMM] at xe
  subst xe
  obtain ⟨W7, hW7⟩ : ∃ W7, w7.alloc (.cells #[.slice qa M qc] 22) = W7 := ⟨_, rfl⟩
  have c7 : Below w7.heap.size w7 W7 := by rw [← hW7]; exact (Below.refl _ _).alloc (Nat.le_refl _) _
  have k7 : Blk W7 w7.heap.size #[.slice qa M qc] 22 := by rw [← hW7]; exact Blk.new _ _ _
  obtain ⟨bq, hbq⟩ : ∃ bq, w7.heap.size = bq := ⟨_, rfl⟩
  have d7 := low_trans b7 c7
  have HCbi := hide ((d7.cell (lt_of_cell (unhide HCbi))).trans (unhide HCbi))
  have HCbm := hide ((d7.cell (lt_of_cell (unhide HCbm))).trans (unhide HCbm))
  have HCbn := hide ((d7.cell (lt_of_cell (unhide HCbn))).trans (unhide HCbn))
  have HCbr := hide ((d7.cell (lt_of_cell (unhide HCbr))).trans (unhide HCbr))
  have HCbo := hide ((d7.cell (lt_of_cell (unhide HCbo))).trans (unhide HCbo))
  have HCbp := hide ((d7.cell (lt_of_cell (unhide HCbp))).trans (unhide HCbp))
  rw [hbq] at k7
  have HCbq : Hid (W7.cell? ⟨bq, 0, none⟩ = some (.slice qa M qc)) := hide (k7.cell 0)
  have HOR := hide (OwnB.low (unhide HOR) d7)
  have HOO := hide (OwnB.low (unhide HOO) d7)
  have HOP := hide (LvAt.low (unhide HOP) d7)
  have HOQ := hide (LvAt.less (unhide HBW).size (LvAt.low o7 c7))
  have HLG := hide ((unhide HLG).low d7)
  have HBW := hide (low_trans (unhide HBW) d7)
  have ybi : (w7.alloc (.cells #[.slice qa M qc] 22)).cell? ⟨bi, 0, none⟩ = some (.int .i64 (i : Int)) := by rw [hW7]; exact unhide HCbi
  have ybm : (w7.alloc (.cells #[.slice qa M qc] 22)).cell? ⟨bm, 0, none⟩ = some (.int .i64 (m : Int)) := by rw [hW7]; exact unhide HCbm
  have ybn : (w7.alloc (.cells #[.slice qa M qc] 22)).cell? ⟨bn, 0, none⟩ = some (.int .i64 (n : Int)) := by rw [hW7]; exact unhide HCbn
  have ybr : (w7.alloc (.cells #[.slice qa M qc] 22)).cell? ⟨br, 0, none⟩ = some (.slice (some ⟨gr, 0, none⟩) 32 rc) := by rw [hW7]; exact unhide HCbr
  have ybo : (w7.alloc (.cells #[.slice qa M qc] 22)).cell? ⟨bo, 0, none⟩ = some (.slice (some ⟨go, 0, none⟩) 32 oc) := by rw [hW7]; exact unhide HCbo
  have ybp : (w7.alloc (.cells #[.slice qa M qc] 22)).cell? ⟨bp, 0, none⟩ = some (.slice pa N pc) := by rw [hW7]; exact unhide HCbp
  have ybq : (w7.alloc (.cells #[.slice qa M qc] 22)).cell? ⟨bq, 0, none⟩ = some (.slice qa M qc) := by rw [hW7]; exact unhide HCbq
  have HW7 := hide hW7
  have HBbq := hide hbq
  clear o7 b7 c7 d7 k7 hW7 hbq 
  go_wp2_with ((go_at_call 25; fail))
  rw [unhide HW7, unhide HBbq]
  clear ybi ybm ybn ybr ybo ybp ybq
  refine (unhide HH _ (unhide HLG)).mono ?_
  have HBLS : Hid (bp < W7.heap.size) := hide (lt_of_cell (unhide HCbp))
  rintro e w8 ⟨xa, lc, rfl, o8, b8⟩
  have x32 := unhide HL32
  obtain ⟨gl, xd, xv, _⟩ := OwnB.adr o8 x32
  obtain ⟨rfl, _, rfl⟩ := Value.slice.inj xv
  obtain ⟨W8, hW8⟩ : ∃ W8, w8.alloc (.cells #[.slice (some ⟨gl, 0, none⟩) 32 lc] 32) = W8 := ⟨_, rfl⟩
  have c8 : Below w8.heap.size w8 W8 := by rw [← hW8]; exact (Below.refl _ _).alloc (Nat.le_refl _) _
  have k8 : Blk W8 w8.heap.size #[.slice (some ⟨gl, 0, none⟩) 32 lc] 32 := by rw [← hW8]; exact Blk.new _ _ _
  obtain ⟨bl, hbl⟩ : ∃ bl, w8.heap.size = bl := ⟨_, rfl⟩
  have d8 := low_trans b8 c8
  have HCbi := hide ((d8.cell (lt_of_cell (unhide HCbi))).trans (unhide HCbi))
  have HCbm := hide ((d8.cell (lt_of_cell (unhide HCbm))).trans (unhide HCbm))
  have HCbn := hide ((d8.cell (lt_of_cell (unhide HCbn))).trans (unhide HCbn))
  have HCbr := hide ((d8.cell (lt_of_cell (unhide HCbr))).trans (unhide HCbr))
  have HCbo := hide ((d8.cell (lt_of_cell (unhide HCbo))).trans (unhide HCbo))
  have HCbp := hide ((d8.cell (lt_of_cell (unhide HCbp))).trans (unhide HCbp))
  have HCbq := hide ((d8.cell (lt_of_cell (unhide HCbq))).trans (unhide HCbq))
  rw [hbl] at k8
  have HCbl : Hid (W8.cell? ⟨bl, 0, none⟩ = some (.slice (some ⟨gl, 0, none⟩) 32 lc)) := hide (k8.cell 0)
  have HOR := hide (OwnB.low (unhide HOR) d8)
  have HOO := hide (OwnB.low (unhide HOO) d8)
  have HOP := hide (LvAt.low (unhide HOP) d8)
  have HOQ := hide (LvAt.low (unhide HOQ) d8)
  have HOL := hide (OwnB.less (unhide HBW).size (OwnB.low o8 c8))
  have HOL3 := hide x32
  have HLG := hide ((unhide HLG).low d8)
  have HBW := hide (low_trans (unhide HBW) d8)
  have ybi : (w8.alloc (.cells #[.slice (some ⟨gl, 0, none⟩) 32 lc] 32)).cell? ⟨bi, 0, none⟩ = some (.int .i64 (i : Int)) := by rw [hW8]; exact unhide HCbi
  have ybm : (w8.alloc (.cells #[.slice (some ⟨gl, 0, none⟩) 32 lc] 32)).cell? ⟨bm, 0, none⟩ = some (.int .i64 (m : Int)) := by rw [hW8]; exact unhide HCbm
  have ybn : (w8.alloc (.cells #[.slice (some ⟨gl, 0, none⟩) 32 lc] 32)).cell? ⟨bn, 0, none⟩ = some (.int .i64 (n : Int)) := by rw [hW8]; exact unhide HCbn
  have ybr : (w8.alloc (.cells #[.slice (some ⟨gl, 0, none⟩) 32 lc] 32)).cell? ⟨br, 0, none⟩ = some (.slice (some ⟨gr, 0, none⟩) 32 rc) := by rw [hW8]; exact unhide HCbr
  have ybo : (w8.alloc (.cells #[.slice (some ⟨gl, 0, none⟩) 32 lc] 32)).cell? ⟨bo, 0, none⟩ = some (.slice (some ⟨go, 0, none⟩) 32 oc) := by rw [hW8]; exact unhide HCbo
  have ybp : (w8.alloc (.cells #[.slice (some ⟨gl, 0, none⟩) 32 lc] 32)).cell? ⟨bp, 0, none⟩ = some (.slice pa N pc) := by rw [hW8]; exact unhide HCbp
  have ybq : (w8.alloc (.cells #[.slice (some ⟨gl, 0, none⟩) 32 lc] 32)).cell? ⟨bq, 0, none⟩ = some (.slice qa M qc) := by rw [hW8]; exact unhide HCbq
  have ybl : (w8.alloc (.cells #[.slice (some ⟨gl, 0, none⟩) 32 lc] 32)).cell? ⟨bl, 0, none⟩ = some (.slice (some ⟨gl, 0, none⟩) 32 lc) := by rw [hW8]; exact unhide HCbl
  have HPL : Hid (∀ pb, pa = some ⟨pb, 0, none⟩ → pb ≠ br ∧ pb ≠ bl ∧ pb ≠ bi ∧ pb ≠ bn ∧ pb ≠ bp) := hide (fun pb e => by
    have q1 := unhide HPB pb e
    have q2 := unhide HBLS
    have q3 := b8.size
    exact ⟨q1.1, by omega, q1.2.1, q1.2.2.1, by omega⟩)
  have HW8 := hide hW8
  have HBbl := hide hbl
  clear o8 b8 c8 d8 k8 hW8 hbl x32 xv
  have HCK := hide (checkRec_any (w := W8) (i := (i : Int)) (n := (n : Int)) (c := pc) (lc := lc) (rc := rc) (unhide HNN) (by have := unhide HPl; have := unhide HNN; omega) (cap_of (unhide HOP) (unhide HNN)) (fun p hp => by rw [unhide HP32 p hp]; decide) (unhide HL32) (by omega) (unhide HOR3) (by omega) (LvAt.patAt (unhide HOP)) (own_at (unhide HOL) (unhide HOL3)) (own_at (unhide HOR) (unhide HOR3)))
  rw [unhide HRO] at HCK
  have HCT := hide (fun wx (b : Below W8.heap.size W8 wx) => checkTree_any (w := wx) (m := (m : Int)) (n := (n : Int)) (c := qc) (lc := oc) (rc := rc) (unhide HMM) (by have := unhide HQl; have := unhide HMM; omega) (cap_of (unhide HOQ) (unhide HMM)) (fun p hp => by rw [unhide HQ32 p hp]; decide) (unhide HOO3) (by omega) (unhide HOR3) (by omega) ((LvAt.patAt (unhide HOQ)).low b) ((own_at (unhide HOO) (unhide HOO3)).low b) ((own_at (unhide HOR) (unhide HOR3)).low b))
  rw [unhide HTR] at HCT
  go_wp2_with (first | (go_at_call 21; refine (errno_any _ _).mono ?_; rintro e wn ⟨rfl, hwn⟩; rw [hwn]; clear hwn wn) | (go_at_call 38; fail))
  rw [unhide HW8, unhide HBbl]
  clear ybi ybm ybn ybr ybo ybp ybq ybl
  refine (unhide HCK).mono ?_
  rintro e w9 ⟨rfl, b9⟩
  have HCbi := hide ((b9.cell (lt_of_cell (unhide HCbi))).trans (unhide HCbi))
  have ybi := unhide HCbi
  have HCbm := hide ((b9.cell (lt_of_cell (unhide HCbm))).trans (unhide HCbm))
  have ybm := unhide HCbm
  have HCbn := hide ((b9.cell (lt_of_cell (unhide HCbn))).trans (unhide HCbn))
  have ybn := unhide HCbn
  have HCbr := hide ((b9.cell (lt_of_cell (unhide HCbr))).trans (unhide HCbr))
  have ybr := unhide HCbr
  have HCbo := hide ((b9.cell (lt_of_cell (unhide HCbo))).trans (unhide HCbo))
  have ybo := unhide HCbo
  have HCbp := hide ((b9.cell (lt_of_cell (unhide HCbp))).trans (unhide HCbp))
  have ybp := unhide HCbp
  have HCbq := hide ((b9.cell (lt_of_cell (unhide HCbq))).trans (unhide HCbq))
  have ybq := unhide HCbq
  have HCbl := hide ((b9.cell (lt_of_cell (unhide HCbl))).trans (unhide HCbl))
  have ybl := unhide HCbl
  have HOR := hide (OwnB.low (unhide HOR) b9)
  have HOO := hide (OwnB.low (unhide HOO) b9)
  have HOP := hide (LvAt.low (unhide HOP) b9)
  have HOQ := hide (LvAt.low (unhide HOQ) b9)
  have HOL := hide (OwnB.low (unhide HOL) b9)
  have HCT9 := hide (unhide HCT _ b9)
  have HBW := hide (low_trans (unhide HBW) b9)
  clear b9 HCK HCT HLG
  go_wp2_with (first | (go_at_call 21; refine (errno_any _ _).mono ?_; rintro e wn ⟨rfl, hwn⟩; rw [hwn]; clear hwn wn) | (go_at_call 39; fail))
  refine (unhide HCT9).mono ?_
  rintro e w10 ⟨rfl, b10⟩
  clear ybi ybm ybn ybr ybo ybp ybq ybl
  have HCbi := hide ((b10.cell (lt_of_cell (unhide HCbi))).trans (unhide HCbi))
  have HCbm := hide ((b10.cell (lt_of_cell (unhide HCbm))).trans (unhide HCbm))
  have HCbn := hide ((b10.cell (lt_of_cell (unhide HCbn))).trans (unhide HCbn))
  have HCbr := hide ((b10.cell (lt_of_cell (unhide HCbr))).trans (unhide HCbr))
  have HCbo := hide ((b10.cell (lt_of_cell (unhide HCbo))).trans (unhide HCbo))
  have HCbp := hide ((b10.cell (lt_of_cell (unhide HCbp))).trans (unhide HCbp))
  have HCbq := hide ((b10.cell (lt_of_cell (unhide HCbq))).trans (unhide HCbq))
  have HCbl := hide ((b10.cell (lt_of_cell (unhide HCbl))).trans (unhide HCbl))
  have HOR := hide (OwnB.low (unhide HOR) b10)
  have HOO := hide (OwnB.low (unhide HOO) b10)
  have HOP := hide (LvAt.low (unhide HOP) b10)
  have HOQ := hide (LvAt.low (unhide HOQ) b10)
  have HOL := hide (OwnB.low (unhide HOL) b10)
  have HBW := hide (low_trans (unhide HBW) b10)
  have HS : Hid (Snd w.heap.size w10 bi bm bn br bo bp bq bl (i : Int) (m : Int) (n : Int) gr rc go oc pa N pc qa M qc gl lc) := hide ⟨unhide HCbi, unhide HCbm, unhide HCbn, unhide HCbr, unhide HCbo, unhide HCbp, unhide HCbq, unhide HCbl, ⟨_, unhide HOR3, unhide HOR⟩, ⟨_, unhide HOO3, unhide HOO⟩, by have := LvAt.l32 (unhide HOP) (unhide HP32); rw [unhide HNN] at this; exact this, by have := LvAt.l32 (unhide HOQ) (unhide HQ32); rw [unhide HMM] at this; exact this, ⟨_, unhide HOL3, unhide HOL⟩⟩
  have HPN : Hid (N = PP.length) := hide (unhide HNN).symm
  have hN999 : N ≤ 999 := by have := unhide HPs; have := unhide HNN; omega
  have hN1000 : N ≤ 1000 := by have := unhide HPl; have := unhide HNN; omega
  have hM1000 : M ≤ 1000 := by have := unhide HQl; have := unhide HMM; omega
  clear b10 HCT9 HOR HOO HOP HOQ HOL HOR3 HOO3 HOL3 HRO HTR HH HP32 HQ32 HPl HQl HR2 HPV HTV HL32 HNN HMM HCbi HCbm HCbn HCbr HCbo HCbp HCbq HCbl
  obtain ⟨r1, s1, B, p1, p2, p3, p4, p5⟩ := mod_256 bit
  obtain ⟨d8, hd8⟩ : ∃ d8, B / 8 = d8 := ⟨_, rfl⟩
  obtain ⟨m8, hm8⟩ : ∃ m8, B % 8 = m8 := ⟨_, rfl⟩
  have e8 : (B : Int).tdiv 8 = (d8 : Int) := by rw [Int.tdiv_eq_ediv_of_nonneg (by omega)]; omega
  have f8 : (B : Int).tmod 8 = (m8 : Int) := by rw [Int.tmod_eq_emod_of_nonneg (by omega)]; omega
  have d32 : d8 < 32 := by omega
  have l8 : m8 < 8 := by omega
  clear hd8 hm8
  go_wp2_with (go_at_call 21; refine (errno_any _ _).mono ?_; rintro e wn ⟨rfl, hwn⟩; rw [hwn]; clear hwn wn)
  go_loop [21, 22] (fun v21 v22 => ∃ k X : Nat, k ≤ m8 ∧ X < 256 ∧ v22 = .int .i64 (k : Int) ∧ v21 = .int .u8 (X : Int)) (fun _ v22 => m8 - (intOf v22).toNat)
  case atStart => exact ⟨0, 1, Nat.zero_le _, by omega, rfl, rfl⟩
  case round =>
    obtain ⟨k, X, hk, hX, rfl, rfl⟩ := hrel
    by_cases hkm : k < m8
    · go_wp2
      go_round
      case rel => exact ⟨k + 1, 2 * X % 256, hkm, Nat.mod_lt _ (by decide), by push_cast; rfl, by push_cast; rfl⟩
      case measure => simp [intOf]; omega
    · obtain ⟨c, hc⟩ : ∃ c : UInt8, c.toNat = X := ⟨UInt8.ofNat X, by rw [UInt8.toNat_ofNat']; omega⟩
      have hkm' : ¬ ((k : Int) < (m8 : Int)) := by omega
      clear hkm
      obtain ⟨hg, cs, kb, sz, byt⟩ := (unhide HS).hl.far
      obtain ⟨x, hx⟩ := byt d8 d32
      obtain ⟨z, hz⟩ := byt 0 (by omega)
      have hcell : w10.cell? ⟨gl, d8, none⟩ = some (.int .u8 (x.toNat : Int)) := (kb.cell d8).trans hx
      have hfree := kb.free d8
      have hxor := bx8 x c
      rw [hc] at hxor
      obtain ⟨y, hy⟩ : ∃ y, (x ^^^ c) = y := ⟨_, rfl⟩
      rw [hy] at hxor
      have HS2 : Hid (Snd w.heap.size ((w10.setCell ⟨gl, d8, none⟩ (.int .u8 (y.toNat : Int))).drew) bi bm bn br bo bp bq bl (i : Int) (m : Int) (n : Int) gr rc go oc pa N pc qa M qc gl lc) := hide (((unhide HS).turn (c := y) kb hz).low (low_drew _))
      have HBW2 : Hid (Below w.heap.size w ((w10.setCell ⟨gl, d8, none⟩ (.int .u8 (y.toNat : Int))).drew)) := hide (low_trans (low_turn (unhide HBW) hg) (low_drew _))
      have ycl := (unhide HS).cl
      have d32i : (d8 : Int) < 32 := by omega
      clear hx hz kb sz byt hg hy HS HBW 
      go_wp2
      refine wp_region_noPanic ?_
      go_region
      refine NoPanic.normal ?_
      obtain ⟨v11, hv11⟩ : ∃ v11, (w10.setCell ⟨gl, d8, none⟩ (.int .u8 (y.toNat : Int))).drew = v11 := ⟨_, rfl⟩
      rw [hv11] at HS2 HBW2  ⊢
      have HS := HS2
      have HBW := HBW2
      clear hcell hfree hxor ycl d32i HS2 HBW2 hv11 
      go_wp2_with (go_at_call 40; fail)
      refine (record_any (unhide HS).cp (unhide HS).ci (unhide HS).cn (unhide HS).cl (unhide HS).cr (unhide HS).hp hN1000 (unhide HS).hl (unhide HS).hr).mono ?_
      rintro e v12 ⟨rfl, b⟩
      have HS := hide ((unhide HS).low b)
      have HBW := hide (low_trans (unhide HBW) b)
      clear b
      obtain ⟨hg, cs, kb, sz, byt⟩ := (unhide HS).hl.far
      obtain ⟨x, hx⟩ := byt d8 d32
      obtain ⟨z, hz⟩ := byt 0 (by omega)
      have hcell : v12.cell? ⟨gl, d8, none⟩ = some (.int .u8 (x.toNat : Int)) := (kb.cell d8).trans hx
      have hfree := kb.free d8
      have hxor := bx8 x c
      rw [hc] at hxor
      obtain ⟨y, hy⟩ : ∃ y, (x ^^^ c) = y := ⟨_, rfl⟩
      rw [hy] at hxor
      have HS2 : Hid (Snd w.heap.size ((v12.setCell ⟨gl, d8, none⟩ (.int .u8 (y.toNat : Int))).drew) bi bm bn br bo bp bq bl (i : Int) (m : Int) (n : Int) gr rc go oc pa N pc qa M qc gl lc) := hide (((unhide HS).turn (c := y) kb hz).low (low_drew _))
      have HBW2 : Hid (Below w.heap.size w ((v12.setCell ⟨gl, d8, none⟩ (.int .u8 (y.toNat : Int))).drew)) := hide (low_trans (low_turn (unhide HBW) hg) (low_drew _))
      have ycl := (unhide HS).cl
      have d32i : (d8 : Int) < 32 := by omega
      clear hx hz kb sz byt hg hy HS HBW 
      go_wp2
      refine wp_region_noPanic ?_
      go_region
      refine NoPanic.normal ?_
      obtain ⟨v13, hv13⟩ : ∃ v13, (v12.setCell ⟨gl, d8, none⟩ (.int .u8 (y.toNat : Int))).drew = v13 := ⟨_, rfl⟩
      rw [hv13] at HS2 HBW2  ⊢
      have HS := HS2
      have HBW := HBW2
      clear hcell hfree hxor ycl d32i HS2 HBW2 hv13 
      obtain ⟨hg, cs, kb, sz, byt⟩ := (unhide HS).hr.far
      obtain ⟨x, hx⟩ := byt d8 d32
      obtain ⟨z, hz⟩ := byt 0 (by omega)
      have hcell : v13.cell? ⟨gr, d8, none⟩ = some (.int .u8 (x.toNat : Int)) := (kb.cell d8).trans hx
      have hfree := kb.free d8
      have hxor := bx8 x c
      rw [hc] at hxor
      obtain ⟨y, hy⟩ : ∃ y, (x ^^^ c) = y := ⟨_, rfl⟩
      rw [hy] at hxor
      have HS2 : Hid (Snd w.heap.size ((v13.setCell ⟨gr, d8, none⟩ (.int .u8 (y.toNat : Int))).drew) bi bm bn br bo bp bq bl (i : Int) (m : Int) (n : Int) gr rc go oc pa N pc qa M qc gl lc) := hide (((unhide HS).turn (c := y) kb hz).low (low_drew _))
      have HBW2 : Hid (Below w.heap.size w ((v13.setCell ⟨gr, d8, none⟩ (.int .u8 (y.toNat : Int))).drew)) := hide (low_trans (low_turn (unhide HBW) hg) (low_drew _))
      have ycl := (unhide HS).cr
      have d32i : (d8 : Int) < 32 := by omega
      clear hx hz kb sz byt hg hy HS HBW 
      go_wp2
      refine wp_region_noPanic ?_
      go_region
      refine NoPanic.normal ?_
      obtain ⟨v14, hv14⟩ : ∃ v14, (v13.setCell ⟨gr, d8, none⟩ (.int .u8 (y.toNat : Int))).drew = v14 := ⟨_, rfl⟩
      rw [hv14] at HS2 HBW2  ⊢
      have HS := HS2
      have HBW := HBW2
      clear hcell hfree hxor ycl d32i HS2 HBW2 hv14 
      go_wp2_with (go_at_call 40; fail)
      refine (record_any (unhide HS).cp (unhide HS).ci (unhide HS).cn (unhide HS).cl (unhide HS).cr (unhide HS).hp hN1000 (unhide HS).hl (unhide HS).hr).mono ?_
      rintro e v15 ⟨rfl, b⟩
      have HS := hide ((unhide HS).low b)
      have HBW := hide (low_trans (unhide HBW) b)
      clear b
      have ycm := (unhide HS).cm
      have hmq : ((m : Int) == 0) = true := by rw [unhide H0]; rfl
      obtain ⟨hg, cs, kb, sz, byt⟩ := (unhide HS).hr.far
      obtain ⟨x, hx⟩ := byt d8 d32
      obtain ⟨z, hz⟩ := byt 0 (by omega)
      have hcell : v15.cell? ⟨gr, d8, none⟩ = some (.int .u8 (x.toNat : Int)) := (kb.cell d8).trans hx
      have hfree := kb.free d8
      have hxor := bx8 x c
      rw [hc] at hxor
      obtain ⟨y, hy⟩ : ∃ y, (x ^^^ c) = y := ⟨_, rfl⟩
      rw [hy] at hxor
      have HS2 : Hid (Snd w.heap.size ((v15.setCell ⟨gr, d8, none⟩ (.int .u8 (y.toNat : Int))).drew) bi bm bn br bo bp bq bl (i : Int) (m : Int) (n : Int) gr rc go oc pa N pc qa M qc gl lc) := hide (((unhide HS).turn (c := y) kb hz).low (low_drew _))
      have HBW2 : Hid (Below w.heap.size w ((v15.setCell ⟨gr, d8, none⟩ (.int .u8 (y.toNat : Int))).drew)) := hide (low_trans (low_turn (unhide HBW) hg) (low_drew _))
      have ycl := (unhide HS).cr
      have d32i : (d8 : Int) < 32 := by omega
      clear hx hz kb sz byt hg hy HS HBW 
      go_wp2
      refine wp_region_noPanic ?_
      go_region
      refine NoPanic.normal ?_
      obtain ⟨v16, hv16⟩ : ∃ v16, (v15.setCell ⟨gr, d8, none⟩ (.int .u8 (y.toNat : Int))).drew = v16 := ⟨_, rfl⟩
      rw [hv16] at HS2 HBW2  ⊢
      have HS := HS2
      have HBW := HBW2
      clear hcell hfree hxor ycl d32i HS2 HBW2 hv16 
      clear ycm
      have ycp0 := (unhide HS).cp
      clear ycp0
      go_wp2
      refine useLoop 2 (loopP_any (B := B) (X := X) (d8 := d8) (c := c) p4 e8 hc hN1000 (unhide HS) (unhide HBW) ?_)
      intro d159 d160 d161 d162 d163 d164 d165 d166 d167 d168 d169 d170 d171 d172 d173 d174 d175 d176 d177 d178 d179 d180 d181 d182 d183 d184 d185 d186 d187 d188 d189 d190 d191 d192 d193 d194 d195 d196 d197 d198 d199 d200 d201 d202 d203 w11 hS11 hB11
      have HS := hide hS11
      have HBW := hide hB11
      clear hS11 hB11
      go_wp2
      refine useLoop 4 (loopQ_any (B := B) (X := X) (d8 := d8) (c := c) p4 e8 hc hM1000 (unhide HS) (unhide HBW) ?_)
      intro f204 f205 f206 f207 f208 f209 f210 f211 f212 f213 f214 f215 f216 f217 f218 f219 f220 f221 f222 f223 f224 f225 f226 f227 f228 f229 f230 f231 f232 f233 f234 f235 f236 f237 f238 f239 f240 f241 f242 f243 f244 f245 f246 f247 f248 w12 hS12 hB12
      have HS := hide hS12
      have HBW := hide hB12
      clear hS12 hB12
      go_wp2
      refine useNext (lastLook_any hN999 (unhide HPL) (fun ls lb rb hl => unhide HRM lb rb lb ls (by rw [hl]; exact unhide HPN)) (unhide HS) (unhide HBW) ?_)
      intro g249 g250 g251 g252 g253 g254 g255 g256 g257 g258 g259 g260 g261 g262 w13 hB13
      have HZ := hide hB13
      clear hB13
      go_wp2
      go_ret
      exact ⟨rfl, unhide HZ⟩
end Go.Proofs.YtkpmbbeidcpclaaGreatDoor
