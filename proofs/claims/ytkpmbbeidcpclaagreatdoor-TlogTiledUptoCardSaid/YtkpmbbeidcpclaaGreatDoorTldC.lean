/-
  A hash that is found in a tile.
-/
import Derived.Test.YtkpmbbeidcpclaaGreatDoorTldB
import Derived.Test.YtkpmbbeidcpclaaGreatDoorSpanB
namespace Go.Proofs.YtkpmbbeidcpclaaGreatDoor
open Go.RowKit

set_option maxRecDepth 100000 in
set_option maxHeartbeats 2000000 in
theorem inTile_good {w : World} {H L N W p lev k ab q wi st sl dl cap B : Nat} {b : Bs} (h1 : 1 ≤ H) (h8 : H ≤ 8) (hp : 2 ^ H = p) (hW : 1 ≤ W) (hWp : W ≤ p) (hlev : lev ≤ 100) (hk : k ≤ 1000) (hL : lev / H = L) (hab : lev % H = ab) (hq : ab + q = H) (hN : k / 2 ^ q = N) (hwi : k % 2 ^ q = wi) (hen : (wi + 1) * 2 ^ ab ≤ W) (hst : 32 * wi * 2 ^ ab = st) (hsl : 32 * 2 ^ ab = sl) (hdl : 32 * W = dl) (hb : b.length = dl) (hcap : dl ≤ cap) (hcm : cap ≤ maxLen) (hB : BAt w (some ⟨B, 0, none⟩) b) :
    Calls Tryz.prog 15 #[tileV H L N W, .slice (some ⟨B, 0, none⟩) dl cap, .int .i64 (lev : Int), .int .i64 (k : Int)] w fun e w' => ∃ g c, e = .returned (.tuple #[.slice (some ⟨g, 0, none⟩) 32 c, .int .i64 0]) ∧ OwnB w.heap.size w' (.slice (some ⟨g, 0, none⟩) 32 c) (wholeL ab ((b.drop st).take sl)) ∧ Below w.heap.size w w' := by
  have hp2 : p ≤ 256 := by
    rw [← hp]
    exact Nat.le_trans (Nat.pow_le_pow_right (by decide) h8) (by decide)
  have HT0 := hide (fun wx => isTile_good (L := L) (N := N) h1 h8 hp hW hWp wx)
  obtain ⟨A2, hA2⟩ : ∃ A2, 2 ^ ab = A2 := ⟨_, rfl⟩
  obtain ⟨P2, hP2⟩ : ∃ P2, 2 ^ q = P2 := ⟨_, rfl⟩
  have hA1 : 1 ≤ A2 := by rw [← hA2]; exact Nat.one_le_two_pow
  have hP1 : 1 ≤ P2 := by rw [← hP2]; exact Nat.one_le_two_pow
  have hq8 : q ≤ 8 := by omega
  have hab8 : ab < 8 := by have := Nat.mod_lt lev (show H > 0 by omega); omega
  have hP256 : P2 ≤ 256 := by rw [← hP2]; exact Nat.le_trans (Nat.pow_le_pow_right (by decide) hq8) (by decide)
  obtain ⟨P1, hPP⟩ : ∃ P1, P2 - 1 = P1 := ⟨_, rfl⟩
  obtain ⟨w1, hw1⟩ : ∃ w1, wi + 1 = w1 := ⟨_, rfl⟩
  obtain ⟨en, hen'⟩ : ∃ en, w1 * A2 = en := ⟨_, rfl⟩
  obtain ⟨m1, hm1⟩ : ∃ m1, 32 * wi = m1 := ⟨_, rfl⟩
  obtain ⟨m2, hm2⟩ : ∃ m2, 32 * w1 = m2 := ⟨_, rfl⟩
  obtain ⟨e2, he2⟩ : ∃ e2, m2 * A2 = e2 := ⟨_, rfl⟩
  rw [hA2, hw1, hen'] at hen
  rw [hm1, hA2] at hst
  rw [hA2] at hsl
  have q1 : e2 = st + sl := by rw [← he2, ← hst, ← hsl, ← hm2, ← hm1, ← hw1, Nat.mul_add, Nat.mul_one, Nat.add_mul]
  have q2 : e2 = 32 * en := by rw [← he2, ← hm2, ← hen', Nat.mul_assoc]
  have q3 : e2 ≤ dl := by omega
  have hwb : wi ≤ 1000 := by rw [← hwi]; exact Nat.le_trans (Nat.mod_le _ _) hk
  have hNb : N ≤ 1000 := by rw [← hN]; exact Nat.le_trans (Nat.div_le_self _ _) hk
  have hLb : L ≤ 100 := by rw [← hL]; exact Nat.le_trans (Nat.div_le_self _ _) hlev
  have hsl32 : 32 ≤ sl := by omega
  have HWH := hide (fun (wx : World) (c : Nat) (hc : sl ≤ c) (hcc : c ≤ maxLen) (hbx : BAt wx (some ⟨B, st, none⟩) ((b.drop st).take sl)) => whole_any ab (B := B) (O := st) (n := sl) (c := c) (b := (b.drop st).take sl) (by omega) (by rw [List.length_take, List.length_drop]; omega) (by rw [hA2, hsl]) hc hcc hbx)
  have hB2 : BAt w (some ⟨B, st, none⟩) ((b.drop st).take sl) := by
    have := (hB.back' st).front' sl
    rw [Nat.zero_add] at this
    exact this
  have i1 : (lev : Int).tdiv (H : Int) = (L : Int) := by rw [Int.tdiv_eq_ediv_of_nonneg (by omega), ← Int.natCast_ediv, hL]
  have i2 : (lev : Int).tmod (H : Int) = (ab : Int) := by rw [Int.tmod_eq_emod_of_nonneg (by omega), ← Int.natCast_emod, hab]
  have i3 : (H : Int) - (ab : Int) = (q : Int) := by omega
  have i4 : (k : Int) / (P2 : Int) = (N : Int) := by rw [← Int.natCast_ediv, ← hP2, hN]
  have i5 : (2 : Int) ^ q = (P2 : Int) := by rw [pow_int, hP2]
  have i6 : (P2 : Int) - 1 = (P1 : Int) := by omega
  have i7 : bits .and .i64 (k : Int) (P1 : Int) = (wi : Int) := by
    rw [and_i64 k P1 (by omega) (by omega), ← hPP, ← hP2, Nat.and_two_pow_sub_one_eq_mod, hwi]
  have i8 : (wi : Int) + 1 = (w1 : Int) := by omega
  have i9 : (w1 : Int) * 2 ^ ab = (en : Int) := by rw [pow_int, hA2, ← hen']; push_cast; rfl
  have i10 : (32 : Int) * (wi : Int) = (m1 : Int) := by omega
  have i11 : (m1 : Int) * 2 ^ ab = (st : Int) := by rw [pow_int, hA2, ← hst]; push_cast; rfl
  have i12 : (32 : Int) * (w1 : Int) = (m2 : Int) := by omega
  have i13 : (m2 : Int) * 2 ^ ab = (e2 : Int) := by rw [pow_int, hA2, ← he2]; push_cast; rfl
  have i14 : (32 : Int) * (W : Int) = (dl : Int) := by omega
  have n1 : min q 64 = q := by omega
  have n2 : min ab 64 = ab := by omega
  have hH0 : (H : Int) ≠ 0 := by omega
  have g1 : decide ((lev : Int) < 0) = false := decide_eq_false (by omega)
  have g2 : decide ((k : Int) < 0) = false := decide_eq_false (by omega)
  have g3 : ((L : Int) != (L : Int)) = false := by simp
  have g4 : ((N : Int) != (N : Int)) = false := by simp
  have g5 : decide (W < en) = false := decide_eq_false (by omega)
  have g6 : decide ((W : Int) < (en : Int)) = false := decide_eq_false (by omega)
  have z1 : e2 ≤ 8192 := by omega
  have z2 : st ≤ e2 := by omega
  have z3 : e2 - st = sl := by omega
  have z4 : e2 ≤ cap := by omega
  have z5 : m1 ≤ 32000 := by omega
  have z6 : m2 ≤ 32032 := by omega
  have z7 : en ≤ 256 := by omega
  have z8 : w1 ≤ 1001 := by omega
  obtain ⟨c2, hc2⟩ : ∃ c2, cap - st = c2 := ⟨_, rfl⟩
  obtain ⟨W1, hW1⟩ : ∃ W1, w.alloc (.cells #[.int .i64 (H : Int), .int .i64 (L : Int), .int .i64 (N : Int), .int .i64 (W : Int)] 31) = W1 := ⟨_, rfl⟩
  have b1 : Below w.heap.size w W1 := by rw [← hW1]; exact (Below.refl _ _).alloc (Nat.le_refl _) _
  have hblk : Blk W1 w.heap.size #[.int .i64 (H : Int), .int .i64 (L : Int), .int .i64 (N : Int), .int .i64 (W : Int)] 31 := by rw [← hW1]; exact Blk.new _ _ _
  obtain ⟨bt, hbt⟩ : ∃ bt, w.heap.size = bt := ⟨_, rfl⟩
  rw [hbt] at hblk
  have HBT := hide hbt
  have HBK := hide hblk
  have HB1 := hide b1
  have HB2 := hide hB2
  have HW1 := hide hW1
  have HC2 : Hid (sl ≤ c2 ∧ c2 ≤ maxLen) := hide ⟨by omega, by omega⟩
  have hcm' : cap ≤ 9223372036854775807 := hcm
  clear hB hB2 hp hL hab hN hwi hst hsl hen' hm1 hm2 he2 hw1 hPP hA2 hP2 b1 hblk hbt hW1 hb hdl q1 q2
  unfold tileV at HT0 ⊢
  go_enter Tryz.func15, Tryz.ntmps15
  go_wp2_with (go_at_call 54; fail)
  rw [unhide HW1, unhide HBT]
  refine (unhide HT0 _).mono ?_
  rintro e w2 ⟨rfl, hgr⟩
  have hg2 : Gr W1 w2 := hgr
  have hb2 := (unhide HBK).low hg2.low
  have HBW := hide (low_trans (unhide HB1) hg2.low)
  have d0 : w2.cell? ⟨bt, 0, none⟩ = some (.int .i64 (H : Int)) := hb2.cell 0
  have d1 : w2.cell? ⟨bt, 1, none⟩ = some (.int .i64 (L : Int)) := hb2.cell 1
  have d2 : w2.cell? ⟨bt, 2, none⟩ = some (.int .i64 (N : Int)) := hb2.cell 2
  have d3 : w2.cell? ⟨bt, 3, none⟩ = some (.int .i64 (W : Int)) := hb2.cell 3
  have HBK2 := hide hb2
  clear hgr hg2 hb2
  go_wp2
  go_quiet (fail)
  obtain ⟨w3, hw3⟩ : ∃ w3, w2.drewN nq = w3 := ⟨_, rfl⟩
  rw [hw3]
  have b3 : Below w2.heap.size w2 w3 := by rw [← hw3]; exact lowN (Below.refl _ _) _
  have HB3 := hide b3
  clear d0 d1 d2 d3
  have d0 : w3.cell? ⟨bt, 0, none⟩ = some (.int .i64 (H : Int)) := ((unhide HBK2).low b3).cell 0
  have d2 : w3.cell? ⟨bt, 2, none⟩ = some (.int .i64 (N : Int)) := ((unhide HBK2).low b3).cell 2
  have d3 : w3.cell? ⟨bt, 3, none⟩ = some (.int .i64 (W : Int)) := ((unhide HBK2).low b3).cell 3
  have HBK3 := hide ((unhide HBK2).low b3)
  clear hw3 b3
  go_wp2
  go_quiet (fail)
  obtain ⟨w4, hw4⟩ : ∃ w4, w3.drewN nq = w4 := ⟨_, rfl⟩
  rw [hw4]
  have b4 : Below w3.heap.size w3 w4 := by rw [← hw4]; exact lowN (Below.refl _ _) _
  have HB4 := hide (low_trans (unhide HB3) b4)
  clear d0 d2 d3
  have d2 : w4.cell? ⟨bt, 2, none⟩ = some (.int .i64 (N : Int)) := ((unhide HBK3).low b4).cell 2
  have d3 : w4.cell? ⟨bt, 3, none⟩ = some (.int .i64 (W : Int)) := ((unhide HBK3).low b4).cell 3
  clear hw4 b4
  go_wp2
  go_quiet (fail)
  obtain ⟨w5, hw5⟩ : ∃ w5, w4.drewN nq = w5 := ⟨_, rfl⟩
  rw [hw5]
  have b5 : Below w4.heap.size w4 w5 := by rw [← hw5]; exact lowN (Below.refl _ _) _
  have HB5 := hide (low_trans (unhide HBW) (low_trans (unhide HB4) b5))
  have HX : Hid (∀ wx, Below w5.heap.size w5 wx → Calls Tryz.prog 55 #[.slice (some ⟨B, st, none⟩) sl c2] wx fun e w' => ∃ g c, e = .returned (.slice (some ⟨g, 0, none⟩) 32 c) ∧ Hid (OwnB w.heap.size w' (.slice (some ⟨g, 0, none⟩) 32 c) (wholeL ab ((b.drop st).take sl)) ∧ Below w.heap.size w w') ∧ Below w5.heap.size w5 w') := hide (fun wx hbx => by
    have hbw := low_trans (unhide HB5) hbx
    refine (unhide HWH wx c2 (unhide HC2).1 (unhide HC2).2 ((unhide HB2).low hbw)).mono ?_
    rintro e w' ⟨g, c, rfl, o, bl⟩
    exact ⟨g, c, rfl, hide ⟨OwnB.less hbw.size o, low_trans hbw bl⟩, low_trans hbx bl⟩)
  have hB0 : Below w5.heap.size w5 w5 := Below.refl _ _
  have v1 : IntKind.i64.wrap (m1 : Int) = (m1 : Int) := wrapI m1 (by omega)
  have v2 : IntKind.i64.wrap (st : Int) = (st : Int) := wrapI st (by omega)
  have v3 : IntKind.i64.wrap (m2 : Int) = (m2 : Int) := wrapI m2 (by omega)
  have v4 : IntKind.i64.wrap (e2 : Int) = (e2 : Int) := wrapI e2 (by omega)
  have v5 : IntKind.i64.wrap (w1 : Int) = (w1 : Int) := wrapI w1 (by omega)
  have y1 : (st : Int) ≤ (e2 : Int) := by omega
  have y2 : (e2 : Int) ≤ (cap : Int) := by omega
  have y3 : ¬ (cap = st) := by have := (unhide HC2).1; omega
  clear d2 d3 hw5 b5 HB4 HB3 HBK2 HBK3
  go_wp2
  go_region_held3 (fun wx => Below w5.heap.size w5 wx)
    (first | assumption | exact (Below.refl _ _).drew | exact Below.drew (by assumption) | go_keep)
    ((go_at_call 55; refine (unhide HX _ (by assumption)).mono ?_; rintro e w6 ⟨g6, c6, rfl, hv6, hb6⟩))
  have HV6 := hv6
  clear hv6
  go_wp2
  go_ret2
  exact ⟨g6, c6, rfl, unhide HV6⟩
end Go.Proofs.YtkpmbbeidcpclaaGreatDoor
