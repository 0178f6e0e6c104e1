/-
  The tile of a hash: where the hash is none, and what holds where it is one.
-/
import Derived.Test.YtkpmbbeidcpclaaGreatDoorTldC
import Derived.Test.YtkpmbbeidcpclaaGreatDoorTldP
import Derived.Test.YtkpmbbeidcpclaaGreatDoorPthQ2
import Derived.Test.YtkpmbbeidcpclaaGreatDoorTile
namespace Go.Proofs.YtkpmbbeidcpclaaGreatDoor
open Go.RowKit

set_option maxRecDepth 100000 in
set_option maxHeartbeats 1000000 in
theorem tileOf_out {h n : Nat} {v k : Int} (h1 : 1 ≤ h) (h8 : h ≤ 8) (hn : n ≤ 1048576) (ht : treeB v k (n : Int) = false) (w : World) :
    Calls Tryz.prog 10 #[.int .i64 (h : Int), .int .i64 (n : Int), .int .i64 v, .int .i64 k] w fun e w' => e = .returned (.tuple #[.agg #[.int .i64 0, .int .i64 0, .int .i64 0, .int .i64 0], .int .i64 6]) ∧ Below w.heap.size w w' := by
  have T1 := hide (height_nat h1 h8)
  have T2 := hide (sizeB_nat hn)
  have T3 := hide ht
  clear ht
  go_enter Tryz.func10, Tryz.ntmps10
  go_wp2_with (go_at_call 44; fail)
  refine (height_any _ _).mono ?_
  rintro e w1 ⟨rfl, rfl⟩
  rw [unhide T1]
  go_wp2_with (go_at_call 45; fail)
  refine (size_any _ _).mono ?_
  rintro e w2 ⟨rfl, rfl⟩
  rw [unhide T2]
  go_wp2_with (go_at_call 46; fail)
  refine (isTree_any _).mono ?_
  rintro e w3 ⟨rfl, rfl⟩
  rw [unhide T3]
  go_wp2
  have hblk := Blk.new w #[.int .i64 0, .int .i64 0, .int .i64 0, .int .i64 0] 31
  exact bodyPost_ret (v := .tuple #[.agg #[.int .i64 0, .int .i64 0, .int .i64 0, .int .i64 0], .int .i64 6])
    (by
      have hl := run_loadVar_row (P := Tryz.prog) _ w.heap.size 31 31 _ (0, 0) _ hblk Tryz.underlying31 rfl size72
      simp only [results, Tryz.results10]
      simp [asAddr, hl]) rfl
    ⟨rfl, (Below.refl _ _).alloc (Nat.le_refl _) _⟩

/-- The numbers of the tile of a hash that is there. -/
theorem tile_numbers {h n v k : Nat} (h1 : 1 ≤ h) (h8 : h ≤ 8) (hn : n ≤ 70) (hv : v ≤ 6) (hk : (k + 1) * 2 ^ v ≤ n) :
    ∃ row d s a p x q b t W ab r wi st sl dl, v / h = row ∧ h * row = s ∧ s + d = v ∧ n / 2 ^ s = a ∧ 2 ^ h = p ∧ k * 2 ^ d = x ∧ x ≤ 1048576 ∧ x / p = q ∧ q * p = b ∧ b + t = a ∧ min t p = W ∧ 1 ≤ W ∧ W ≤ p ∧ s ≤ 20 ∧ b + W ≤ a ∧ q ≤ a / p ∧ q < 1000 ∧ k ≤ 1000 ∧
      v % h = ab ∧ ab = d ∧ ab + r = h ∧ k / 2 ^ r = q ∧ k % 2 ^ r = wi ∧ (wi + 1) * 2 ^ ab ≤ W ∧ 32 * wi * 2 ^ ab = st ∧ 32 * 2 ^ ab = sl ∧ 32 * W = dl ∧ st = 32 * (wi * 2 ^ d) ∧ b + wi * 2 ^ d = x ∧ wi * 2 ^ d + 2 ^ d ≤ W := by
  have hdm := Nat.div_add_mod v h
  have hml := Nat.mod_lt v (show h > 0 by omega)
  obtain ⟨row, hrow⟩ : ∃ row, v / h = row := ⟨_, rfl⟩
  obtain ⟨d, hd⟩ : ∃ d, v % h = d := ⟨_, rfl⟩
  rw [hrow, hd] at hdm
  rw [hd] at hml
  obtain ⟨r, hr⟩ : ∃ r, d + r = h := ⟨h - d, by omega⟩
  obtain ⟨s, hs⟩ : ∃ s, h * row = s := ⟨_, rfl⟩
  rw [hs] at hdm
  have hpow : 2 ^ v = 2 ^ d * 2 ^ s := by rw [← hdm, Nat.pow_add, Nat.mul_comm]
  have hpp : 2 ^ h = 2 ^ r * 2 ^ d := by rw [← hr, Nat.pow_add, Nat.mul_comm]
  have hsp : 0 < 2 ^ s := Nat.two_pow_pos s
  have hdp : 0 < 2 ^ d := Nat.two_pow_pos d
  have hrp : 0 < 2 ^ r := Nat.two_pow_pos r
  have hka : (k + 1) * 2 ^ d ≤ n / 2 ^ s := by
    rw [Nat.le_div_iff_mul_le hsp, Nat.mul_assoc, ← hpow]
    exact hk
  have hk1 : k + 1 ≤ n := Nat.le_trans (Nat.le_mul_of_pos_right _ (Nat.two_pow_pos v)) hk
  have hkd := Nat.div_add_mod k (2 ^ r)
  have hkm := Nat.mod_lt k hrp
  obtain ⟨q, hq⟩ : ∃ q, k / 2 ^ r = q := ⟨_, rfl⟩
  obtain ⟨wi, hwi⟩ : ∃ wi, k % 2 ^ r = wi := ⟨_, rfl⟩
  rw [hq, hwi] at hkd
  rw [hwi] at hkm
  have hx : k * 2 ^ d = q * 2 ^ h + wi * 2 ^ d := by
    rw [← hkd, hpp, Nat.add_mul]
    congr 1
    rw [Nat.mul_comm (2 ^ r) q, Nat.mul_assoc]
  have hwlt : wi * 2 ^ d + 2 ^ d ≤ 2 ^ h := by
    rw [hpp]
    have : (wi + 1) * 2 ^ d ≤ 2 ^ r * 2 ^ d := Nat.mul_le_mul_right _ hkm
    rw [Nat.succ_mul] at this
    exact this
  have hxq : k * 2 ^ d / 2 ^ h = q := by
    rw [hx]
    apply Nat.div_eq_of_lt_le
    · rw [Nat.mul_comm]; rw [Nat.mul_comm]; omega
    · rw [Nat.succ_mul]; omega
  have han : n / 2 ^ s ≤ 70 := Nat.le_trans (Nat.div_le_self _ _) hn
  have hka2 : k * 2 ^ d + 2 ^ d ≤ n / 2 ^ s := by rw [Nat.succ_mul] at hka; exact hka
  obtain ⟨a, ha⟩ : ∃ a, n / 2 ^ s = a := ⟨_, rfl⟩
  rw [ha] at hka2 han
  obtain ⟨p, hp⟩ : ∃ p, 2 ^ h = p := ⟨_, rfl⟩
  rw [hp] at hx hwlt hxq
  obtain ⟨b, hb⟩ : ∃ b, q * p = b := ⟨_, rfl⟩
  rw [hb] at hx
  obtain ⟨D, hD⟩ : ∃ D, 2 ^ d = D := ⟨_, rfl⟩
  obtain ⟨y, hy⟩ : ∃ y, wi * 2 ^ d = y := ⟨_, rfl⟩
  have hy1 : (wi + 1) * 2 ^ d = y + D := by rw [Nat.succ_mul, hy, hD]
  rw [hy] at hx hwlt
  rw [hD] at hka2 hdp hwlt
  have hqa : q ≤ a / p := by
    rw [Nat.le_div_iff_mul_le (by rw [← hp]; exact Nat.two_pow_pos h), hb]
    rw [hD] at hx
    omega
  have hkk : k ≤ 69 := by omega
  have hqk : q ≤ k := by rw [← hq]; exact Nat.div_le_self _ _
  have hpos : 1 ≤ p := by rw [← hp]; exact Nat.one_le_two_pow
  refine ⟨row, d, s, a, p, k * 2 ^ d, q, b, a - b, min (a - b) p, d, r, wi, 32 * wi * 2 ^ d, 32 * 2 ^ d, 32 * min (a - b) p, hrow, hs, hdm, ha, hp, rfl, ?_, hxq, hb, ?_, rfl, ?_, Nat.min_le_right _ _, by omega, ?_, hqa, by omega, by omega, hd, rfl, hr, hq, hwi, ?_, rfl, rfl, rfl, Nat.mul_assoc _ _ _, ?_, ?_⟩
  all_goals first | (rw [hD] at hx ⊢; omega) | (rw [hy1]; rw [hD] at hx; omega) | (rw [hy]; omega) | (rw [hy, hD]; rw [hD] at hx; omega) | (rw [hD] at hx; omega)
end Go.Proofs.YtkpmbbeidcpclaaGreatDoor
