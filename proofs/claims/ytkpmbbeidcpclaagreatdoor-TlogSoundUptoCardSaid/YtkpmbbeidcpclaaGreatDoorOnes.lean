/-
  Bits counted; places of stored hashes.
-/
import Derived.Test.YtkpmbbeidcpclaaGreatDoorBas
import Derived.Test.YtkpmbbeidcpclaaGreatDoorPlP
import Derived.Laws.Bits128
namespace Go.Proofs.YtkpmbbeidcpclaaGreatDoor
open Go.RowKit

theorem wrapU (a : Nat) (ha : a < 67108864) : IntKind.u64.wrap (a : Int) = (a : Int) := by rw [IntKind.wrap_u64]; omega
theorem wrapI (a : Nat) (ha : a < 67108864) : IntKind.i64.wrap (a : Int) = (a : Int) := by rw [IntKind.wrap_i64]; omega
theorem wrapU_int (a : Int) (h0 : 0 ≤ a) (ha : a < 67108864) : IntKind.u64.wrap a = a := by rw [IntKind.wrap_u64]; omega

theorem wrap7 (v : Nat) (h : v < 67108864) : IntKind.u64.wrap ((v : Int) + (v : Int) / 4294967296) = (v : Int) := by rw [IntKind.wrap_u64]; omega
/-- The words of the walk, as the plain counting says them. -/
theorem swarI {x : Nat} (h : x < 16777216) : ∃ y1 y2 t y3 z v : Nat, bits .and .u64 ((x : Int) / 2) 6148914691236517205 + bits .and .u64 (x : Int) 6148914691236517205 = (y1 : Int) ∧
    bits .and .u64 ((y1 : Int) / 4) 3689348814741910323 + bits .and .u64 (y1 : Int) 3689348814741910323 = (y2 : Int) ∧ (y2 : Int) / 16 + (y2 : Int) = (t : Int) ∧ bits .and .u64 (t : Int) 1085102592571150095 = (y3 : Int) ∧
    (y3 : Int) + (y3 : Int) / 256 = (z : Int) ∧ (z : Int) + (z : Int) / 65536 = (v : Int) ∧ y1 < 67108864 ∧ y2 < 67108864 ∧ t < 67108864 ∧ y3 < 67108864 ∧ z < 67108864 ∧ v < 67108864 ∧ v % 128 = pop x := by
  obtain ⟨y1, y2, y3, e1, e2, e3, b1, b2, b3, hp⟩ := swar h
  refine ⟨y1, y2, y2 / 16 + y2, y3, y3 + y3 / 256, y3 + y3 / 256 + (y3 + y3 / 256) / 65536, ?_, ?_, by omega, ?_, by omega, by omega, by omega, by omega, by omega, by omega, by omega, by omega, hp⟩
  · have a1 := u64_and_nat (x / 2) m0 (by omega) (by decide)
    have a2 := u64_and_nat x m0 (by omega) (by decide)
    have c : ((x / 2 : Nat) : Int) = (x : Int) / 2 := by omega
    rw [c] at a1
    unfold m0 at a1 a2 e1
    rw [← e1]
    rw [Int.natCast_add]
    exact congr (congrArg _ a1) a2
  · have a1 := u64_and_nat (y1 / 4) m1 (by omega) (by decide)
    have a2 := u64_and_nat y1 m1 (by omega) (by decide)
    have c : ((y1 / 4 : Nat) : Int) = (y1 : Int) / 4 := by omega
    rw [c] at a1
    unfold m1 at a1 a2 e2
    rw [← e2]
    rw [Int.natCast_add]
    exact congr (congrArg _ a1) a2
  · have a1 := u64_and_nat (y2 / 16 + y2) m2 (by omega) (by decide)
    unfold m2 at a1 e3
    rw [← e3]
    exact a1

theorem ones64_any {x : Nat} (h : x < 16777216) (w : World) : Calls Tryz.prog 122 #[.int .u64 (x : Int)] w fun e w' => e = .returned (.int .i64 (pop x : Int)) ∧ w' = w := by
  obtain ⟨y1, y2, t, y3, z, v, e1, e2, e3, e4, e5, e6, b1, b2, b3, b4, b5, b6, hp⟩ := swarI h
  have HP := hide hp
  have w1 := wrapU y1 b1
  have w2 := wrapU y2 b2
  have w3 := wrapU t b3
  have w4 := wrapU y3 b4
  have w5 := wrapU z b5
  have w6 := wrapU v b6
  have w7 := wrap7 v b6
  have w8 := wrapI v b6
  have w9 := i64_and127 (v : Int)
  clear hp
  go_enter Tryz.func122, Tryz.ntmps122
  go_wp2
  go_ret
  refine ⟨?_, rfl⟩
  rw [← unhide HP]
  simp
  try omega

theorem ones_any {x : Nat} (h : x < 16777216) (w : World) : Calls Tryz.prog 102 #[.int .u64 (x : Int)] w fun e w' => e = .returned (.int .i64 (pop x : Int)) ∧ w' = w := by
  go_enter Tryz.func102, Tryz.ntmps102
  go_wp2_with (go_at_call 122; fail)
  refine (ones64_any h w).mono ?_
  rintro e w1 ⟨rfl, rfl⟩
  go_wp2
  go_ret
  exact ⟨rfl, rfl⟩

theorem places_any {n : Nat} (h : n < 16777216) (w : World) : Calls Tryz.prog 67 #[.int .i64 (n : Int)] w fun e w' => e = .returned (.int .i64 (stored n : Int)) ∧ w' = w := by
  have e0 : IntKind.u64.wrap (n : Int) = (n : Int) := wrapU n (by omega)
  have e1 : 2 * (n : Int) - (pop n : Int) = (stored n : Int) := by
    have := stored_pop h
    omega
  have hb := stored_le h
  go_enter Tryz.func67, Tryz.ntmps67
  go_wp2_with (go_at_call 102; fail)
  refine (ones_any h w).mono ?_
  rintro e w1 ⟨rfl, rfl⟩
  go_wp2
  go_ret
  exact ⟨rfl, rfl⟩

def treeB (level k n : Int) : Bool := decide (0 ≤ level) && decide (0 ≤ k) && decide (k < n / 2 ^ min level.toNat 64)

theorem isTree_any {level k n : Int} (w : World) : Calls Tryz.prog 46 #[.int .i64 level, .int .i64 k, .int .i64 n] w fun e w' => e = .returned (.bool (treeB level k n)) ∧ w' = w := by
  by_cases h1 : 0 ≤ level
  · by_cases h2 : 0 ≤ k
    · have HT : Hid (treeB level k n = decide (k < n / 2 ^ min level.toNat 64)) := hide (by unfold treeB; simp [h1, h2])
      go_enter Tryz.func46, Tryz.ntmps46
      go_wp2
      go_ret
      exact ⟨by rw [unhide HT]; rfl, rfl⟩
    · have HT : Hid (treeB level k n = false) := hide (by unfold treeB; simp [h2])
      go_enter Tryz.func46, Tryz.ntmps46
      go_wp2
      go_ret
      exact ⟨by rw [unhide HT]; rfl, rfl⟩
  · have HT : Hid (treeB level k n = false) := hide (by unfold treeB; simp [h1])
    go_enter Tryz.func46, Tryz.ntmps46
    go_wp2
    go_ret
    exact ⟨by rw [unhide HT]; rfl, rfl⟩

theorem place_any {v k p q : Nat} (hv : v ≤ 20) (hp : (k + 1) * 2 ^ v = p) (hq : p = q + 1) (h : p ≤ 1048576) (w : World) : Calls Tryz.prog 66 #[.int .i64 (v : Int), .int .i64 (k : Int)] w fun e w' => e = .returned (.int .i64 ((stored q + v : Nat) : Int)) ∧ w' = w := by
  have e1 : ((k : Int) + 1) * 2 ^ v = (p : Int) := by rw [← hp]; push_cast; rfl
  have hk : k + 1 ≤ 1048576 := by
    have : (k + 1) * 1 ≤ (k + 1) * 2 ^ v := Nat.mul_le_mul_left _ (Nat.one_le_two_pow)
    omega
  have e2 : (p : Int) - 1 = (q : Int) := by omega
  have hs := stored_le (n := q) (by omega)
  clear hp hq
  go_enter Tryz.func66, Tryz.ntmps66
  go_wp2_with (go_at_call 67; fail)
  refine (places_any (by omega) w).mono ?_
  rintro e w1 ⟨rfl, rfl⟩
  go_wp2
  go_ret
  exact ⟨by push_cast; rfl, rfl⟩
def sizeB (n : Int) : Bool := decide (0 ≤ n) && decide (n ≤ 1048576)
theorem size_any (n : Int) (w : World) : Calls Tryz.prog 45 #[.int .i64 n] w fun e w' => e = .returned (.bool (sizeB n)) ∧ w' = w := by
  by_cases h1 : 0 ≤ n
  · have HT : Hid (sizeB n = decide (n ≤ 1048576)) := hide (by unfold sizeB; simp [h1])
    go_enter Tryz.func45, Tryz.ntmps45
    go_wp2
    go_ret
    exact ⟨by rw [unhide HT]; rfl, rfl⟩
  · have HT : Hid (sizeB n = false) := hide (by unfold sizeB; simp [h1])
    go_enter Tryz.func45, Tryz.ntmps45
    go_wp2
    go_ret
    exact ⟨by rw [unhide HT]; rfl, rfl⟩
theorem sizeB_nat {n : Nat} (h : n ≤ 1048576) : sizeB (n : Int) = true := by
  unfold sizeB
  rw [decide_eq_true (by omega : (0 : Int) ≤ (n : Int)), decide_eq_true (by omega : (n : Int) ≤ 1048576)]; rfl
theorem sizeB_in {n : Int} (h : sizeB n = true) : ∃ m : Nat, n = (m : Int) ∧ m ≤ 1048576 := by
  unfold sizeB at h
  simp only [Bool.and_eq_true, decide_eq_true_eq] at h
  exact ⟨n.toNat, by omega, by omega⟩
theorem pow_int (v : Nat) : ((2 : Int) ^ v) = ((2 ^ v : Nat) : Int) := by push_cast; rfl
theorem tree_in {level k : Int} {n : Nat} (hn : n ≤ 1048576) (h : treeB level k n = true) : ∃ v j : Nat, level = (v : Int) ∧ k = (j : Int) ∧ v ≤ 20 ∧ (j + 1) * 2 ^ v ≤ n := by
  unfold treeB at h
  simp only [Bool.and_eq_true, decide_eq_true_eq] at h
  obtain ⟨⟨h1, h2⟩, h3⟩ := h
  obtain ⟨v, rfl⟩ : ∃ v : Nat, level = v := ⟨level.toNat, by omega⟩
  obtain ⟨j, rfl⟩ : ∃ j : Nat, k = j := ⟨k.toNat, by omega⟩
  rw [Int.toNat_natCast, pow_int, ← Int.natCast_ediv] at h3
  have h4 : j < n / 2 ^ min v 64 := by omega
  have hv : v ≤ 20 := by
    apply Classical.byContradiction
    intro hv
    have hm : 21 ≤ min v 64 := by omega
    have h21 : (2 : Nat) ^ 21 ≤ 2 ^ min v 64 := Nat.pow_le_pow_right (by decide) hm
    have e : (2 : Nat) ^ 21 = 2097152 := by decide
    rw [Nat.div_eq_of_lt (by omega)] at h4
    omega
  refine ⟨v, j, rfl, rfl, hv, ?_⟩
  rw [Nat.min_eq_left (by omega)] at h4
  exact (Nat.le_div_iff_mul_le (Nat.two_pow_pos v)).1 h4
theorem tree_nat {v j n : Nat} (hv : v ≤ 20) (h : (j + 1) * 2 ^ v ≤ n) : treeB (v : Int) (j : Int) (n : Int) = true := by
  unfold treeB
  have h4 : j < n / 2 ^ min v 64 := by
    rw [Nat.min_eq_left (by omega)]
    exact (Nat.le_div_iff_mul_le (Nat.two_pow_pos v)).2 h
  have h3 : (j : Int) < (n : Int) / 2 ^ min (Int.toNat (v : Int)) 64 := by
    rw [Int.toNat_natCast, pow_int, ← Int.natCast_ediv]
    omega
  rw [decide_eq_true h3, decide_eq_true (by omega : (0 : Int) ≤ (v : Int)), decide_eq_true (by omega : (0 : Int) ≤ (j : Int))]
  rfl

theorem index_any {v k p q : Nat} (hv : v ≤ 20) (hp : (k + 1) * 2 ^ v = p) (hq : p = q + 1) (h : p ≤ 1048576) (w : World) : Calls Tryz.prog 28 #[.int .i64 (v : Int), .int .i64 (k : Int)] w fun e w' => e = .returned (.tuple #[.int .i64 ((stored q + v : Nat) : Int), .int .i64 0]) ∧ w' = w := by
  have T1 : Hid (treeB (v : Int) (k : Int) 1048576 = true) := hide (tree_nat (n := 1048576) hv (by omega))
  have HP := hide (place_any hv hp hq h w)
  clear hp hq
  go_enter Tryz.func28, Tryz.ntmps28
  go_wp2_with (go_at_call 46; fail)
  refine (isTree_any w).mono ?_
  rintro e w1 ⟨rfl, rfl⟩
  rw [unhide T1]
  go_wp2_with (go_at_call 66; fail)
  refine (unhide HP).mono ?_
  rintro e w2 ⟨rfl, rfl⟩
  go_wp2
  go_ret2
  exact ⟨rfl, rfl⟩
theorem index_bad {level k : Int} (h : treeB level k 1048576 = false) (w : World) : Calls Tryz.prog 28 #[.int .i64 level, .int .i64 k] w fun e w' => e = .returned (.tuple #[.int .i64 0, .int .i64 6]) ∧ w' = w := by
  have T1 := hide h
  clear h
  go_enter Tryz.func28, Tryz.ntmps28
  go_wp2_with (go_at_call 46; fail)
  refine (isTree_any w).mono ?_
  rintro e w1 ⟨rfl, rfl⟩
  rw [unhide T1]
  go_wp2
  go_ret2
  exact ⟨rfl, rfl⟩

theorem lowN {B : Nat} {a w : World} (h : Below B a w) (n : Nat) : Below B a (w.drewN n) := h.trans ⟨rfl, rfl, rfl, Nat.le_refl _, fun _ _ => rfl⟩

theorem over_any {B : Nat} {index i j : Nat} (hi : i < 1048577) (hj : i + 1 = j) (w : World) (hc : w.cell? ⟨B, 0, none⟩ = some (.int .i64 (index : Int))) : Calls Tryz.prog 69 #[.int .i64 (i : Int), .pointer (some ⟨B, 0, none⟩)] w fun e w' => e = .returned (.bool (decide (index < stored j))) ∧ ∃ nq, w' = w.drewN nq := by
  have e0 : (i : Int) + 1 = (j : Int) := by omega
  have hj2 : j < 16777216 := by omega
  have HE : Hid (decide ((index : Int) < (stored j : Int)) = decide (index < stored j)) := hide (by simp)
  clear hj
  go_enter Tryz.func69, Tryz.ntmps69
  go_wp2
  go_quiet ((go_at_call 67; exact Calls.quiet_of_same (places_any hj2 _)))
  go_wp2
  go_ret
  exact ⟨by rw [← unhide HE]; rfl, nq, rfl⟩

set_option maxHeartbeats 1000000 in
theorem search_any {B : Nat} {index : Nat} (hx : index < 2097151) (w : World) (hc : w.cell? ⟨B, 0, none⟩ = some (.int .i64 (index : Int))) : Calls Tryz.prog 68 #[.int .i64 1048576, .func (.func 69) #[] #[.pointer (some ⟨B, 0, none⟩)]] w fun e w' => ∃ r : Nat, e = .returned (.int .i64 (r : Int)) ∧ r < 1048576 ∧ stored r ≤ index ∧ index < stored (r + 1) ∧ ∃ nq, w' = w.drewN nq := by
  have s0 : stored 0 = 0 := by decide
  have sN : stored 1048576 = 2097151 := by decide +kernel
  have HS0 : Hid (stored 0 ≤ index) := hide (by omega)
  have HSN : Hid (∀ j, j ≤ 1048576 → index < stored (j + 1) → j < 1048577) := hide (fun j h _ => by omega)
  have HS1 : Hid (index < stored (1048576 + 1)) := hide (by
    have := stored_mono (m := 1048576) (n := 1048576 + 1) (by omega) (by omega)
    omega)
  have HSX : Hid (stored 1048576 > index) := hide (by omega)
  clear s0 sN HSN
  go_enter Tryz.func68, Tryz.ntmps68
  go_wp2
  go_loopw [5, 6, 7] (fun vi vj _ wr => ∃ i j nr : Nat, vi = .int .i64 (i : Int) ∧ vj = .int .i64 (j : Int) ∧ i ≤ j ∧ j ≤ 1048576 ∧ stored i ≤ index ∧ index < stored (j + 1) ∧ wr = w.drewN nr) (fun vi vj _ _ => (intOf vj - intOf vi).toNat)
  case atStart => exact ⟨0, 1048576, 0, rfl, rfl, by omega, by omega, unhide HS0, unhide HS1, rfl⟩
  case round =>
    rename World => wr
    obtain ⟨i, j, nr, rfl, rfl, hij, hj, hsi, hsj, hwr⟩ := hrel
    have HSI := hide hsi
    have HSJ := hide hsj
    have HW := hide hwr
    have hcr : wr.cell? ⟨B, 0, none⟩ = some (.int .i64 (index : Int)) := by rw [hwr]; exact hc
    clear hsi hsj hwr hc
    by_cases hlt : i < j
    · obtain ⟨h, hh⟩ : ∃ h : Nat, (i + j) / 2 = h := ⟨_, rfl⟩
      obtain ⟨t, ht⟩ : ∃ t : Nat, i + j = t := ⟨_, rfl⟩
      have q0 : (i : Int) + (j : Int) = (t : Int) := by omega
      have q1 : IntKind.u64.wrap (t : Int) = (t : Int) := wrapU _ (by omega)
      have q2 : (t : Int) / 2 = (h : Int) := by omega
      have q3 : IntKind.i64.wrap (h : Int) = (h : Int) := wrapI _ (by omega)
      have hb : i ≤ h ∧ h < j := by omega
      obtain ⟨hb1, hb2⟩ := hb
      have q4 : t < 4000000 := by omega
      have HC := hide (over_any (B := B) (index := index) (i := h) (by omega) rfl wr hcr)
      clear hh ht
      by_cases ho : index < stored (h + 1)
      · have HO : Hid (decide (index < stored (h + 1)) = true) := hide (decide_eq_true ho)
        have HO2 := hide ho
        clear ho
        go_wp2_with fail
        refine (unhide HC).mono ?_
        rintro e w2 ⟨rfl, nq, hw2⟩
        rw [unhide HO]
        have HW2 := hide hw2
        clear hw2
        go_wp2
        go_roundw
        case rel => exact ⟨i, h, nr + nq, rfl, rfl, hb1, by omega, unhide HSI, unhide HO2, by rw [unhide HW2, unhide HW, World.drewN_drewN]⟩
        case measure => simp [intOf]; omega
      · have HO : Hid (decide (index < stored (h + 1)) = false) := hide (decide_eq_false ho)
        have HO2 := hide ho
        clear ho
        go_wp2_with fail
        refine (unhide HC).mono ?_
        rintro e w2 ⟨rfl, nq, hw2⟩
        rw [unhide HO]
        have HW2 := hide hw2
        clear hw2
        go_wp2
        go_roundw
        case rel => exact ⟨h + 1, j, nr + nq, by push_cast; rfl, rfl, by omega, by omega, by have := unhide HO2; omega, unhide HSJ, by rw [unhide HW2, unhide HW, World.drewN_drewN]⟩
        case measure => simp [intOf]; omega
    · have hij2 : i = j := by omega
      subst hij2
      go_wp2
      go_ret
      refine ⟨i, rfl, ?_, unhide HSI, unhide HSJ, nr, unhide HW⟩
      have h1 := unhide HSI
      have h2 := unhide HSX
      apply Classical.byContradiction
      intro hc
      have : i = 1048576 := by omega
      subst this
      omega

theorem places_max (w : World) : Calls Tryz.prog 67 #[.int .i64 1048576] w fun e w' => e = .returned (.int .i64 2097151) ∧ w' = w := by
  have h := places_any (n := 1048576) (by decide) w
  have s : stored 1048576 = 2097151 := by decide +kernel
  rw [s] at h
  exact h

set_option maxHeartbeats 1000000 in
/-- What stands at a place. -/
theorem split_any {index : Nat} (hx : index < 2097151) (w : World) : Calls Tryz.prog 29 #[.int .i64 (index : Int)] w fun e w' => ∃ r v : Nat, e = .returned (.tuple #[.int .i64 (v : Int), .int .i64 ((r : Int) / 2 ^ min v 64), .int .i64 0]) ∧ r < 1048576 ∧ index = stored r + v ∧ index < stored (r + 1) ∧ Below w.heap.size w w' := by
  have t1 : decide ((index : Int) < 0) = false := decide_eq_false (by omega)
  have t2 : decide ((2097151 : Int) ≤ (index : Int)) = false := decide_eq_false (by omega)
  obtain ⟨W1, hW1⟩ : ∃ W1, w.alloc (.cells #[.int .i64 (index : Int)] 3) = W1 := ⟨_, rfl⟩
  have hc : W1.cell? ⟨w.heap.size, 0, none⟩ = some (.int .i64 (index : Int)) := by rw [← hW1]; exact (Blk.new w _ 3).cell 0
  have HB : Hid (Below w.heap.size w W1) := hide (by rw [← hW1]; exact (Below.refl _ _).alloc (Nat.le_refl _) _)
  have HW := hide hW1
  clear hW1
  go_enter Tryz.func29, Tryz.ntmps29
  go_wp2
  rw [unhide HW]
  go_quiet ((go_at_call 67; exact Calls.quiet_of_same (places_max _)))
  clear t1 t2
  obtain ⟨W2, hW2⟩ : ∃ W2, W1.drewN nq = W2 := ⟨_, rfl⟩
  rw [hW2]
  have hc2 : W2.cell? ⟨w.heap.size, 0, none⟩ = some (.int .i64 (index : Int)) := by rw [← hW2]; exact hc
  have HB2 : Hid (Below w.heap.size w W2) := hide (by rw [← hW2]; exact lowN (unhide HB) _)
  clear hW2 hc HB HW
  go_wp2_with fail
  refine (search_any hx W2 hc2).mono ?_
  rintro e w3 ⟨r, rfl, hr, h1, h2, nq2, hw3⟩
  have hc3 : w3.cell? ⟨w.heap.size, 0, none⟩ = some (.int .i64 (index : Int)) := by rw [hw3]; exact hc2
  have HB3 : Hid (Below w.heap.size w w3) := hide (by rw [hw3]; exact lowN (unhide HB2) _)
  obtain ⟨v, hv⟩ : ∃ v, index = stored r + v := ⟨index - stored r, by omega⟩
  have q1 : (index : Int) - (stored r : Int) = (v : Int) := by omega
  have q2 : v < 2097151 := by omega
  have HV := hide hv
  have H1 := hide h1
  have H2 := hide h2
  clear hv h1 h2 hw3 hc2 HB2
  go_wp2
  go_quiet ((go_at_call 67; exact Calls.quiet_of_same (places_any (by omega) _)))
  go_wp2
  go_quiet (fail)
  go_wp2
  exact bodyPost_ret (v := .tuple #[.int .i64 (v : Int), .int .i64 ((r : Int) / 2 ^ min v 64), .int .i64 0]) (by simp [results, Tryz.results29, go_sem]) rfl ⟨r, v, rfl, hr, unhide HV, unhide H2, lowN (lowN (unhide HB3) _) _⟩
end Go.Proofs.YtkpmbbeidcpclaaGreatDoor
