/-
  Where a tree is parted: the greatest power of two that is less than a number.
-/
import Derived.Test.YtkpmbbeidcpclaaGreatDoorOnes
import Derived.Test.YtkpmbbeidcpclaaGreatDoorShelf
namespace Go.Proofs.YtkpmbbeidcpclaaGreatDoor
open Go.RowKit

/-- The greatest power of two that is less than n (n above 1). -/
def half (n : Nat) : Nat := 2 ^ (Lib.bitLen (n - 1) - 1)

theorem half_is {n : Nat} (h1 : 2 ≤ n) (h2 : n ≤ 1048576) : half n < n ∧ n ≤ 2 * half n ∧ Lib.bitLen (n - 1) ≤ 20 ∧ 1 ≤ Lib.bitLen (n - 1) := by
  have e64 : (2 : Nat) ^ 64 = 18446744073709551616 := by decide
  obtain ⟨b1, b2, b3⟩ := Lib.bitLenAux_bounds 64 (n - 1) (by omega) (by omega)
  have b1' : 1 ≤ Lib.bitLen (n - 1) := b1
  have b2' : 2 ^ (Lib.bitLen (n - 1) - 1) ≤ n - 1 := b2
  have b3' : n - 1 < 2 ^ Lib.bitLen (n - 1) := b3
  have e : 2 ^ Lib.bitLen (n - 1) = 2 * 2 ^ (Lib.bitLen (n - 1) - 1) := by
    rw [← Nat.pow_succ', Nat.succ_eq_add_one, Nat.sub_add_cancel b1']
  refine ⟨by unfold half; omega, by unfold half; omega, ?_, b1'⟩
  apply Classical.byContradiction
  intro hn
  have h20 : (2 : Nat) ^ 20 ≤ 2 ^ (Lib.bitLen (n - 1) - 1) := Nat.pow_le_pow_right (by decide) (by omega)
  have : (2 : Nat) ^ 20 = 1048576 := by decide
  omega
theorem pow_unique {i j n : Nat} (h1 : 2 ^ i < n) (h2 : n ≤ 2 * 2 ^ i) (h3 : 2 ^ j < n) (h4 : n ≤ 2 * 2 ^ j) : i = j := by
  apply Classical.byContradiction
  intro hne
  by_cases hlt : i < j
  · have : (2 : Nat) ^ (i + 1) ≤ 2 ^ j := Nat.pow_le_pow_right (by decide) hlt
    rw [Nat.pow_succ] at this
    omega
  · have : (2 : Nat) ^ (j + 1) ≤ 2 ^ i := Nat.pow_le_pow_right (by decide) (by omega)
    rw [Nat.pow_succ] at this
    omega

theorem firstHalf_any {n : Nat} (h1 : 2 ≤ n) (h2 : n ≤ 1048576) (w : World) : Calls Tryz.prog 110 #[.int .i64 (n : Int)] w fun e w' => e = .returned (.int .i64 (half n : Int)) ∧ w' = w := by
  obtain ⟨g1, g2, g3, g4⟩ := half_is h1 h2
  obtain ⟨m, hm⟩ : ∃ m, n - 1 = m := ⟨_, rfl⟩
  obtain ⟨l, hl⟩ : ∃ l, Lib.bitLen m - 1 = l := ⟨_, rfl⟩
  rw [hm] at g3 g4
  have e1 : (n : Int) - 1 = (m : Int) := by omega
  have e2 : IntKind.u64.wrap (m : Int) = (m : Int) := wrapU m (by omega)
  have e3 : (Lib.bitLen m : Int) - 1 = (l : Int) := by omega
  have HL := hide (Tryz.bits_Len (m : Int) w (by omega) (by omega))
  have e4 : (2 : Int) ^ l = (half n : Int) := by rw [pow_int]; unfold half; rw [hm, hl]
  have hl19 : l ≤ 19 := by omega
  have hm2 : m ≤ 1048576 := by omega
  clear hm hl
  go_enter Tryz.func110, Tryz.ntmps110
  go_wp2_with (go_at_call 127; fail)
  refine (unhide HL).mono ?_
  rintro e w1 ⟨rfl, rfl⟩
  rw [Int.toNat_natCast]
  go_wp2
  go_ret
  exact ⟨rfl, rfl⟩

set_option maxHeartbeats 1000000 in
theorem refSplit_any {n : Nat} (h1 : 2 ≤ n) (h2 : n ≤ 1048576) (w : World) : Calls Tryz.prog 88 #[.int .i64 (n : Int)] w fun e w' => e = .returned (.int .i64 (half n : Int)) ∧ w' = w := by
  obtain ⟨g1, g2, _, _⟩ := half_is h1 h2
  have HU : Hid (∀ i, 2 ^ i < n → n ≤ 2 * 2 ^ i → 2 ^ i = half n) := hide (fun i a b => by unfold half at g1 g2 ⊢; rw [pow_unique a b g1 g2])
  clear g1 g2
  go_enter Tryz.func88, Tryz.ntmps88
  go_wp2
  go_loop [3] (fun v3 => ∃ i s : Nat, s = 2 ^ i ∧ s < n ∧ v3 = .int .i64 (s : Int)) (fun v3 => n - (intOf v3).toNat)
  case atStart => exact ⟨0, 1, rfl, by omega, rfl⟩
  case round =>
    obtain ⟨i, s, hs, hsn, rfl⟩ := hrel
    obtain ⟨t, ht⟩ : ∃ t, 2 * s = t := ⟨_, rfl⟩
    have e1 : 2 * (s : Int) = (t : Int) := by omega
    have hsp : 1 ≤ s := by rw [hs]; exact Nat.one_le_two_pow
    have htb : t ≤ 2097152 := by omega
    have HS := hide hs
    have HT := hide ht
    have hst : s < t := by omega
    clear hs ht
    by_cases hlt : t < n
    · have HN : Hid (t = 2 ^ (i + 1)) := hide (by rw [← unhide HT, unhide HS, Nat.pow_succ]; omega)
      go_wp2
      go_round
      case rel => exact ⟨i + 1, t, unhide HN, hlt, rfl⟩
      case measure => simp [intOf]; omega
    · have HE : Hid (s = half n) := hide (by
        have a := unhide HS
        have b := unhide HT
        rw [a]
        exact unhide HU i (by omega) (by omega))
      go_wp2
      go_ret
      exact ⟨by rw [← unhide HE]; rfl, rfl⟩

end Go.Proofs.YtkpmbbeidcpclaaGreatDoor
