/-
  The reference's Index, Count and Split.
-/
import Derived.Test.YtkpmbbeidcpclaaGreatDoorHshA
namespace Go.Proofs.YtkpmbbeidcpclaaGreatDoor
open Go.RowKit

set_option maxHeartbeats 2000000 in
theorem there_any {level k : Int} {n : Nat} (hn : n ≤ 1048576) (w : World) : Calls Tryz.prog 48 #[.int .i64 level, .int .i64 k, .int .i64 (n : Int)] w fun e w' => e = .returned (.bool (treeB level k n)) ∧ w' = w := by
  cases hb : treeB level k n with
  | true =>
    obtain ⟨v, j, rfl, rfl, hv, hj⟩ := tree_in hn hb
    obtain ⟨p, hp⟩ : ∃ p, 2 ^ v = p := ⟨_, rfl⟩
    have HP := hide (power_any (n := v) (q := p) (by omega) hp w)
    rw [hp] at hj
    have hpp : 1 ≤ p := by rw [← hp]; exact Nat.one_le_two_pow
    obtain ⟨t, ht⟩ : ∃ t, (j + 1) * p = t := ⟨_, rfl⟩
    rw [ht] at hj
    have e1 : ((j : Int) + 1) * (p : Int) = (t : Int) := by rw [← ht]; push_cast; rfl
    have hjb : j ≤ 1048576 := by
      have : (j + 1) * 1 ≤ (j + 1) * p := Nat.mul_le_mul_left _ hpp
      omega
    have hti : (t : Int) ≤ (n : Int) := by omega
    clear hb hp ht
    go_enter Tryz.func48, Tryz.ntmps48
    go_wp2_with (go_at_call 49; fail)
    refine (unhide HP).mono ?_
    rintro e w1 ⟨rfl, rfl⟩
    go_wp2
    go_ret
    exact ⟨rfl, rfl⟩
  | false =>
    have hf := treeB_false hb
    clear hb
    by_cases c1 : 0 ≤ level
    · by_cases c2 : level ≤ 20
      · by_cases c3 : 0 ≤ k
        · by_cases c4 : k ≤ 1048576
          · obtain ⟨v, rfl⟩ : ∃ v : Nat, level = v := ⟨level.toNat, by omega⟩
            obtain ⟨j, rfl⟩ : ∃ j : Nat, k = j := ⟨k.toNat, by omega⟩
            obtain ⟨p, hp⟩ : ∃ p, 2 ^ v = p := ⟨_, rfl⟩
            have HP := hide (power_any (n := v) (q := p) (by omega) hp w)
            have hpb : p ≤ 1048576 := by
              rw [← hp]
              exact Nat.le_trans (Nat.pow_le_pow_right (by decide) (show v ≤ 20 by omega)) (by decide)
            obtain ⟨t, ht⟩ : ∃ t, (j + 1) * p = t := ⟨_, rfl⟩
            have e1 : ((j : Int) + 1) * (p : Int) = (t : Int) := by rw [← ht]; push_cast; rfl
            have htb : t ≤ 1048577 * 1048576 := by rw [← ht]; exact Nat.mul_le_mul (by omega) hpb
            have hnt : ¬ ((t : Int) ≤ (n : Int)) := by
              intro hc
              refine hf ⟨c1, c2, c3, ?_⟩
              rw [Int.toNat_natCast, pow_int, hp, e1]
              exact hc
            have htb2 : t ≤ 1099512676352 := by omega
            have hnt2 : decide (t ≤ n) = false := decide_eq_false (by omega)
            clear hnt
            clear hf hp ht htb
            go_enter Tryz.func48, Tryz.ntmps48
            go_wp2_with (go_at_call 49; fail)
            refine (unhide HP).mono ?_
            rintro e w1 ⟨rfl, rfl⟩
            go_wp2
            go_ret
            exact ⟨rfl, rfl⟩
          · clear hf
            go_enter Tryz.func48, Tryz.ntmps48
            go_wp2
            go_ret
            exact ⟨rfl, rfl⟩
        · clear hf
          go_enter Tryz.func48, Tryz.ntmps48
          go_wp2
          go_ret
          exact ⟨rfl, rfl⟩
      · clear hf
        go_enter Tryz.func48, Tryz.ntmps48
        go_wp2
        go_ret
        exact ⟨rfl, rfl⟩
    · clear hf
      go_enter Tryz.func48, Tryz.ntmps48
      go_wp2
      go_ret
      exact ⟨rfl, rfl⟩

end Go.Proofs.YtkpmbbeidcpclaaGreatDoor
