/-
  How many hashes a path has: the reference's way.
-/
import Derived.Test.YtkpmbbeidcpclaaGreatDoorRoot
namespace Go.Proofs.YtkpmbbeidcpclaaGreatDoor
open Go.RowKit

/-- How many hashes an audit path has; f: n is at most 2^f. -/
def stepsN : Nat → Nat → Nat → Nat
  | 0, _, _ => 0
  | f + 1, i, n => if n ≤ 1 then 0 else if i < half n then 1 + stepsN f i (half n) else 1 + stepsN f (i - half n) (n - half n)

theorem half_le {f n : Nat} (h1 : 2 ≤ n) (h2 : n ≤ 1048576) (hf : n ≤ 2 ^ (f + 1)) : half n ≤ 2 ^ f := by
  obtain ⟨g1, g2, g3, g4⟩ := half_is h1 h2
  apply Classical.byContradiction
  intro hn
  unfold half at hn g1
  have h3 : f < Lib.bitLen (n - 1) - 1 := by
    apply Classical.byContradiction
    intro hc
    exact hn (Nat.pow_le_pow_right (by decide) (by omega))
  have h4 : (2 : Nat) ^ (f + 1) ≤ 2 ^ (Lib.bitLen (n - 1) - 1) := Nat.pow_le_pow_right (by decide) h3
  omega

/-- The program's check of a path's length is the reference's. -/
theorem root_ok : ∀ (f : Nat) (rp : List Bs) (i n : Nat) (leaf : Bs), 1 ≤ n → n ≤ 1048576 → n ≤ 2 ^ f → (rootP rp i n leaf).2 = decide (rp.length = stepsN f i n)
  | 0, rp, i, n, leaf, h1, h2, h3 => by
    have hn : n = 1 := by simp at h3; omega
    subst hn
    cases rp <;> simp [rootP, stepsN]
  | f + 1, rp, i, n, leaf, h1, h2, h3 => by
    by_cases hn : n = 1
    · subst hn
      cases rp <;> simp [rootP, stepsN]
    · obtain ⟨g1, g2, _, g4⟩ := half_is (by omega) h2
      have hh := half_le (f := f) (by omega) h2 h3
      have hp : 1 ≤ half n := by unfold half; exact Nat.one_le_two_pow
      have hun : stepsN (f + 1) i n = if i < half n then 1 + stepsN f i (half n) else 1 + stepsN f (i - half n) (n - half n) := by
        show (if n ≤ 1 then _ else _) = _
        rw [if_neg (by omega)]
      rw [hun]
      cases rp with
      | nil =>
        have hr : rootP [] i n leaf = ([], false) := by
          show (if n = 1 then _ else _) = _
          rw [if_neg hn]
        rw [hr, Bool.eq_iff_iff]
        simp only [Bool.false_eq_true, List.length_nil, decide_eq_true_eq, false_iff]
        split <;> omega
      | cons p r =>
        have hr : rootP (p :: r) i n leaf = if i < half n then (nodeL (rootP r i (half n) leaf).1 p, (rootP r i (half n) leaf).2) else (nodeL p (rootP r (i - half n) (n - half n) leaf).1, (rootP r (i - half n) (n - half n) leaf).2) := by
          show (if n = 1 then _ else _) = _
          rw [if_neg hn]
        rw [hr]
        by_cases hi : i < half n
        · rw [if_pos hi, if_pos hi]
          simp only
          rw [root_ok f r i (half n) leaf hp (by omega) hh, Bool.eq_iff_iff]
          simp only [decide_eq_true_eq, List.length_cons]
          omega
        · rw [if_neg hi, if_neg hi]
          simp only
          rw [root_ok f r (i - half n) (n - half n) leaf (by omega) (by omega) (by omega), Bool.eq_iff_iff]
          simp only [decide_eq_true_eq, List.length_cons]
          omega

set_option maxHeartbeats 1000000 in
theorem steps_any {i n : Nat} (h1 : 1 ≤ n) (h2 : n ≤ 1048576) (hi : i < n) (w : World) : Calls Tryz.prog 83 #[.int .i64 (i : Int), .int .i64 (n : Int)] w fun e w' => e = .returned (.int .i64 (stepsN 20 i n : Int)) ∧ w' = w := by
  go_enter Tryz.func83, Tryz.ntmps83
  go_wp2
  go_loop [0, 1, 5, 6] (fun v0 v1 v5 _ => ∃ (f j m k : Nat), v0 = .int .i64 (j : Int) ∧ v1 = .int .i64 (m : Int) ∧ v5 = .int .i64 (k : Int) ∧ 1 ≤ m ∧ m ≤ 1048576 ∧ j < m ∧ m ≤ 2 ^ f ∧ f + k ≤ 20 ∧ stepsN 20 i n = k + stepsN f j m) (fun _ v1 _ _ => (intOf v1).toNat)
  case atStart => exact ⟨20, i, n, 0, rfl, rfl, rfl, h1, h2, hi, Nat.le_trans h2 (by decide), by omega, by omega⟩
  case round =>
    obtain ⟨f, j, m, k, rfl, rfl, rfl, hm1, hm2, hj, hf, hfk, hst⟩ := hrel
    by_cases hm : m = 1
    · subst hm
      have HE : Hid (stepsN 20 i n = k) := hide (by
        rw [hst]
        cases f <;> simp [stepsN])
      clear hst hf
      go_wp2
      go_ret
      exact ⟨by rw [unhide HE]; rfl, rfl⟩
    · obtain ⟨g1, g2, _, _⟩ := half_is (n := m) (by omega) hm2
      obtain ⟨f', rfl⟩ : ∃ f', f = f' + 1 := by
        cases f with
        | zero => exfalso; simp at hf; omega
        | succ f' => exact ⟨f', rfl⟩
      have hh := half_le (f := f') (by omega) hm2 hf
      have hp : 1 ≤ half m := by unfold half; exact Nat.one_le_two_pow
      have HS := hide (fun wx => refSplit_any (n := m) (by omega) hm2 wx)
      have hun : stepsN (f' + 1) j m = if j < half m then 1 + stepsN f' j (half m) else 1 + stepsN f' (j - half m) (m - half m) := by
        show (if m ≤ 1 then _ else _) = _
        rw [if_neg (by omega)]
      rw [hun] at hst
      obtain ⟨s, hs⟩ : ∃ s, half m = s := ⟨_, rfl⟩
      rw [hs] at g1 g2 hh hp hst
      have HHS := hide hs
      have hmg : 1 < m := by omega
      clear hs hun hf
      by_cases hjs : j < s
      · rw [if_pos hjs] at hst
        have HST := hide hst
        have HHH := hide hh
        clear hst hh
        go_wp2_with (go_at_call 88; fail)
        refine (unhide HS _).mono ?_
        rintro e w1 ⟨rfl, rfl⟩
        rw [unhide HHS]
        go_wp2
        go_round
        case rel => exact ⟨f', j, s, k + 1, rfl, rfl, by push_cast; rfl, hp, by omega, hjs, unhide HHH, by omega, by rw [unhide HST]; omega⟩
        case measure => simp [intOf]; omega
      · rw [if_neg hjs] at hst
        obtain ⟨j2, hj2⟩ : ∃ j2, j - s = j2 := ⟨_, rfl⟩
        obtain ⟨m2, hm2'⟩ : ∃ m2, m - s = m2 := ⟨_, rfl⟩
        rw [hj2, hm2'] at hst
        have e1 : (j : Int) - (s : Int) = (j2 : Int) := by omega
        have e2 : (m : Int) - (s : Int) = (m2 : Int) := by omega
        have HST := hide hst
        have HHH : Hid (m2 ≤ 2 ^ f') := hide (by omega)
        have a1 : 1 ≤ m2 := by omega
        have a2 : m2 ≤ 1048576 := by omega
        have a3 : j2 < m2 := by omega
        have a4 : m2 < m := by omega
        clear hst hh hj2 hm2'
        go_wp2_with (go_at_call 88; fail)
        refine (unhide HS _).mono ?_
        rintro e w1 ⟨rfl, rfl⟩
        rw [unhide HHS]
        go_wp2
        go_round
        case rel => exact ⟨f', j2, m2, k + 1, rfl, rfl, by push_cast; rfl, a1, a2, a3, unhide HHH, by omega, by rw [unhide HST]; omega⟩
        case measure => simp [intOf]; omega

end Go.Proofs.YtkpmbbeidcpclaaGreatDoor
