/-
  The reference's Index, Count and Split.
-/
import Derived.Test.YtkpmbbeidcpclaaGreatDoorLogP
import Derived.Test.YtkpmbbeidcpclaaGreatDoorChk
namespace Go.Proofs.YtkpmbbeidcpclaaGreatDoor
open Go.RowKit

/-- few answers some truth; where it is true there are few. -/
def FewSaid (n : Nat) (w : World) (e : Ending) (w' : World) : Prop := ∃ r : Bool, e = .returned (.bool r) ∧ (r = true → n ≤ 70) ∧ w' = w

set_option maxHeartbeats 1000000 in
theorem few_any {w : World} {a : Option Addr} {n c : Nat} {ps : List Bs} (hn : ps.length = n) (hN : n ≤ 1048576) (hl : ∀ p ∈ ps, p.length ≤ 1073741824) (h : PAt w a ps) :
    Calls Tryz.prog 7 #[.slice a n c] w (FewSaid n w) := by
  have HN := hide hn
  have H := hide h
  have HL := hide hl
  clear hn h hl
  go_enter Tryz.func7, Tryz.ntmps7
  go_wp2
  go_loop [3, 4] (fun v3 v4 => ∃ k t : Nat, k ≤ n ∧ k ≤ 71 ∧ t ≤ 4000 ∧ v3 = .int .i64 (t : Int) ∧ v4 = .int .i64 (k : Int)) (fun _ v4 => 100 - (intOf v4).toNat)
  case atStart => exact ⟨0, 0, Nat.zero_le _, by omega, by omega, rfl, rfl⟩
  case round =>
    obtain ⟨k, t, hk, hk71, ht, rfl, rfl⟩ := hrel
    by_cases hlt : k < n ∧ k ≤ 70
    · obtain ⟨hlt, h70⟩ := hlt
      have hkp : k < ps.length := by rw [unhide HN]; exact hlt
      rcases (unhide H).els with h0 | ⟨B, O, rfl, he⟩
      · rw [h0] at hkp; simp at hkp
      · obtain ⟨x, d, hc, _⟩ := he k hkp
        have hpl := unhide HL ps[k] (List.getElem_mem hkp)
        obtain ⟨m, hm⟩ : ∃ m, ps[k].length = m := ⟨_, rfl⟩
        rw [hm] at hc hpl
        obtain ⟨m1, hm1⟩ : ∃ m1, min m 2000 = m1 := ⟨_, rfl⟩
        have e1 : min (m : Int) 2000 = (m1 : Int) := by omega
        obtain ⟨t1, ht1⟩ : ∃ t1, min (t + m1) 4000 = t1 := ⟨_, rfl⟩
        have e2 : min ((t : Int) + (m1 : Int)) 4000 = (t1 : Int) := by omega
        have hm1b : m1 ≤ 2000 := by omega
        have ht1b : t1 ≤ 4000 := by omega
        clear he hm hm1 ht1
        go_wp2
        go_round
        case rel => exact ⟨k + 1, t1, hlt, by omega, ht1b, by first | rfl | (simp [e2]) | (rw [e2]), by push_cast; rfl⟩
        case measure => simp [intOf]; omega
    · by_cases hkn : k < n
      · have h71 : ¬ (k ≤ 70) := fun h => hlt ⟨hkn, h⟩
        have h71' : ¬ ((k : Int) ≤ 70) := by omega
        have hn70 : ¬ (n ≤ 70) := by omega
        have hn70' : ¬ ((n : Int) ≤ 70) := by omega
        clear hlt
        go_wp2
        go_ret
        exact ⟨false, rfl, (fun h => by cases h), rfl⟩
      · clear hlt
        by_cases hn70 : n ≤ 70
        · go_wp2
          go_ret
          exact ⟨_, rfl, fun _ => hn70, rfl⟩
        · have hn70' : ¬ ((n : Int) ≤ 70) := by omega
          go_wp2
          go_ret
          exact ⟨false, rfl, (fun h => by cases h), rfl⟩

set_option maxHeartbeats 1000000 in
theorem power_any {n q : Nat} (h : n ≤ 40) (hq : 2 ^ n = q) (w : World) : Calls Tryz.prog 49 #[.int .i64 (n : Int)] w fun e w' => e = .returned (.int .i64 (q : Int)) ∧ w' = w := by
  have HQ := hide hq
  clear hq
  go_enter Tryz.func49, Tryz.ntmps49
  go_wp2
  go_loop [3, 4] (fun v3 v4 => ∃ i p : Nat, i ≤ n ∧ 2 ^ i = p ∧ v3 = .int .i64 (p : Int) ∧ v4 = .int .i64 (i : Int)) (fun _ v4 => n - (intOf v4).toNat)
  case atStart => exact ⟨0, 1, Nat.zero_le _, rfl, rfl, rfl⟩
  case round =>
    obtain ⟨i, p, hi, hp, rfl, rfl⟩ := hrel
    have hpb : p ≤ 1099511627776 := by
      rw [← hp]
      exact Nat.le_trans (Nat.pow_le_pow_right (by decide) (show i ≤ 40 by omega)) (by decide)
    by_cases hlt : i < n
    · obtain ⟨p2, hp2⟩ : ∃ p2, 2 * p = p2 := ⟨_, rfl⟩
      have e1 : (2 : Int) * (p : Int) = (p2 : Int) := by omega
      have hp2b : p2 ≤ 2199023255552 := by omega
      have HP : Hid (2 ^ (i + 1) = p2) := hide (by rw [Nat.pow_succ, hp]; omega)
      clear hp hp2
      go_wp2
      go_round
      case rel => exact ⟨i + 1, p2, hlt, unhide HP, rfl, by push_cast; rfl⟩
      case measure => simp [intOf]; omega
    · have HE : Hid (q = p) := hide (by rw [← unhide HQ, ← hp]; congr 1; omega)
      clear hp
      go_wp2
      go_ret
      exact ⟨by rw [unhide HE]; rfl, rfl⟩

theorem treeB_false {level k : Int} {n : Nat} (h : treeB level k n = false) : ¬ (0 ≤ level ∧ level ≤ 20 ∧ 0 ≤ k ∧ (k + 1) * 2 ^ level.toNat ≤ n) := by
  rintro ⟨h1, h2, h3, h4⟩
  have e := tree_nat (v := level.toNat) (j := k.toNat) (n := n) (by omega) (by
    have hk : k = (k.toNat : Int) := by omega
    rw [hk, pow_int] at h4
    have : (((k.toNat + 1) * 2 ^ level.toNat : Nat) : Int) ≤ (n : Int) := by push_cast at h4 ⊢; exact h4
    exact Int.ofNat_le.1 this)
  rw [Int.toNat_of_nonneg h1, Int.toNat_of_nonneg h3, h] at e
  cases e

end Go.Proofs.YtkpmbbeidcpclaaGreatDoor

namespace Go.Proofs.YtkpmbbeidcpclaaGreatDoor
open Go.RowKit

set_option maxHeartbeats 2000000 in
theorem there_any {level k : Int} {n : Nat} (hn : n ≤ 1048576) (w : World) : Calls Tryz.prog 48 #[.int .i64 level, .int .i64 k, .int .i64 (n : Int)] w fun e w' => e = .returned (.bool (treeB level k n)) ∧ w' = w := by
  cases hb : treeB level k n with
  | true =>
    obtain ⟨v, j, rfl, rfl, hv, hj⟩ := tree_in hn hb
    obtain ⟨p, hp⟩ : ∃ p, 2 ^ v = p := ⟨_, rfl⟩
    have HP := hide (power_any (n := v) (q := p) (by omega) hp w)
    rw [hp] at hj
    have hpp : 1 ≤ p := by rw [← hp]; exact Nat.one_le_two_pow
    obtain ⟨t, ht⟩ : ∃ t, (j + 1) * p = t := ⟨_, rfl⟩
    rw [ht] at hj
    have e1 : ((j : Int) + 1) * (p : Int) = (t : Int) := by rw [← ht]; push_cast; rfl
    have hjb : j ≤ 1048576 := by
      have : (j + 1) * 1 ≤ (j + 1) * p := Nat.mul_le_mul_left _ hpp
      omega
    have hti : (t : Int) ≤ (n : Int) := by omega
    clear hb hp ht
    go_enter Tryz.func48, Tryz.ntmps48
    go_wp2_with (go_at_call 49; fail)
    refine (unhide HP).mono ?_
    rintro e w1 ⟨rfl, rfl⟩
    go_wp2
    go_ret
    exact ⟨rfl, rfl⟩
  | false =>
    have hf := treeB_false hb
    clear hb
    by_cases c1 : 0 ≤ level
    · by_cases c2 : level ≤ 20
      · by_cases c3 : 0 ≤ k
        · by_cases c4 : k ≤ 1048576
          · obtain ⟨v, rfl⟩ : ∃ v : Nat, level = v := ⟨level.toNat, by omega⟩
            obtain ⟨j, rfl⟩ : ∃ j : Nat, k = j := ⟨k.toNat, by omega⟩
            obtain ⟨p, hp⟩ : ∃ p, 2 ^ v = p := ⟨_, rfl⟩
            have HP := hide (power_any (n := v) (q := p) (by omega) hp w)
            have hpb : p ≤ 1048576 := by
              rw [← hp]
              exact Nat.le_trans (Nat.pow_le_pow_right (by decide) (show v ≤ 20 by omega)) (by decide)
            obtain ⟨t, ht⟩ : ∃ t, (j + 1) * p = t := ⟨_, rfl⟩
            have e1 : ((j : Int) + 1) * (p : Int) = (t : Int) := by rw [← ht]; push_cast; rfl
            have htb : t ≤ 1048577 * 1048576 := by rw [← ht]; exact Nat.mul_le_mul (by omega) hpb
            have hnt : ¬ ((t : Int) ≤ (n : Int)) := by
              intro hc
              refine hf ⟨c1, c2, c3, ?_⟩
              rw [Int.toNat_natCast, pow_int, hp, e1]
              exact hc
            have htb2 : t ≤ 1099512676352 := by omega
            have hnt2 : decide (t ≤ n) = false := decide_eq_false (by omega)
            clear hnt
            clear hf hp ht htb
            go_enter Tryz.func48, Tryz.ntmps48
            go_wp2_with (go_at_call 49; fail)
            refine (unhide HP).mono ?_
            rintro e w1 ⟨rfl, rfl⟩
            go_wp2
            go_ret
            exact ⟨rfl, rfl⟩
          · clear hf
            go_enter Tryz.func48, Tryz.ntmps48
            go_wp2
            go_ret
            exact ⟨rfl, rfl⟩
        · clear hf
          go_enter Tryz.func48, Tryz.ntmps48
          go_wp2
          go_ret
          exact ⟨rfl, rfl⟩
      · clear hf
        go_enter Tryz.func48, Tryz.ntmps48
        go_wp2
        go_ret
        exact ⟨rfl, rfl⟩
    · clear hf
      go_enter Tryz.func48, Tryz.ntmps48
      go_wp2
      go_ret
      exact ⟨rfl, rfl⟩

end Go.Proofs.YtkpmbbeidcpclaaGreatDoor
