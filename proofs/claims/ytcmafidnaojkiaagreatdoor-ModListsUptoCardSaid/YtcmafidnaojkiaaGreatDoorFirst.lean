/-
  The contracts of Num, few and first.
-/
import Derived.Test.YtcmafidnaojkiaaGreatDoorPsB
namespace Go.Proofs.YtcmafidnaojkiaaGreatDoor
open Go.RowKit

theorem num_any (n : Int) (w : World) : Calls Tryz.prog 28 #[.int .i64 n] w fun e w' => e = .returned (.int .i64 n) ∧ w' = w := by
  go_enter Tryz.func28, Tryz.ntmps28
  go_wp2
  go_ret
  exact ⟨rfl, rfl⟩

/-- Texts few and short. -/
def fewB (ps : List Str) : Bool := decide (ps.length ≤ 60) && ps.all fun p => decide (p.length ≤ 2000)

theorem few_any {ps : List Str} {B cp : Nat} (hn : ps.length ≤ 1099511627776) {w : World} (ht : Texts w B ps) : Calls Tryz.prog 14 #[.slice (some ⟨B, 0, none⟩) ps.length cp] w fun e w' => e = .returned (.bool (fewB ps)) ∧ w' = w := by
  have HT := hide ht
  clear ht
  go_enter Tryz.func14, Tryz.ntmps14
  go_wp2
  go_loop [3] (fun i => ∃ k : Nat, k ≤ ps.length ∧ k ≤ 61 ∧ i = .int .i64 k ∧ (ps.take k).all (fun p => decide (p.length ≤ 2000)) = true) (fun i => 61 - (intOf i).toNat)
  case atStart => exact ⟨0, Nat.zero_le _, Nat.zero_le _, rfl, rfl⟩
  case round =>
    obtain ⟨k, hk, hk61, rfl, hall⟩ := hrel
    have HA := hide hall
    clear hall
    by_cases hlt : k < ps.length
    · by_cases h60 : k ≤ 60
      · have hc := (unhide HT) k hlt
        have hs := ba_size ps[k]
        by_cases hs2 : ps[k].length ≤ 2000
        · have HF := hide (all_take (unhide HA) hlt (by simpa using hs2))
          have hq : ¬ (2000 : Int) < (ps[k].length : Int) := by omega
          clear HA
          go_wp2
          go_round
          case rel => exact ⟨k + 1, hlt, by omega, by simp, unhide HF⟩
          case measure => simp [intOf]; omega
        · have HF : Hid (fewB ps = false) := by
            show fewB ps = false
            unfold fewB
            rw [all_no hlt (by simpa using hs2)]; simp
          have hq : (2000 : Int) < (ps[k].length : Int) := by omega
          go_wp2
          go_ret
          exact ⟨ret_bool (unhide HF).symm, rfl⟩
      · have HF : Hid (fewB ps = false) := by
          show fewB ps = false
          unfold fewB
          have : decide (ps.length ≤ 60) = false := by simp; omega
          rw [this]; rfl
        have hq : ¬ (ps.length : Int) ≤ 60 := by omega
        have hq2 : ¬ (k : Int) ≤ 60 := by omega
        go_wp2
        go_ret
        exact ⟨ret_bool (by rw [unhide HF]), rfl⟩
    · have hke : k = ps.length := by omega
      subst hke
      have HF : Hid (fewB ps = decide (ps.length ≤ 60)) := by
        have := unhide HA
        rw [List.take_length] at this
        show fewB ps = _
        unfold fewB
        rw [this]; simp
      go_wp2
      go_ret
      exact ⟨ret_bool (by rw [unhide HF]; simp; omega), rfl⟩

theorem dec_small {u : Nat} (h : u < 10) : Lib.decDigits u = [UInt8.ofNat (48 + u)] := by rw [Lib.decDigits, dif_pos h]

set_option maxRecDepth 100000 in
theorem first_pseudo : pseudoR 1 [118, 49, 46, 50, 46, 51] [50, 48, 50, 48, 48, 49, 48, 50, 48, 51, 48, 52, 48, 53] [97, 98, 99, 100, 101, 102, 97, 98, 99, 100, 101, 102] = ([118, 49, 46, 50, 46, 52, 45, 48, 46, 50, 48, 50, 48, 48, 49, 48, 50, 48, 51, 48, 52, 48, 53, 45, 97, 98, 99, 100, 101, 102, 97, 98, 99, 100, 101, 102], 0) := by
  have e1 : releaseL 1 2 4 = [118, 49, 46, 50, 46, 52] := by
    unfold releaseL
    rw [dec_small (by decide), dec_small (by decide), dec_small (by decide)]
    rfl
  have e2 : frontR 1 [118, 49, 46, 50, 46, 51] = some [118, 49, 46, 50, 46, 52, 45, 48, 46] := by
    unfold frontR
    rw [if_neg (by decide), show parseV [118, 49, 46, 50, 46, 51] = some ⟨1, 2, 3, []⟩ from by decide]
    simp only [if_true, ne_eq, not_true_eq_false, if_false]
    rw [e1]; rfl
  unfold pseudoR
  rw [if_neg (by decide), if_neg (by decide), show (1 : Int).toNat = 1 from rfl, e2]
  simp only
  rw [if_pos (by decide)]
  rfl
set_option maxRecDepth 100000 in
theorem first_escape : escR [97, 46, 98, 47, 67, 100] = ([97, 46, 98, 47, 33, 99, 100], 0) := by decide
set_option maxRecDepth 100000 in
theorem first_valid : (parseV [118, 49, 46, 50, 46, 51]).isSome = true := by decide
set_option maxRecDepth 100000 in
theorem first_not : (parseV [118, 49, 46, 50]).isSome = false := by decide
set_option maxRecDepth 100000 in
theorem first_cmp : cmpV [118, 49, 46, 50, 46, 51] [118, 49, 46, 49, 48, 46, 48] = -1 := by decide
set_option maxRecDepth 100000 in
theorem first_path : pathR [97, 46, 98, 47, 118, 49] = 10 := by decide

theorem cmp_is {a b : Str} {n : Int} (h : cmpV a b = n) {w : World} (hg : Gd w) : Gives 15 #[.string (ba a), .string (ba b)] w (.int .i64 n) := by rw [← h]; exact compare_any hg
theorem path_is {p : Str} {n : Nat} (h : pathR p = n) (hl : p.length < 4294967281) {w : World} (hg : Gd w) : Gives 31 #[.string (ba p)] w (.int .i64 (n : Int)) := by rw [← h]; exact path_any hl hg
theorem esc_is {l r : Str} {n : Nat} (h : escR l = (r, n)) (hl : l.length ≤ 4294967281) (w : World) : Gives 39 #[.string (ba l)] w (.tuple #[.string (ba r), .int .i64 (n : Int)]) := by
  have := esc_any hl w
  rw [h] at this; exact this
theorem pseudo_is {major : Int} {base time rev : Str} {r : Str × Nat} (h : pseudoR major base time rev = r) (ht : time.length ≤ 4294967281) (hr : rev.length ≤ 4294967281) {w : World} (hg : Gd w) : Gives 24 #[.int .i64 major, .string (ba base), .string (ba time), .string (ba rev)] w (pseudoV r) := by rw [← h]; exact pseudo_any ht hr hg

set_option maxHeartbeats 1000000 in
set_option maxRecDepth 100000 in
theorem first_any {w : World} (hg : Gd w) : Gives 13 #[] w (.bool true) := by
  unfold Gives
  have lp := ba_list [118, 49, 46, 50, 46, 52, 45, 48, 46, 50, 48, 50, 48, 48, 49, 48, 50, 48, 51, 48, 52, 48, 53, 45, 97, 98, 99, 100, 101, 102, 97, 98, 99, 100, 101, 102]
  have le := ba_list [97, 46, 98, 47, 33, 99, 100]
  go_enter Tryz.func13, Tryz.ntmps13
  go_wp2_with (go_at_call 24; fail)
  refine (pseudo_is first_pseudo (by decide) (by decide) hg).mono ?_
  rintro e w1 ⟨rfl, b1⟩
  unfold pseudoV
  go_wp2_with (go_at_call 39; fail)
  refine (esc_is first_escape (by decide) _).mono ?_
  rintro e w2 ⟨rfl, b2⟩
  have b2 := below_trans b1 b2
  clear b1
  go_wp2_with (go_at_call 16; fail)
  refine (valid_is first_valid (hg.below b2)).mono ?_
  rintro e w3 ⟨rfl, b3⟩
  have b3 := below_trans b2 b3
  clear b2
  go_wp2_with (go_at_call 16; fail)
  refine (valid_is first_not (hg.below b3)).mono ?_
  rintro e w4 ⟨rfl, b4⟩
  have b4 := below_trans b3 b4
  clear b3
  go_wp2_with (go_at_call 15; fail)
  refine (cmp_is first_cmp (hg.below b4)).mono ?_
  rintro e w5 ⟨rfl, b5⟩
  have b5 := below_trans b4 b5
  clear b4
  go_wp2_with (first | (go_at_call 28; refine (num_any _ _).mono ?_; rintro e w6 ⟨rfl, hw⟩; rw [hw]; clear hw w6) | (go_at_call 31; fail))
  refine (path_is first_path (by decide) (hg.below b5)).mono ?_
  rintro e w6 ⟨rfl, b6⟩
  have b6 := below_trans b5 b6
  clear b5
  go_wp2_with (go_at_call 28; refine (num_any _ _).mono ?_; rintro e w7 ⟨rfl, hw⟩; rw [hw]; clear hw w7)
  go_ret
  exact ⟨rfl, b6⟩

end Go.Proofs.YtcmafidnaojkiaaGreatDoor
