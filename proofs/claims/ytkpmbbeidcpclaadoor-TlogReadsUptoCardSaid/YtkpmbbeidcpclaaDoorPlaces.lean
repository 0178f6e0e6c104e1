/-
  The places of stored hashes go on one by one.
-/
import Derived.Test.YtkpmbbeidcpclaaDoorFirst
namespace Go.Proofs.YtkpmbbeidcpclaaDoor
open Go.RowKit

/-- The trees that end with a record are stored behind its leaf. -/
theorem stored_gap {i t : Nat} (hi : i + 1 < 16777216) (ht : (i + 1) % 2 ^ t = 0) : stored i + t < stored (i + 1) := by
  have key : ∀ b, (i + 1) % 2 ^ b ≠ 0 → ∃ t, (i + 1) % 2 ^ t = 0 ∧ (i + 1) % 2 ^ (t + 1) ≠ 0 := by
    intro b
    induction b with
    | zero => intro hb; exact absurd (Nat.mod_one _) hb
    | succ b ih =>
      intro hb
      by_cases hc : (i + 1) % 2 ^ b = 0
      · exact ⟨b, hc, hb⟩
      · exact ih hc
  obtain ⟨T, h1, h2⟩ := key 24 (by
    have : (2 : Nat) ^ 24 = 16777216 := by decide
    rw [this, Nat.mod_eq_of_lt hi]; omega)
  have h := stored_next T (i + 1) (by omega) hi h1 h2
  simp only [Nat.add_sub_cancel] at h
  have hle : t ≤ T := by
    apply Classical.byContradiction
    intro hn
    have hd : (2 : Nat) ^ (T + 1) ∣ 2 ^ t := Nat.pow_dvd_pow 2 (by omega)
    exact h2 (Nat.mod_eq_zero_of_dvd (Nat.dvd_trans hd (Nat.dvd_of_mod_eq_zero ht)))
  omega

/-- What stands at the place of a tree that ends with a record. -/
theorem split_at {i t k x : Nat} (hi : i < 1000000) (hk : (k + 1) * 2 ^ t = i + 1) (hx : stored i + t = x) (w : World) : Calls Tryd.prog 29 #[.int .i64 (x : Int)] w fun e w' => e = .returned (.tuple #[.int .i64 (t : Int), .int .i64 (k : Int), .int .i64 0]) ∧ Below w.heap.size w w' := by
  have hm : (i + 1) % 2 ^ t = 0 := by rw [← hk]; exact Nat.mul_mod_left _ _
  have hg := stored_gap (by omega) hm
  have hmx := stored_mono (m := i + 1) (n := 1048576) (by omega) (by decide)
  have sN : stored 1048576 = 2097151 := by decide +kernel
  refine (split_any (index := x) (by omega) w).mono ?_
  rintro e w' ⟨r, v, rfl, hr, h1, h2, hb⟩
  have hri : r = i := by
    apply Classical.byContradiction
    intro hne
    by_cases hlt : r < i
    · have := stored_mono (m := r + 1) (n := i) (by omega) (by omega)
      omega
    · have := stored_mono (m := i + 1) (n := r) (by omega) (by omega)
      omega
  subst hri
  have hv : v = t := by omega
  subst hv
  refine ⟨?_, hb⟩
  have h20 : v ≤ 20 := by
    apply Classical.byContradiction
    intro hn
    have e1 : (2 : Nat) ^ 21 ≤ 2 ^ v := Nat.pow_le_pow_right (by decide) (by omega)
    have e2 : 2 ^ v ≤ (k + 1) * 2 ^ v := by
      have : 1 * 2 ^ v ≤ (k + 1) * 2 ^ v := Nat.mul_le_mul_right _ (by omega)
      omega
    have e3 : (2 : Nat) ^ 21 = 2097152 := by decide
    omega
  have e4 : r / 2 ^ v = k := by
    have hp := Nat.two_pow_pos v
    apply Nat.div_eq_of_lt_le
    · rw [Nat.succ_mul] at hk; omega
    · show r < (k + 1) * 2 ^ v; omega
  rw [Nat.min_eq_left (by omega), pow_int, ← Int.natCast_ediv, e4]

theorem mod300 (n : Int) : ∃ (q : Int) (m : Nat), m < 300 ∧ Int.tmod n 300 = q ∧ -300 < q ∧ q < 300 ∧ Int.tmod (q + 300) 300 = (m : Int) := by
  have h1 : Int.tmod n 300 < 300 := Int.tmod_lt_of_pos _ (by decide)
  have h2 : -300 < Int.tmod n 300 := Int.lt_tmod_of_pos _ (by decide)
  have h3 : Int.tmod (Int.tmod n 300 + 300) 300 = (Int.tmod n 300 + 300) % 300 := Int.tmod_eq_emod_of_nonneg (by omega)
  exact ⟨Int.tmod n 300, ((Int.tmod n 300 + 300) % 300).toNat, by omega, rfl, h2, h1, by omega⟩

set_option maxHeartbeats 4000000 in
set_option maxRecDepth 100000 in
theorem places_law {w : World} (hg : Gd w) (n : Int) : Calls Tryd.prog 8 #[.int .i64 n] w fun e w' => e = .returned (.bool true) ∧ Below w.heap.size w w' := by
  obtain ⟨q, m, hm, hq, hq1, hq2, hmn⟩ := mod300 n
  have HG := hide hg
  clear hg
  go_enter Tryd.func8, Tryd.ntmps8
  go_wp2_with (go_at_call 10; fail)
  refine (first_any (unhide HG)).mono ?_
  rintro e w1 ⟨rfl, b1⟩
  have HB1 := hide b1
  clear b1
  go_wp2
  clear hq hq1 hq2 hmn
  go_loopw [4, 5, 6, 7, 8, 9, 10, 11, 12, 13, 14, 15] (fun v4 v5 _ _ _ _ _ _ _ _ _ _ wr => ∃ i : Nat, i ≤ m ∧ v5 = .int .i64 (i : Int) ∧ v4 = .int .i64 (stored i : Int) ∧ Below w.heap.size w wr) (fun _ v5 _ _ _ _ _ _ _ _ _ _ _ => m - (intOf v5).toNat)
  case atStart => exact ⟨0, Nat.zero_le _, rfl, rfl, unhide HB1⟩
  case round =>
    rename World => wr
    clear HB1
    obtain ⟨i, hi, rfl, rfl, hb⟩ := hrel
    have HB := hide hb
    clear hb
    by_cases hlt : i < m
    · obtain ⟨i1, hi1⟩ : ∃ i1, i + 1 = i1 := ⟨_, rfl⟩
      have e1 : (i : Int) + 1 = (i1 : Int) := by omega
      obtain ⟨s, hs⟩ : ∃ s, stored i = s := ⟨_, rfl⟩
      have hsb := stored_le (n := i) (by omega)
      rw [hs] at hsb
      rw [hs]
      have HS := hide hs
      have HI1 := hide hi1
      have hi1b : i1 ≤ 300 := by omega
      have hi1p : 1 ≤ i1 := by omega
      clear hs hi1
      go_wp2
      go_loopw [4, 6, 7, 8, 9, 10, 11, 12, 13] (fun v4 v6 v7 _ _ _ _ _ _ wq => ∃ t p x : Nat, v7 = .int .i64 (t : Int) ∧ v6 = .int .i64 (p : Int) ∧ v4 = .int .i64 (x : Int) ∧ p = 2 ^ t ∧ x = s + t ∧ (t = 0 ∨ i1 % 2 ^ (t - 1) = 0) ∧ Below w.heap.size w wq) (fun _ _ v7 _ _ _ _ _ _ _ => 20 - (intOf v7).toNat)
      case atStart => exact ⟨0, 1, s, rfl, rfl, rfl, rfl, rfl, Or.inl rfl, unhide HB⟩
      case round =>
        rename World => wq
        obtain ⟨t, p, x, rfl, rfl, rfl, hp, hx, ht, hb⟩ := hrel
        have HBq := hide hb
        clear hb
        have ht9 : t ≤ 9 := by
          rcases ht with h0 | h1
          · omega
          · apply Classical.byContradiction
            intro hn
            have e9 : (2 : Nat) ^ 9 ≤ 2 ^ (t - 1) := Nat.pow_le_pow_right (by decide) (by omega)
            have e10 : (2 : Nat) ^ 9 = 512 := by decide
            rw [Nat.mod_eq_of_lt (by omega)] at h1
            omega
        have hpp : 1 ≤ p := by rw [hp]; exact Nat.one_le_two_pow
        have hp512 : p ≤ 512 := by rw [hp]; exact Nat.le_trans (Nat.pow_le_pow_right (by decide) ht9) (by decide)
        have hp0 : (p : Int) ≠ 0 := by omega
        by_cases hd : i1 % p = 0
        · obtain ⟨k, hk⟩ : ∃ k, i1 = (k + 1) * p := by
            refine ⟨i1 / p - 1, ?_⟩
            have h1 : 1 ≤ i1 / p := (Nat.le_div_iff_mul_le (by omega)).2 (by
              have := Nat.le_of_dvd (by omega) (Nat.dvd_of_mod_eq_zero hd)
              omega)
            rw [Nat.sub_add_cancel h1]
            exact (Nat.div_mul_cancel (Nat.dvd_of_mod_eq_zero hd)).symm
          have hk2 : i1 / p = k + 1 := by rw [hk]; exact Nat.mul_div_cancel _ (by omega)
          have kb : k ≤ 300 := by
            have : (k + 1) * 1 ≤ (k + 1) * p := Nat.mul_le_mul_left _ hpp
            omega
          have g1 : (i1 : Int) % (p : Int) = 0 := by rw [← Int.natCast_emod, hd]; rfl
          have g2 : (i1 : Int) / (p : Int) = ((k + 1 : Nat) : Int) := by rw [← Int.natCast_ediv, hk2]
          have g2' : (i1 : Int) / (p : Int) = (k : Int) + 1 := by rw [g2]; push_cast; rfl
          have HX := hide (index_any (v := t) (k := k) (p := i1) (q := i) (by omega) (by rw [hk, hp]) (unhide HI1).symm (by omega) wq)
          have HE : Hid (stored i + t = x) := hide (by rw [unhide HS, hx])
          have HY := hide (split_at (i := i) (t := t) (k := k) (x := x) (by omega) (by rw [unhide HI1, hk, hp]) (unhide HE))
          have HN : Hid (2 * p = 2 ^ (t + 1)) := hide (by rw [hp, Nat.pow_succ]; omega)
          have HM : Hid (i1 % 2 ^ (t + 1 - 1) = 0) := hide (by rw [Nat.add_sub_cancel, ← hp]; exact hd)
          have HXX : Hid (x + 1 = s + (t + 1)) := hide (by omega)
          have hxb : x ≤ 10000 := by omega
          obtain ⟨p2, hp2⟩ : ∃ p2, 2 * p = p2 := ⟨_, rfl⟩
          have g3 : 2 * (p : Int) = (p2 : Int) := by omega
          have HP2 := hide hp2
          have hp2b : p2 ≤ 1024 := by omega
          clear hp hx ht hd hk hk2 g2 hp2
          have tt : ((t : Int) == 0) = true ∨ ((t : Int) == 0) = false := by cases h : ((t : Int) == 0) <;> simp
          rcases tt with tt | tt
          all_goals
            go_wp2_with (go_at_call 27; fail)
            refine (unhide HX).mono ?_
            rintro e w3 ⟨rfl, rfl⟩
            rw [unhide HE]
            go_wp2_with (go_at_call 29; fail)
            refine (unhide HY _).mono ?_
            rintro e w4 ⟨rfl, b4⟩
            have HB4 := hide (low_trans (unhide HBq) b4)
            clear b4
            go_wp2_with (go_at_call 17; refine (errno_any _ _).mono ?_; rintro e w5 ⟨rfl, rfl⟩)
            go_roundw
            case rel => exact ⟨t + 1, p2, x + 1, by push_cast; rfl, rfl, by push_cast; rfl, by rw [← unhide HP2, unhide HN], unhide HXX, Or.inr (unhide HM), unhide HB4⟩
            case measure => simp [intOf]; omega
        · have ht0 : t ≠ 0 := by
            intro h0
            subst h0
            rw [hp] at hd
            exact hd (Nat.mod_one _)
          have tt : ((t : Int) == 0) = false := by simp; omega
          have g1 : (((i1 : Int) % (p : Int)) == 0) = false := by
            have : (i1 : Int) % (p : Int) = ((i1 % p : Nat) : Int) := by rw [Int.natCast_emod]
            rw [this]
            simp
            omega
          have h1 : i1 % 2 ^ (t - 1) = 0 := ht.resolve_left ht0
          have HE : Hid (stored i1 = x) := hide (by
            have := stored_next (t - 1) i1 (by omega) (by omega) h1 (by rw [Nat.sub_add_cancel (by omega), ← hp]; exact hd)
            have e2 : i1 - 1 = i := by have := unhide HI1; omega
            rw [e2, unhide HS] at this
            omega)
          have HC := hide (count_any (n := i1) (by omega) wq)
          have HI2 := hide (unhide HI1)
          clear hp hx ht hd h1
          go_wp2_with (go_at_call 31; fail)
          refine (unhide HC).mono ?_
          rintro e w3 ⟨rfl, rfl⟩
          rw [unhide HE]
          go_wp2_with (go_at_call 17; refine (errno_any _ _).mono ?_; rintro e w5 ⟨rfl, rfl⟩)
          go_roundw
          case rel => exact ⟨i1, by omega, rfl, by rw [unhide HE], unhide HBq⟩
          case measure => simp [intOf]; omega
    · have him : i = m := by omega
      subst him
      go_wp2
      go_ret
      exact ⟨rfl, unhide HB⟩
end Go.Proofs.YtkpmbbeidcpclaaDoor
