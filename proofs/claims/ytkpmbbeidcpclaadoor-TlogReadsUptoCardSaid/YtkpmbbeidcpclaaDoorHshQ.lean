/-
  The reference's Split.
-/
import Derived.Test.YtkpmbbeidcpclaaDoorLogP
import Derived.Test.YtkpmbbeidcpclaaDoorChk
namespace Go.Proofs.YtkpmbbeidcpclaaDoor
open Go.RowKit

/-- few answers some truth; where it is true there are few. -/
def FewSaid (n : Nat) (w : World) (e : Ending) (w' : World) : Prop := ∃ r : Bool, e = .returned (.bool r) ∧ (r = true → n ≤ 70) ∧ w' = w

set_option maxHeartbeats 1000000 in
theorem few_any {w : World} {a : Option Addr} {n c : Nat} {ps : List Bs} (hn : ps.length = n) (hN : n ≤ 1048576) (hl : ∀ p ∈ ps, p.length ≤ 1073741824) (h : PAt w a ps) :
    Calls Tryd.prog 11 #[.slice a n c] w (FewSaid n w) := by
  have HN := hide hn
  have H := hide h
  have HL := hide hl
  clear hn h hl
  go_enter Tryd.func11, Tryd.ntmps11
  go_wp2
  go_loop [3, 4] (fun v3 v4 => ∃ k t : Nat, k ≤ n ∧ k ≤ 71 ∧ t ≤ 4000 ∧ v3 = .int .i64 (t : Int) ∧ v4 = .int .i64 (k : Int)) (fun _ v4 => 100 - (intOf v4).toNat)
  case atStart => exact ⟨0, 0, Nat.zero_le _, by omega, by omega, rfl, rfl⟩
  case round =>
    obtain ⟨k, t, hk, hk71, ht, rfl, rfl⟩ := hrel
    by_cases hlt : k < n ∧ k ≤ 70
    · obtain ⟨hlt, h70⟩ := hlt
      have hkp : k < ps.length := by rw [unhide HN]; exact hlt
      rcases (unhide H).els with h0 | ⟨B, O, rfl, he⟩
      · rw [h0] at hkp; simp at hkp
      · obtain ⟨x, d, hc, _⟩ := he k hkp
        have hpl := unhide HL ps[k] (List.getElem_mem hkp)
        obtain ⟨m, hm⟩ : ∃ m, ps[k].length = m := ⟨_, rfl⟩
        rw [hm] at hc hpl
        obtain ⟨m1, hm1⟩ : ∃ m1, min m 2000 = m1 := ⟨_, rfl⟩
        have e1 : min (m : Int) 2000 = (m1 : Int) := by omega
        obtain ⟨t1, ht1⟩ : ∃ t1, min (t + m1) 4000 = t1 := ⟨_, rfl⟩
        have e2 : min ((t : Int) + (m1 : Int)) 4000 = (t1 : Int) := by omega
        have hm1b : m1 ≤ 2000 := by omega
        have ht1b : t1 ≤ 4000 := by omega
        clear he hm hm1 ht1
        go_wp2
        go_round
        case rel => exact ⟨k + 1, t1, hlt, by omega, ht1b, by first | rfl | (simp [e2]) | (rw [e2]), by push_cast; rfl⟩
        case measure => simp [intOf]; omega
    · by_cases hkn : k < n
      · have h71 : ¬ (k ≤ 70) := fun h => hlt ⟨hkn, h⟩
        have h71' : ¬ ((k : Int) ≤ 70) := by omega
        have hn70 : ¬ (n ≤ 70) := by omega
        have hn70' : ¬ ((n : Int) ≤ 70) := by omega
        clear hlt
        go_wp2
        go_ret
        exact ⟨false, rfl, (fun h => by cases h), rfl⟩
      · clear hlt
        by_cases hn70 : n ≤ 70
        · go_wp2
          go_ret
          exact ⟨_, rfl, fun _ => hn70, rfl⟩
        · have hn70' : ¬ ((n : Int) ≤ 70) := by omega
          go_wp2
          go_ret
          exact ⟨false, rfl, (fun h => by cases h), rfl⟩

set_option maxHeartbeats 1000000 in
theorem power_any {n q : Nat} (h : n ≤ 40) (hq : 2 ^ n = q) (w : World) : Calls Tryd.prog 26 #[.int .i64 (n : Int)] w fun e w' => e = .returned (.int .i64 (q : Int)) ∧ w' = w := by
  have HQ := hide hq
  clear hq
  go_enter Tryd.func26, Tryd.ntmps26
  go_wp2
  go_loop [3, 4] (fun v3 v4 => ∃ i p : Nat, i ≤ n ∧ 2 ^ i = p ∧ v3 = .int .i64 (p : Int) ∧ v4 = .int .i64 (i : Int)) (fun _ v4 => n - (intOf v4).toNat)
  case atStart => exact ⟨0, 1, Nat.zero_le _, rfl, rfl, rfl⟩
  case round =>
    obtain ⟨i, p, hi, hp, rfl, rfl⟩ := hrel
    have hpb : p ≤ 1099511627776 := by
      rw [← hp]
      exact Nat.le_trans (Nat.pow_le_pow_right (by decide) (show i ≤ 40 by omega)) (by decide)
    by_cases hlt : i < n
    · obtain ⟨p2, hp2⟩ : ∃ p2, 2 * p = p2 := ⟨_, rfl⟩
      have e1 : (2 : Int) * (p : Int) = (p2 : Int) := by omega
      have hp2b : p2 ≤ 2199023255552 := by omega
      have HP : Hid (2 ^ (i + 1) = p2) := hide (by rw [Nat.pow_succ, hp]; omega)
      clear hp hp2
      go_wp2
      go_round
      case rel => exact ⟨i + 1, p2, hlt, unhide HP, rfl, by push_cast; rfl⟩
      case measure => simp [intOf]; omega
    · have HE : Hid (q = p) := hide (by rw [← unhide HQ, ← hp]; congr 1; omega)
      clear hp
      go_wp2
      go_ret
      exact ⟨by rw [unhide HE]; rfl, rfl⟩

set_option maxHeartbeats 1000000 in
theorem storedR_any {n : Nat} (h : n < 16777216) (w : World) : Calls Tryd.prog 63 #[.int .i64 (n : Int)] w fun e w' => e = .returned (.int .i64 (stored n : Int)) ∧ w' = w := by
  have hle := stored_le h
  obtain ⟨T, hT⟩ : ∃ T, stored n = T := ⟨_, rfl⟩
  rw [hT] at hle ⊢
  have HT := hide hT
  clear hT
  go_enter Tryd.func63, Tryd.ntmps63
  go_wp2
  go_loop [0, 3] (fun v0 v3 => ∃ m k : Nat, m ≤ n ∧ v0 = .int .i64 (m : Int) ∧ v3 = .int .i64 (k : Int) ∧ k + stored m = T) (fun v0 _ => (intOf v0).toNat)
  case atStart => exact ⟨n, 0, Nat.le_refl _, rfl, rfl, by rw [unhide HT]; omega⟩
  case round =>
    obtain ⟨m, k, hm, rfl, rfl, hk⟩ := hrel
    by_cases h0 : 0 < m
    · have hs := stored_step (n := m) (by omega)
      obtain ⟨m2, hm2⟩ : ∃ m2, m / 2 = m2 := ⟨_, rfl⟩
      rw [hm2] at hs
      have e1 : (m : Int) / 2 = (m2 : Int) := by omega
      have e1' : (m : Int).tdiv 2 = (m2 : Int) := by rw [Int.tdiv_eq_ediv_of_nonneg (by omega)]; exact e1
      have HK : Hid (k + m + stored m2 = T) := hide (by omega)
      have hkb : k + m ≤ 2 * n := by omega
      have hm2b : m2 < m := by omega
      clear hk hs hm2
      go_wp2
      go_round
      case rel => exact ⟨m2, k + m, by omega, by first | rfl | (rw [e1']) | (rw [e1]), by push_cast; rfl, unhide HK⟩
      case measure => simp [intOf]; omega
    · have hm0 : m = 0 := by omega
      subst hm0
      have HE : Hid (T = k) := hide (by
        have : stored 0 = 0 := by decide
        omega)
      clear hk
      go_wp2
      go_ret
      exact ⟨by rw [unhide HE]; rfl, rfl⟩

theorem treeB_false {level k : Int} {n : Nat} (h : treeB level k n = false) : ¬ (0 ≤ level ∧ level ≤ 20 ∧ 0 ≤ k ∧ (k + 1) * 2 ^ level.toNat ≤ n) := by
  rintro ⟨h1, h2, h3, h4⟩
  have e := tree_nat (v := level.toNat) (j := k.toNat) (n := n) (by omega) (by
    have hk : k = (k.toNat : Int) := by omega
    rw [hk, pow_int] at h4
    have : (((k.toNat + 1) * 2 ^ level.toNat : Nat) : Int) ≤ (n : Int) := by push_cast at h4 ⊢; exact h4
    exact Int.ofNat_le.1 this)
  rw [Int.toNat_of_nonneg h1, Int.toNat_of_nonneg h3, h] at e
  cases e

end Go.Proofs.YtkpmbbeidcpclaaDoor

namespace Go.Proofs.YtkpmbbeidcpclaaDoor
open Go.RowKit

set_option maxHeartbeats 2000000 in
theorem there_any {level k : Int} {n : Nat} (hn : n ≤ 1048576) (w : World) : Calls Tryd.prog 25 #[.int .i64 level, .int .i64 k, .int .i64 (n : Int)] w fun e w' => e = .returned (.bool (treeB level k n)) ∧ w' = w := by
  cases hb : treeB level k n with
  | true =>
    obtain ⟨v, j, rfl, rfl, hv, hj⟩ := tree_in hn hb
    obtain ⟨p, hp⟩ : ∃ p, 2 ^ v = p := ⟨_, rfl⟩
    have HP := hide (power_any (n := v) (q := p) (by omega) hp w)
    rw [hp] at hj
    have hpp : 1 ≤ p := by rw [← hp]; exact Nat.one_le_two_pow
    obtain ⟨t, ht⟩ : ∃ t, (j + 1) * p = t := ⟨_, rfl⟩
    rw [ht] at hj
    have e1 : ((j : Int) + 1) * (p : Int) = (t : Int) := by rw [← ht]; push_cast; rfl
    have hjb : j ≤ 1048576 := by
      have : (j + 1) * 1 ≤ (j + 1) * p := Nat.mul_le_mul_left _ hpp
      omega
    have hti : (t : Int) ≤ (n : Int) := by omega
    clear hb hp ht
    go_enter Tryd.func25, Tryd.ntmps25
    go_wp2_with (go_at_call 26; fail)
    refine (unhide HP).mono ?_
    rintro e w1 ⟨rfl, rfl⟩
    go_wp2
    go_ret
    exact ⟨rfl, rfl⟩
  | false =>
    have hf := treeB_false hb
    clear hb
    by_cases c1 : 0 ≤ level
    · by_cases c2 : level ≤ 20
      · by_cases c3 : 0 ≤ k
        · by_cases c4 : k ≤ 1048576
          · obtain ⟨v, rfl⟩ : ∃ v : Nat, level = v := ⟨level.toNat, by omega⟩
            obtain ⟨j, rfl⟩ : ∃ j : Nat, k = j := ⟨k.toNat, by omega⟩
            obtain ⟨p, hp⟩ : ∃ p, 2 ^ v = p := ⟨_, rfl⟩
            have HP := hide (power_any (n := v) (q := p) (by omega) hp w)
            have hpb : p ≤ 1048576 := by
              rw [← hp]
              exact Nat.le_trans (Nat.pow_le_pow_right (by decide) (show v ≤ 20 by omega)) (by decide)
            obtain ⟨t, ht⟩ : ∃ t, (j + 1) * p = t := ⟨_, rfl⟩
            have e1 : ((j : Int) + 1) * (p : Int) = (t : Int) := by rw [← ht]; push_cast; rfl
            have htb : t ≤ 1048577 * 1048576 := by rw [← ht]; exact Nat.mul_le_mul (by omega) hpb
            have hnt : ¬ ((t : Int) ≤ (n : Int)) := by
              intro hc
              refine hf ⟨c1, c2, c3, ?_⟩
              rw [Int.toNat_natCast, pow_int, hp, e1]
              exact hc
            have htb2 : t ≤ 1099512676352 := by omega
            have hnt2 : decide (t ≤ n) = false := decide_eq_false (by omega)
            clear hnt
            clear hf hp ht htb
            go_enter Tryd.func25, Tryd.ntmps25
            go_wp2_with (go_at_call 26; fail)
            refine (unhide HP).mono ?_
            rintro e w1 ⟨rfl, rfl⟩
            go_wp2
            go_ret
            exact ⟨rfl, rfl⟩
          · clear hf
            go_enter Tryd.func25, Tryd.ntmps25
            go_wp2
            go_ret
            exact ⟨rfl, rfl⟩
        · clear hf
          go_enter Tryd.func25, Tryd.ntmps25
          go_wp2
          go_ret
          exact ⟨rfl, rfl⟩
      · clear hf
        go_enter Tryd.func25, Tryd.ntmps25
        go_wp2
        go_ret
        exact ⟨rfl, rfl⟩
    · clear hf
      go_enter Tryd.func25, Tryd.ntmps25
      go_wp2
      go_ret
      exact ⟨rfl, rfl⟩

set_option maxHeartbeats 1000000 in
theorem refIndex_any {v k p q : Nat} (hv : v ≤ 20) (hp : (k + 1) * 2 ^ v = p) (hq : p = q + 1) (h : p ≤ 1048576) (w : World) : Calls Tryd.prog 28 #[.int .i64 (v : Int), .int .i64 (k : Int)] w fun e w' => e = .returned (.tuple #[.int .i64 ((stored q + v : Nat) : Int), .int .i64 0]) ∧ w' = w := by
  have hb : treeB (v : Int) (k : Int) ((1048576 : Nat) : Int) = true := tree_nat hv (by omega)
  have HT := hide (there_any (level := v) (k := k) (n := 1048576) (Nat.le_refl _) w)
  rw [hb] at HT
  obtain ⟨P, hP⟩ : ∃ P, 2 ^ v = P := ⟨_, rfl⟩
  have HP := hide (power_any (n := v) (q := P) (by omega) hP w)
  rw [hP] at hp
  have hPb : P ≤ 1048576 := by
    rw [← hP]
    exact Nat.le_trans (Nat.pow_le_pow_right (by decide) hv) (by decide)
  have hP1 : 1 ≤ P := by rw [← hP]; exact Nat.one_le_two_pow
  have hkb : k ≤ 1048576 := by
    have : (k + 1) * 1 ≤ (k + 1) * P := Nat.mul_le_mul_left _ hP1
    omega
  have e1 : ((k : Int) + 1) * (P : Int) = (p : Int) := by rw [← hp]; push_cast; rfl
  have e2 : (p : Int) - 1 = (q : Int) := by omega
  have hs := stored_le (n := q) (by omega)
  have HS := hide (storedR_any (n := q) (by omega) w)
  obtain ⟨S, hS⟩ : ∃ S, stored q = S := ⟨_, rfl⟩
  rw [hS] at hs HS ⊢
  obtain ⟨R, hR⟩ : ∃ R, S + v = R := ⟨_, rfl⟩
  have e3 : (S : Int) + (v : Int) = (R : Int) := by omega
  rw [hR]
  have HT' : Hid (Calls Tryd.prog 25 #[.int .i64 (v : Int), .int .i64 (k : Int), .int .i64 1048576] w fun e w' => e = .returned (.bool true) ∧ w' = w) := HT
  clear HT hb hp hq hP hS hR
  go_enter Tryd.func28, Tryd.ntmps28
  go_wp2_with (go_at_call 25; fail)
  refine (unhide HT').mono ?_
  rintro e w1 ⟨rfl, rfl⟩
  go_wp2_with (go_at_call 26; fail)
  refine (unhide HP).mono ?_
  rintro e w1 ⟨rfl, rfl⟩
  go_wp2_with (go_at_call 63; fail)
  refine (unhide HS).mono ?_
  rintro e w1 ⟨rfl, rfl⟩
  go_wp2
  go_ret2
  exact ⟨rfl, rfl⟩
theorem refIndex_bad {level k : Int} (h : treeB level k 1048576 = false) (w : World) : Calls Tryd.prog 28 #[.int .i64 level, .int .i64 k] w fun e w' => e = .returned (.tuple #[.int .i64 0, .int .i64 6]) ∧ w' = w := by
  have HT := hide (there_any (level := level) (k := k) (n := 1048576) (Nat.le_refl _) w)
  have h' : treeB level k ((1048576 : Nat) : Int) = false := h
  rw [h'] at HT
  have HT' : Hid (Calls Tryd.prog 25 #[.int .i64 level, .int .i64 k, .int .i64 1048576] w fun e w' => e = .returned (.bool false) ∧ w' = w) := HT
  clear HT h h'
  go_enter Tryd.func28, Tryd.ntmps28
  go_wp2_with (go_at_call 25; fail)
  refine (unhide HT').mono ?_
  rintro e w1 ⟨rfl, rfl⟩
  go_wp2
  go_ret2
  exact ⟨rfl, rfl⟩

theorem refCount_any {n : Nat} (h : n ≤ 1048576) (w : World) : Calls Tryd.prog 32 #[.int .i64 (n : Int)] w fun e w' => e = .returned (.tuple #[.int .i64 (stored n : Int), .int .i64 0]) ∧ w' = w := by
  have HS := hide (storedR_any (n := n) (by omega) w)
  have g1 : ¬ ((n : Int) < 0) := by omega
  have g2 : ¬ ((1048576 : Int) < (n : Int)) := by omega
  go_enter Tryd.func32, Tryd.ntmps32
  go_wp2_with (go_at_call 63; fail)
  refine (unhide HS).mono ?_
  rintro e w1 ⟨rfl, rfl⟩
  go_wp2
  go_ret2
  exact ⟨rfl, rfl⟩
theorem refCount_bad {n : Int} (h : sizeB n = false) (w : World) : Calls Tryd.prog 32 #[.int .i64 n] w fun e w' => e = .returned (.tuple #[.int .i64 0, .int .i64 6]) ∧ w' = w := by
  have h2 : n < 0 ∨ 1048576 < n := by
    unfold sizeB at h
    rw [Bool.and_eq_false_iff] at h
    simp only [decide_eq_false_iff_not] at h
    omega
  clear h
  by_cases c1 : n < 0
  · clear h2
    go_enter Tryd.func32, Tryd.ntmps32
    go_wp2
    go_ret2
    exact ⟨rfl, rfl⟩
  · have c2 : 1048576 < n := by omega
    clear h2
    go_enter Tryd.func32, Tryd.ntmps32
    go_wp2
    go_ret2
    exact ⟨rfl, rfl⟩

end Go.Proofs.YtkpmbbeidcpclaaDoor

namespace Go.Proofs.YtkpmbbeidcpclaaDoor
open Go.RowKit

theorem split_facts {r v : Nat} (hr : r < 1048576) (h : stored r + v < stored (r + 1)) : (r + 1) % 2 ^ v = 0 ∧ v ≤ 20 := by
  have key : ∀ b, (r + 1) % 2 ^ b ≠ 0 → ∃ t, (r + 1) % 2 ^ t = 0 ∧ (r + 1) % 2 ^ (t + 1) ≠ 0 := by
    intro b
    induction b with
    | zero => intro hb; exact absurd (Nat.mod_one _) hb
    | succ b ih =>
      intro hb
      by_cases hc : (r + 1) % 2 ^ b = 0
      · exact ⟨b, hc, hb⟩
      · exact ih hc
  obtain ⟨T, h1, h2⟩ := key 24 (by
    have : (2 : Nat) ^ 24 = 16777216 := by decide
    rw [this, Nat.mod_eq_of_lt (by omega)]; omega)
  have hn := stored_next T (r + 1) (by omega) (by omega) h1 h2
  simp only [Nat.add_sub_cancel] at hn
  have hvT : v ≤ T := by omega
  have hT : T ≤ 20 := by
    apply Classical.byContradiction; intro hc
    have e1 : (2 : Nat) ^ 21 ≤ 2 ^ T := Nat.pow_le_pow_right (by decide) (by omega)
    have e2 : 2 ^ T ≤ r + 1 := Nat.le_of_dvd (by omega) (Nat.dvd_of_mod_eq_zero h1)
    have e3 : (2 : Nat) ^ 21 = 2097152 := by decide
    omega
  exact ⟨Nat.mod_eq_zero_of_dvd (Nat.dvd_trans (Nat.pow_dvd_pow 2 hvT) (Nat.dvd_of_mod_eq_zero h1)), by omega⟩

set_option maxRecDepth 100000 in
set_option maxHeartbeats 2000000 in
theorem refSplit3_any {index r v j : Nat} (hr : r < 1048576) (h1 : index = stored r + v) (h2 : index < stored (r + 1)) (hj : r / 2 ^ v = j) (hx : index < 2097151) (w : World) : Calls Tryd.prog 30 #[.int .i64 (index : Int)] w fun e w' => e = .returned (.tuple #[.int .i64 (v : Int), .int .i64 (j : Int), .int .i64 0]) ∧ ∃ q, w' = w.drewN q := by
  obtain ⟨hdiv, hv⟩ := split_facts (v := v) hr (by omega)
  obtain ⟨P, hP⟩ : ∃ P, 2 ^ v = P := ⟨_, rfl⟩
  have hdd := div_down hdiv
  rw [hP] at hj
  rw [hP, hj] at hdd
  have hP1 : 1 ≤ P := by rw [← hP]; exact Nat.one_le_two_pow
  have HPW := hide (fun wx => power_any (n := v) (q := P) (by omega) hP wx)
  obtain ⟨r1, hr1⟩ : ∃ r1, r + 1 = r1 := ⟨_, rfl⟩
  obtain ⟨j1, hj1⟩ : ∃ j1, j + 1 = j1 := ⟨_, rfl⟩
  have hq : r1 / P = j1 := by
    have : r1 = j1 * P := by rw [← hj1, Nat.succ_mul]; omega
    rw [this, Nat.mul_div_cancel _ (by omega)]
  have HLE := hide (fun m (hm : m ≤ r) => Nat.le_trans (stored_mono hm (by omega)) (show stored r ≤ index by omega))
  have HGT := hide (fun m (hm : r + 1 ≤ m) (hm2 : m ≤ 1048576) => Nat.lt_of_lt_of_le h2 (stored_mono hm (by omega)))
  have HSR := hide (show index = stored r + v from h1)
  have sN : stored 1048576 = 2097151 := by decide +kernel
  have HS0 := hide (storedR_any (n := 1048576) (by omega) w)
  rw [sN] at HS0
  have HS0' : Hid (Calls Tryd.prog 63 #[.int .i64 1048576] w fun e w' => e = .returned (.int .i64 2097151) ∧ w' = w) := HS0
  have g1 : decide ((index : Int) < 0) = false := decide_eq_false (by omega)
  have g2 : decide ((2097151 : Int) ≤ (index : Int)) = false := decide_eq_false (by omega)
  have jb : j ≤ 1048576 := by rw [← hj]; exact Nat.le_trans (Nat.div_le_self _ _) (by omega)
  have HR1 := hide hr1
  have HJ1 := hide hj1
  have HQ := hide hq
  clear h1 h2 hdiv hdd hP HS0 sN hj hr1 hj1 hq
  go_enter Tryd.func30, Tryd.ntmps30
  go_wp2_with (go_at_call 63; fail)
  refine (unhide HS0').mono ?_
  rintro e w1 ⟨rfl, rfl⟩
  go_wp2
  go_loop [5, 6, 7] (fun v5 v6 _ => ∃ lo hi : Nat, lo ≤ r ∧ r < hi ∧ hi ≤ 1048576 ∧ v5 = .int .i64 (lo : Int) ∧ v6 = .int .i64 (hi : Int)) (fun v5 v6 _ => (intOf v6).toNat - (intOf v5).toNat)
  case atStart => exact ⟨0, 1048576, Nat.zero_le _, hr, Nat.le_refl _, rfl, rfl⟩
  case round =>
    obtain ⟨lo, hi, hlo, hhi, hhb, rfl, rfl⟩ := hrel
    by_cases hgo : lo + 1 < hi
    · obtain ⟨mid, hmid⟩ : ∃ mid, (lo + hi) / 2 = mid := ⟨_, rfl⟩
      obtain ⟨sm, hsm⟩ : ∃ sm, lo + hi = sm := ⟨_, rfl⟩
      have e0 : (lo : Int) + (hi : Int) = (sm : Int) := by omega
      have e1 : (sm : Int) / 2 = (mid : Int) := by omega
      have e1' : (sm : Int).tdiv 2 = (mid : Int) := by rw [Int.tdiv_eq_ediv_of_nonneg (by omega)]; exact e1
      have e2 : (1 : Int) < (hi : Int) - (lo : Int) := by omega
      have hsmb : sm ≤ 2097152 := by omega
      have HSM := hide (storedR_any (n := mid) (by omega) w1)
      have hsb := stored_le (n := mid) (by omega)
      have m1 : lo < mid := by omega
      have m2 : mid < hi := by omega
      by_cases hmr : mid ≤ r
      · have hS := unhide HLE mid hmr
        obtain ⟨S, hS'⟩ : ∃ S, stored mid = S := ⟨_, rfl⟩
        rw [hS'] at hS hsb HSM
        have hSi : (S : Int) ≤ (index : Int) := by omega
        clear hS' hmid hsm
        go_wp2_with (go_at_call 63; fail)
        refine (unhide HSM).mono ?_
        rintro e w2 ⟨rfl, rfl⟩
        go_wp2
        go_round
        case rel => exact ⟨mid, hi, hmr, hhi, hhb, rfl, rfl⟩
        case measure => simp [intOf]; omega
      · have hS := unhide HGT mid (by omega) (by omega)
        obtain ⟨S, hS'⟩ : ∃ S, stored mid = S := ⟨_, rfl⟩
        rw [hS'] at hS hsb HSM
        have hSi : ¬ ((S : Int) ≤ (index : Int)) := by omega
        have hSi2 : ¬ (S ≤ index) := by omega
        clear hS' hmid hsm
        go_wp2_with (go_at_call 63; fail)
        refine (unhide HSM).mono ?_
        rintro e w2 ⟨rfl, rfl⟩
        go_wp2
        go_round
        case rel => exact ⟨lo, mid, hlo, by omega, by omega, rfl, rfl⟩
        case measure => simp [intOf]; omega
    · have hlr : lo = r := by omega
      have hr1 := unhide HR1
      have hj1 := unhide HJ1
      have hq := unhide HQ
      subst hlr
      have e2 : ¬ ((1 : Int) < (hi : Int) - (lo : Int)) := by omega
      have HSL := hide (storedR_any (n := lo) (by omega) w1)
      obtain ⟨S, hS'⟩ : ∃ S, stored lo = S := ⟨_, rfl⟩
      have hi0 : index = S + v := by rw [← hS']; exact unhide HSR
      rw [hS'] at HSL
      have e3 : (index : Int) - (S : Int) = (v : Int) := by omega
      have hSb : S ≤ 2097151 := by omega
      have e4 : (lo : Int) + 1 = (r1 : Int) := by omega
      have e5 : (r1 : Int) / (P : Int) = (j1 : Int) := by rw [← Int.natCast_ediv, hq]
      have e5' : (r1 : Int).tdiv (P : Int) = (j1 : Int) := by rw [Int.tdiv_eq_ediv_of_nonneg (by omega)]; exact e5
      have e6 : (j1 : Int) - 1 = (j : Int) := by omega
      have e7 : (P : Int) ≠ 0 := by omega
      have e8 : ((P : Int) == 0) = false := by simp; omega
      have j1b : j1 ≤ 1048577 := by omega
      have r1b : r1 ≤ 1048576 := by omega
      have hP0 : ¬ (P = 0) := by omega
      clear hS' hi0 hq hj1 hr1 HLE HGT
      go_wp2_with (go_at_call 63; fail)
      refine (unhide HSL).mono ?_
      rintro e w2 ⟨rfl, rfl⟩
      go_wp2
      go_quiet ((go_at_call 26; exact Calls.quiet_of_same (unhide HPW _)))
      go_wp2
      exact bodyPost_ret (v := .tuple #[.int .i64 (v : Int), .int .i64 (j : Int), .int .i64 0]) (by simp [results, Tryd.results30, go_sem]) rfl ⟨rfl, _, rfl⟩

theorem split_bad {index : Int} (h : index < 0 ∨ 2097151 ≤ index) (w : World) : Calls Tryd.prog 29 #[.int .i64 index] w fun e w' => e = .returned (.tuple #[.int .i64 0, .int .i64 0, .int .i64 6]) ∧ Below w.heap.size w w' := by
  obtain ⟨W1, hW1⟩ : ∃ W1, w.alloc (.cells #[.int .i64 index] 3) = W1 := ⟨_, rfl⟩
  have hc : W1.cell? ⟨w.heap.size, 0, none⟩ = some (.int .i64 index) := by rw [← hW1]; exact (Blk.new w _ 3).cell 0
  have HB : Hid (Below w.heap.size w W1) := hide (by rw [← hW1]; exact (Below.refl _ _).alloc (Nat.le_refl _) _)
  have HW := hide hW1
  clear hW1
  by_cases c1 : index < 0
  · have t1 : decide (index < 0) = true := decide_eq_true c1
    clear h
    go_enter Tryd.func29, Tryd.ntmps29
    go_wp2
    rw [unhide HW]
    go_quiet ((go_at_call 64; exact Calls.quiet_of_same (places_max _)))
    go_wp2
    exact bodyPost_ret (v := .tuple #[.int .i64 0, .int .i64 0, .int .i64 6]) (by simp [results, Tryd.results29, go_sem]) rfl ⟨rfl, lowN (unhide HB) _⟩
  · have t1 : decide (index < 0) = false := decide_eq_false c1
    have t2 : decide ((2097151 : Int) ≤ index) = true := decide_eq_true (by omega)
    clear h
    go_enter Tryd.func29, Tryd.ntmps29
    go_wp2
    rw [unhide HW]
    go_quiet ((go_at_call 64; exact Calls.quiet_of_same (places_max _)))
    go_wp2
    exact bodyPost_ret (v := .tuple #[.int .i64 0, .int .i64 0, .int .i64 6]) (by simp [results, Tryd.results29, go_sem]) rfl ⟨rfl, lowN (unhide HB) _⟩

theorem refSplit3_bad {index : Int} (h : index < 0 ∨ 2097151 ≤ index) (w : World) : Calls Tryd.prog 30 #[.int .i64 index] w fun e w' => e = .returned (.tuple #[.int .i64 0, .int .i64 0, .int .i64 6]) ∧ w' = w := by
  have sN : stored 1048576 = 2097151 := by decide +kernel
  have HS0 := hide (storedR_any (n := 1048576) (by omega) w)
  rw [sN] at HS0
  have HS0' : Hid (Calls Tryd.prog 63 #[.int .i64 1048576] w fun e w' => e = .returned (.int .i64 2097151) ∧ w' = w) := HS0
  clear HS0 sN
  by_cases c1 : index < 0
  · clear h
    go_enter Tryd.func30, Tryd.ntmps30
    go_wp2
    exact bodyPost_ret (v := .tuple #[.int .i64 0, .int .i64 0, .int .i64 6]) (by simp [results, Tryd.results30, go_sem]) rfl ⟨rfl, rfl⟩
  · have c2 : 2097151 ≤ index := by omega
    clear h
    go_enter Tryd.func30, Tryd.ntmps30
    go_wp2_with (go_at_call 63; fail)
    refine (unhide HS0').mono ?_
    rintro e w1 ⟨rfl, rfl⟩
    go_wp2
    exact bodyPost_ret (v := .tuple #[.int .i64 0, .int .i64 0, .int .i64 6]) (by simp [results, Tryd.results30, go_sem]) rfl ⟨rfl, rfl⟩

end Go.Proofs.YtkpmbbeidcpclaaDoor
