/-
  Atoi, the reference's, at a text that opens with a minus.
-/
import Derived.Test.YtkablmjkffdloaaGreatDoorHedX
namespace Go.Proofs.YtkablmjkffdloaaGreatDoor
open Go.RowKit

/-- The number that digits spell. -/
def decV (l : Bs) : Nat := l.foldl (fun a c => a * 10 + (c.toNat - 48)) 0
theorem decV_snoc (l : Bs) (c : UInt8) : decV (l ++ [c]) = decV l * 10 + (c.toNat - 48) := by unfold decV; rw [List.foldl_append]; rfl
theorem decV_dec : ∀ n : Nat, decV (Lib.decDigits n) = n := by
  intro n
  induction n using Nat.strongRecOn with
  | _ n ih =>
    by_cases h : n < 10
    · rw [dec_less h]
      show 0 * 10 + ((UInt8.ofNat (48 + n)).toNat - 48) = n
      rw [dig_nat h]
      omega
    · rw [dec_more h, decV_snoc, ih (n / 10) (by omega), dig_nat (by omega)]
      omega
theorem decV_take {l : Bs} {k : Nat} (hk : k < l.length) : decV (l.take (k + 1)) = decV (l.take k) * 10 + (l[k].toNat - 48) := by
  rw [List.take_succ_eq_append_getElem hk, decV_snoc]
theorem decV_lt (l : Bs) (h : ∀ c ∈ l, c.toNat ≤ 57) : decV l < 10 ^ l.length := by
  have go : ∀ k, k ≤ l.length → decV (l.take k) < 10 ^ k := by
    intro k
    induction k with
    | zero => intro _; exact Nat.zero_lt_one
    | succ k ih =>
      intro hk
      have h1 := ih (by omega)
      have h2 := h l[k] (List.getElem_mem _)
      rw [decV_take hk, Nat.pow_succ]
      omega
  have := go l.length (Nat.le_refl _)
  rwa [List.take_length] at this
theorem dec_lead {n : Nat} (h : 1 < (Lib.decDigits n).length) : ∃ c r, Lib.decDigits n = c :: r ∧ c.toNat ≠ 48 := by
  have go : ∀ n : Nat, 1 ≤ n → ∃ c r, Lib.decDigits n = c :: r ∧ c.toNat ≠ 48 := by
    intro n
    induction n using Nat.strongRecOn with
    | _ n ih =>
      intro h1
      by_cases h10 : n < 10
      · exact ⟨_, [], dec_less h10, by rw [dig_nat h10]; omega⟩
      · obtain ⟨c, r, e, hc⟩ := ih (n / 10) (by omega) (by omega)
        exact ⟨c, r ++ [UInt8.ofNat (48 + n % 10)], by rw [dec_more h10, e]; rfl, hc⟩
  apply go
  apply Classical.byContradiction
  intro hn
  rw [dec_less (by omega)] at h
  simp at h
theorem dec_part {n k : Nat} (hn : n ≤ 1048576) : decV ((Lib.decDigits n).take k) < 10000000 := by
  have h := decV_lt ((Lib.decDigits n).take k) (fun c hc => (dec_all n c (List.mem_of_mem_take hc)).2)
  have h2 : ((Lib.decDigits n).take k).length ≤ 7 := by rw [List.length_take]; have := dec_len hn; omega
  exact Nat.lt_of_lt_of_le h (Nat.le_trans (Nat.pow_le_pow_right (by omega) h2) (by decide))
end Go.Proofs.YtkablmjkffdloaaGreatDoor

namespace Go.Proofs.YtkablmjkffdloaaGreatDoor
open Go.RowKit

theorem ba_list (l : Bs) : (ba l).toList = l := by rw [Lib.toList_data, ba_data]
/-- What is answered of a text. -/
def AtoiSaid (l : Bs) (w : World) (e : Ending) (w' : World) : Prop := ∃ v okb, e = .returned (.tuple #[.int .i64 v, .bool okb]) ∧ (∀ n : Nat, n ≤ 1048576 → l = Lib.decDigits n → v = (n : Int) ∧ okb = true) ∧ Below w.heap.size w w'

set_option maxRecDepth 100000 in
set_option maxHeartbeats 4000000 in
theorem refAtoi_one {l : Bs} (hl : l.length ≤ 1) (w : World) : Calls Tryz.prog 124 #[.string (ba l)] w (AtoiSaid l w) := by
  obtain ⟨m, hm⟩ : ∃ m, l.length = m := ⟨_, rfl⟩
  have hsz : (ba l).size = m := by rw [ba_size]; exact hm
  have HB := hide (Below.refl w.heap.size w)
  have g : ¬ (1 : Int) < (m : Int) := by omega
  by_cases g1 : m = 0
  · have gD : l = [] := List.length_eq_zero_iff.1 (by omega)
    have e2 : (ba l).toList = [] := by rw [ba_list, gD]
    have HND : Hid (∀ n, n ≤ 1048576 → l ≠ Lib.decDigits n) := hide (fun n hn e => by obtain ⟨c, r, e3, -, -⟩ := dec_some n; rw [← e, gD] at e3; cases e3)
    clear gD
    go_enter Tryz.func124, Tryz.ntmps124
    go_wp2
    go_ret2
    exact ⟨_, _, rfl, fun n hn e => absurd e (unhide HND n hn), unhide HB⟩
  · have hm1 : l.length = 1 := by omega
    obtain rfl : m = 1 := by omega
    have e1 : ((ba l).toList == ([] : List UInt8)) = false := by
      rw [ba_list]
      apply beq_eq_false_iff_ne.2
      intro e
      rw [e] at hm1
      cases hm1
    have e2 : ¬ (ba l).toList = [] := by simpa using e1
    have HDL := hide hm1
    have HLD : Hid (∀ n, n ≤ 1048576 → l = Lib.decDigits n → l = Lib.decDigits n) := hide (fun _ _ e => e)
    clear g1 hm hm1 hl
    go_enter Tryz.func124, Tryz.ntmps124
    go_wp2
    go_loopw [6, 7, 8] (fun v6 v7 _ wr => ∃ k : Nat, k ≤ 1 ∧ v7 = .int .i64 (k : Int) ∧ ∃ V : Nat, decV (l.take k) = V ∧ v6 = .int .i64 (-(V : Int)) ∧ V ≤ 9223372036854775808 ∧ Below w.heap.size w wr) (fun _ v7 _ _ => 1 - (intOf v7).toNat)
    case atStart => exact ⟨0, Nat.zero_le _, rfl, 0, rfl, rfl, by omega, unhide HB⟩
    case round =>
      rename World => wr
      obtain ⟨k, hk, rfl, V, hV, rfl, hV2, hbw⟩ := hrel
      have HBW := hide hbw
      have HV := hide hV
      clear hbw hV
      by_cases hlt : k < 1
      · have hkl : k < l.length := by rw [unhide HDL]; exact hlt
        obtain ⟨c1, hc1⟩ : ∃ c1, l[k]'hkl = c1 := ⟨_, rfl⟩
        have hidx : ∀ (h : k < (ba l).size), (ba l)[k]'h = c1 := fun h => by rw [← hc1]; rfl
        obtain ⟨t, ht⟩ : ∃ t, c1.toNat = t := ⟨_, rfl⟩
        have hlt' : (k : Int) < 1 := by omega
        have HIN : Hid (∀ n, n ≤ 1048576 → l = Lib.decDigits n → 48 ≤ t ∧ t ≤ 57) := hide (fun n hn e => by
          have e1 := unhide HLD n hn e
          have := dec_all n c1 (by rw [← e1, ← hc1]; exact List.getElem_mem _)
          omega)
        have hstep := decV_take hkl
        rw [unhide HV, hc1, ht] at hstep
        have HST := hide hstep
        clear hc1 hstep hkl
        by_cases t48 : t < 48
        · have a1 : (t : Int) < 48 := by omega
          go_wp2
          go_ret2
          exact ⟨_, _, rfl, fun n hn e => absurd (unhide HIN n hn e) (by omega), unhide HBW⟩
        · have a1 : ¬ (t : Int) < 48 := by omega
          by_cases t57 : 57 < t
          · have a2 : (57 : Int) < (t : Int) := by omega
            go_wp2
            go_ret2
            exact ⟨_, _, rfl, fun n hn e => absurd (unhide HIN n hn e) (by omega), unhide HBW⟩
          · have a2 : ¬ (57 : Int) < (t : Int) := by omega
            obtain ⟨x, hx⟩ : ∃ x, t - 48 = x := ⟨_, rfl⟩
            have hx1 : (t : Int) - 48 = (x : Int) := by omega
            have hx9 : x ≤ 9 := by omega
            rw [hx] at HST
            have u8w : IntKind.u8.wrap (x : Int) = (x : Int) := by rw [IntKind.wrap_u8]; omega
            have i64w := wrapI x (by omega)
            obtain ⟨Q, hQ⟩ : ∃ Q : Nat, (9223372036854775808 - x) / 10 = Q := ⟨_, rfl⟩
            have hq : (-9223372036854775808 + (x : Int)).tdiv 10 = -(Q : Int) := by
              have e1 : (-9223372036854775808 + (x : Int)) = -((9223372036854775808 - x : Nat) : Int) := by omega
              rw [e1, Int.neg_tdiv, Int.tdiv_eq_ediv_of_nonneg (by omega)]
              omega
            have hQ2 : Q ≤ 922337203685477580 := by omega
            have HQ := hide hQ
            clear hx hQ
            by_cases ho : -(V : Int) < -(Q : Int)
            · have HND : Hid (∀ n, n ≤ 1048576 → l ≠ Lib.decDigits n) := hide (fun n hn e => by
                have e1 := unhide HLD n hn e
                have e2 := dec_part (k := k) hn
                rw [← e1, unhide HV] at e2
                have := unhide HQ
                omega)
              go_wp2
              go_ret2
              exact ⟨_, _, rfl, fun n hn e => absurd e (unhide HND n hn), unhide HBW⟩
            · obtain ⟨V2, hV3⟩ : ∃ V2, V * 10 + x = V2 := ⟨_, rfl⟩
              have hV4 : V2 ≤ 9223372036854775808 := by have := unhide HQ; omega
              have m1 : 10 * -(V : Int) - (x : Int) = -(V2 : Int) := by omega
              have m2 : IntKind.i64.wrap (10 * -(V : Int)) = 10 * -(V : Int) := by rw [IntKind.wrap_i64]; omega
              have m3 : IntKind.i64.wrap (-(V2 : Int)) = -(V2 : Int) := by rw [IntKind.wrap_i64]; omega
              have HV3 : Hid (decV (l.take (k + 1)) = V2) := hide ((unhide HST).trans hV3)
              have ho' : -(Q : Int) ≤ -(V : Int) := by omega
              clear hV3
              go_wp2
              go_roundw
              case rel => exact ⟨k + 1, hlt, by simp, V2, unhide HV3, by simp, hV4, unhide HBW⟩
              case measure => simp [intOf]; omega
      · have hke : k = 1 := by omega
        subst hke
        rw [List.take_of_length_le (Nat.le_of_eq (unhide HDL))] at HV
        have hq0 : ¬ (1 : Int) < 1 := by omega
        by_cases hmin : V = 9223372036854775808
        · have hm1 : ((-(V : Int)) == -9223372036854775808) = true := by rw [hmin]; rfl
          have hm2 : -(V : Int) = -9223372036854775808 := by omega
          have HND : Hid (∀ n, n ≤ 1048576 → l ≠ Lib.decDigits n) := hide (fun n hn e => by
            have e1 := unhide HLD n hn e
            have e2 := unhide HV
            rw [e1, decV_dec] at e2
            omega)
          clear hmin
          go_wp2
          go_ret2
          exact ⟨_, _, rfl, fun n hn e => absurd e (unhide HND n hn), unhide HBW⟩
        · have hm1 : ((-(V : Int)) == -9223372036854775808) = false := by simp; omega
          have hm2 : ¬ -(V : Int) = -9223372036854775808 := by omega
          have hm3 : IntKind.i64.wrap (V : Int) = (V : Int) := by rw [IntKind.wrap_i64]; omega
          have hm4 : IntKind.i64.wrap (- -(V : Int)) = (V : Int) := by rw [Int.neg_neg]; exact hm3
          clear hmin
          go_wp2
          go_ret2
          exact ⟨(V : Int), true, by simp, fun n hn e => ⟨by
            have e1 := unhide HLD n hn e
            have e2 := unhide HV
            rw [e1, decV_dec] at e2
            omega, rfl⟩, unhide HBW⟩

set_option maxRecDepth 100000 in
set_option maxHeartbeats 4000000 in
theorem refAtoi_plain {l : Bs} (h1 : 1 < l.length) (h45 : l[0]'(by omega) ≠ 45) (hl : l.length ≤ 4000) (w : World) : Calls Tryz.prog 124 #[.string (ba l)] w (AtoiSaid l w) := by
  obtain ⟨m, hm⟩ : ∃ m, l.length = m := ⟨_, rfl⟩
  have hsz : (ba l).size = m := by rw [ba_size]; exact hm
  have HB := hide (Below.refl w.heap.size w)
  have g : (1 : Int) < (m : Int) := by omega
  obtain ⟨c0, hc0⟩ : ∃ c0, l[0]'(by omega) = c0 := ⟨_, rfl⟩
  have hi0 : ∀ (h : 0 < (ba l).size), (ba l)[0]'h = c0 := fun h => by rw [← hc0]; rfl
  rw [hc0] at h45
  obtain ⟨t0, ht0⟩ : ∃ t, c0.toNat = t := ⟨_, rfl⟩
  have hn45' : ¬ (t0 : Int) = 45 := fun e => h45 (UInt8.toNat_inj.1 (by show c0.toNat = 45; omega))
  have hn45 : ((t0 : Int) == 45) = false := beq_eq_false_iff_ne.2 hn45'
  have e1 : ((ba l).toList == ([] : List UInt8)) = false := by
    rw [ba_list]
    apply beq_eq_false_iff_ne.2
    intro e
    rw [e] at hm
    simp at hm
    omega
  have e2 : ¬ (ba l).toList = [] := by simpa using e1
  have HDL := hide hm
  have HLD : Hid (∀ n, n ≤ 1048576 → l = Lib.decDigits n → l = Lib.decDigits n) := hide (fun _ _ e => e)
  have HC0 : Hid (l[0]? = some c0) := hide (by rw [← hc0]; exact List.getElem?_eq_getElem _)
  have h1m : 1 < m := by omega
  clear hm h1 hl h45 hc0
  by_cases g2 : 19 < m
  · have g2' : (19 : Int) < (m : Int) := by omega
    have HND : Hid (∀ n, n ≤ 1048576 → l ≠ Lib.decDigits n) := hide (fun n hn e => by have := dec_len hn; rw [← e, unhide HDL] at this; omega)
    go_enter Tryz.func124, Tryz.ntmps124
    go_wp2
    go_ret2
    exact ⟨_, _, rfl, fun n hn e => absurd e (unhide HND n hn), unhide HB⟩
  · have g2' : ¬ (19 : Int) < (m : Int) := by omega
    by_cases g3 : t0 = 48
    · have g3' : (t0 : Int) = 48 := by omega
      have g3'' : ((t0 : Int) == 48) = true := by rw [g3']; rfl
      have HND : Hid (∀ n, n ≤ 1048576 → l ≠ Lib.decDigits n) := hide (fun n hn e => by
        obtain ⟨c, r, e3, hc⟩ := dec_lead (n := n) (by rw [← e, unhide HDL]; exact h1m)
        have e4 : l = c :: r := e.trans e3
        have e5 := unhide HC0
        subst e4
        have e6 : c = c0 := by simpa using e5
        rw [e6, ht0] at hc
        exact hc g3)
      clear g3
      go_enter Tryz.func124, Tryz.ntmps124
      go_wp2
      go_ret2
      exact ⟨_, _, rfl, fun n hn e => absurd e (unhide HND n hn), unhide HB⟩
    · have g3' : ¬ (t0 : Int) = 48 := by omega
      have g3'' : ((t0 : Int) == 48) = false := beq_eq_false_iff_ne.2 g3'
      clear g3
      go_enter Tryz.func124, Tryz.ntmps124
      go_wp2
      go_loopw [6, 7, 8] (fun v6 v7 _ wr => ∃ k : Nat, k ≤ m ∧ v7 = .int .i64 (k : Int) ∧ ∃ V : Nat, decV (l.take k) = V ∧ v6 = .int .i64 (-(V : Int)) ∧ V ≤ 9223372036854775808 ∧ Below w.heap.size w wr) (fun _ v7 _ _ => m - (intOf v7).toNat)
      case atStart => exact ⟨0, Nat.zero_le _, rfl, 0, rfl, rfl, by omega, unhide HB⟩
      case round =>
        rename World => wr
        obtain ⟨k, hk, rfl, V, hV, rfl, hV2, hbw⟩ := hrel
        have HBW := hide hbw
        have HV := hide hV
        clear hbw hV
        by_cases hlt : k < m
        · have hkl : k < l.length := by rw [unhide HDL]; exact hlt
          obtain ⟨c1, hc1⟩ : ∃ c1, l[k]'hkl = c1 := ⟨_, rfl⟩
          have hidx : ∀ (h : k < (ba l).size), (ba l)[k]'h = c1 := fun h => by rw [← hc1]; rfl
          obtain ⟨t, ht⟩ : ∃ t, c1.toNat = t := ⟨_, rfl⟩
          have hlt' : (k : Int) < (m : Int) := by omega
          have HIN : Hid (∀ n, n ≤ 1048576 → l = Lib.decDigits n → 48 ≤ t ∧ t ≤ 57) := hide (fun n hn e => by
            have e1 := unhide HLD n hn e
            have := dec_all n c1 (by rw [← e1, ← hc1]; exact List.getElem_mem _)
            omega)
          have hstep := decV_take hkl
          rw [unhide HV, hc1, ht] at hstep
          have HST := hide hstep
          clear hc1 hstep hkl
          by_cases t48 : t < 48
          · have a1 : (t : Int) < 48 := by omega
            go_wp2
            go_ret2
            exact ⟨_, _, rfl, fun n hn e => absurd (unhide HIN n hn e) (by omega), unhide HBW⟩
          · have a1 : ¬ (t : Int) < 48 := by omega
            by_cases t57 : 57 < t
            · have a2 : (57 : Int) < (t : Int) := by omega
              go_wp2
              go_ret2
              exact ⟨_, _, rfl, fun n hn e => absurd (unhide HIN n hn e) (by omega), unhide HBW⟩
            · have a2 : ¬ (57 : Int) < (t : Int) := by omega
              obtain ⟨x, hx⟩ : ∃ x, t - 48 = x := ⟨_, rfl⟩
              have hx1 : (t : Int) - 48 = (x : Int) := by omega
              have hx9 : x ≤ 9 := by omega
              rw [hx] at HST
              have u8w : IntKind.u8.wrap (x : Int) = (x : Int) := by rw [IntKind.wrap_u8]; omega
              have i64w := wrapI x (by omega)
              obtain ⟨Q, hQ⟩ : ∃ Q : Nat, (9223372036854775808 - x) / 10 = Q := ⟨_, rfl⟩
              have hq : (-9223372036854775808 + (x : Int)).tdiv 10 = -(Q : Int) := by
                have e1 : (-9223372036854775808 + (x : Int)) = -((9223372036854775808 - x : Nat) : Int) := by omega
                rw [e1, Int.neg_tdiv, Int.tdiv_eq_ediv_of_nonneg (by omega)]
                omega
              have hQ2 : Q ≤ 922337203685477580 := by omega
              have HQ := hide hQ
              clear hx hQ
              by_cases ho : -(V : Int) < -(Q : Int)
              · have HND : Hid (∀ n, n ≤ 1048576 → l ≠ Lib.decDigits n) := hide (fun n hn e => by
                  have e1 := unhide HLD n hn e
                  have e2 := dec_part (k := k) hn
                  rw [← e1, unhide HV] at e2
                  have := unhide HQ
                  omega)
                go_wp2
                go_ret2
                exact ⟨_, _, rfl, fun n hn e => absurd e (unhide HND n hn), unhide HBW⟩
              · obtain ⟨V2, hV3⟩ : ∃ V2, V * 10 + x = V2 := ⟨_, rfl⟩
                have hV4 : V2 ≤ 9223372036854775808 := by have := unhide HQ; omega
                have m1 : 10 * -(V : Int) - (x : Int) = -(V2 : Int) := by omega
                have m2 : IntKind.i64.wrap (10 * -(V : Int)) = 10 * -(V : Int) := by rw [IntKind.wrap_i64]; omega
                have m3 : IntKind.i64.wrap (-(V2 : Int)) = -(V2 : Int) := by rw [IntKind.wrap_i64]; omega
                have HV3 : Hid (decV (l.take (k + 1)) = V2) := hide ((unhide HST).trans hV3)
                have ho' : -(Q : Int) ≤ -(V : Int) := by omega
                clear hV3
                go_wp2
                go_roundw
                case rel => exact ⟨k + 1, hlt, by simp, V2, unhide HV3, by simp, hV4, unhide HBW⟩
                case measure => simp [intOf]; omega
        · have hke : k = m := by omega
          subst hke
          rw [List.take_of_length_le (Nat.le_of_eq (unhide HDL))] at HV
          have hq0 : ¬ (k : Int) < (k : Int) := by omega
          by_cases hmin : V = 9223372036854775808
          · have hm1 : ((-(V : Int)) == -9223372036854775808) = true := by rw [hmin]; rfl
            have hm2 : -(V : Int) = -9223372036854775808 := by omega
            have HND : Hid (∀ n, n ≤ 1048576 → l ≠ Lib.decDigits n) := hide (fun n hn e => by
              have e1 := unhide HLD n hn e
              have e2 := unhide HV
              rw [e1, decV_dec] at e2
              omega)
            clear hmin
            go_wp2
            go_ret2
            exact ⟨_, _, rfl, fun n hn e => absurd e (unhide HND n hn), unhide HBW⟩
          · have hm1 : ((-(V : Int)) == -9223372036854775808) = false := by simp; omega
            have hm2 : ¬ -(V : Int) = -9223372036854775808 := by omega
            have hm3 : IntKind.i64.wrap (V : Int) = (V : Int) := by rw [IntKind.wrap_i64]; omega
            have hm4 : IntKind.i64.wrap (- -(V : Int)) = (V : Int) := by rw [Int.neg_neg]; exact hm3
            clear hmin
            go_wp2
            go_ret2
            exact ⟨(V : Int), true, by simp, fun n hn e => ⟨by
              have e1 := unhide HLD n hn e
              have e2 := unhide HV
              rw [e1, decV_dec] at e2
              omega, rfl⟩, unhide HBW⟩
end Go.Proofs.YtkablmjkffdloaaGreatDoor

namespace Go.Proofs.YtkablmjkffdloaaGreatDoor
open Go.RowKit

set_option maxRecDepth 100000 in
set_option maxHeartbeats 4000000 in
theorem refAtoi_neg {l : Bs} (h1 : 1 < l.length) (h45 : l[0]'(by omega) = 45) (hl : l.length ≤ 4000) (w : World) : Calls Tryz.prog 124 #[.string (ba l)] w (AtoiSaid l w) := by
  obtain ⟨m, hm⟩ : ∃ m, l.length = m := ⟨_, rfl⟩
  have hsz : (ba l).size = m := by rw [ba_size]; exact hm
  have HB := hide (Below.refl w.heap.size w)
  have g : (1 : Int) < (m : Int) := by omega
  have hi0 : ∀ (h : 0 < (ba l).size), (ba l)[0]'h = 45 := fun h => by rw [← h45]; rfl
  have HNEG : Hid (∀ n, l ≠ Lib.decDigits n) := hide (fun n e => by
    obtain ⟨c, r, e3, k1, k2⟩ := dec_some n
    have e4 : l = c :: r := e.trans e3
    subst e4
    have e5 : c = 45 := h45
    rw [e5] at k1
    exact absurd k1 (by decide))
  have HLD0 : Hid (∀ n, n ≤ 1048576 → l = Lib.decDigits n → l.drop 1 = Lib.decDigits n) := hide (fun n _ e => absurd e (unhide HNEG n))
  obtain ⟨D, hD⟩ : ∃ D, l.drop 1 = D := ⟨_, rfl⟩
  rw [hD] at HLD0
  have HLD := HLD0
  have hex : (ba l).extract 1 m = ba D := by
    rw [← ba_of ((ba l).extract 1 m), ← Lib.toList_data, Lib.extract_toList, ba_data, hD, List.take_of_length_le (by rw [← hD, List.length_drop, hm]; exact Nat.le_refl _)]
  obtain ⟨d, hd⟩ : ∃ d, D.length = d := ⟨_, rfl⟩
  have hdm : d + 1 = m := by rw [← hd, ← hD, List.length_drop, hm]; omega
  have hdz : (ba D).size = d := by rw [ba_size]; exact hd
  have e1 : ((ba D).toList == ([] : List UInt8)) = false := by
    rw [ba_list]
    apply beq_eq_false_iff_ne.2
    intro e
    rw [e] at hd
    simp at hd
    omega
  have e2 : ¬ (ba D).toList = [] := by simpa using e1
  have HDL := hide hd
  have h1m : 1 < m := by omega
  have hd4 : d ≤ 4000 := by omega
  have HDM := hide hdm
  have hd0 : 0 < d := by omega
  have hd0' : (0 : Int) < (d : Int) := by omega
  obtain ⟨c0, hc0⟩ : ∃ c0, D[0]'(by omega) = c0 := ⟨_, rfl⟩
  have hj0 : ∀ (h : 0 < (ba D).size), (ba D)[0]'h = c0 := fun h => by rw [← hc0]; rfl
  obtain ⟨t0, ht0⟩ : ∃ t, c0.toNat = t := ⟨_, rfl⟩
  obtain ⟨bz, hbz⟩ : ∃ bz : Bool, ((ba D).toList == [48]) = bz := ⟨_, rfl⟩
  clear hc0 hD hd hm h1 hl h45 hdm
  by_cases g2 : 19 < d
  · have g2' : (19 : Int) < (d : Int) := by omega
    go_enter Tryz.func124, Tryz.ntmps124
    go_wp2
    go_ret2
    exact ⟨_, _, rfl, fun n hn e => absurd e (unhide HNEG n), unhide HB⟩
  · have g2' : ¬ (19 : Int) < (d : Int) := by omega
    by_cases g4 : 1 < d
    · have g4' : (1 : Int) < (d : Int) := by omega
      by_cases g3 : t0 = 48
      · have g3' : (t0 : Int) = 48 := by omega
        have g3'' : ((t0 : Int) == 48) = true := by rw [g3']; rfl
        clear g3
        go_enter Tryz.func124, Tryz.ntmps124
        go_wp2
        go_ret2
        exact ⟨_, _, rfl, fun n hn e => absurd e (unhide HNEG n), unhide HB⟩
      · have g3' : ¬ (t0 : Int) = 48 := by omega
        have g3'' : ((t0 : Int) == 48) = false := beq_eq_false_iff_ne.2 g3'
        clear g3
        cases bz with
        | true =>
          go_enter Tryz.func124, Tryz.ntmps124
          go_wp2
          go_ret2
          exact ⟨_, _, rfl, fun n hn e => absurd e (unhide HNEG n), unhide HB⟩
        | false =>
          go_enter Tryz.func124, Tryz.ntmps124
          go_wp2
          go_loopw [6, 7, 8] (fun v6 v7 _ wr => ∃ k : Nat, k ≤ d ∧ v7 = .int .i64 (k : Int) ∧ ∃ V : Nat, decV (D.take k) = V ∧ v6 = .int .i64 (-(V : Int)) ∧ V ≤ 9223372036854775808 ∧ Below w.heap.size w wr) (fun _ v7 _ _ => d - (intOf v7).toNat)
          case atStart => exact ⟨0, Nat.zero_le _, rfl, 0, rfl, rfl, by omega, unhide HB⟩
          case round =>
            rename World => wr
            obtain ⟨k, hk, rfl, V, hV, rfl, hV2, hbw⟩ := hrel
            have HBW := hide hbw
            have HV := hide hV
            clear hbw hV
            by_cases hlt : k < d
            · have hkl : k < D.length := by rw [unhide HDL]; exact hlt
              obtain ⟨c1, hc1⟩ : ∃ c1, D[k]'hkl = c1 := ⟨_, rfl⟩
              have hidx : ∀ (h : k < (ba D).size), (ba D)[k]'h = c1 := fun h => by rw [← hc1]; rfl
              obtain ⟨t, ht⟩ : ∃ t, c1.toNat = t := ⟨_, rfl⟩
              have hlt' : (k : Int) < (d : Int) := by omega
              have HIN : Hid (∀ n, n ≤ 1048576 → l = Lib.decDigits n → 48 ≤ t ∧ t ≤ 57) := hide (fun n hn e => by
                have e1 := unhide HLD n hn e
                have := dec_all n c1 (by rw [← e1, ← hc1]; exact List.getElem_mem _)
                omega)
              have hstep := decV_take hkl
              rw [unhide HV, hc1, ht] at hstep
              have HST := hide hstep
              clear hc1 hstep hkl
              by_cases t48 : t < 48
              · have a1 : (t : Int) < 48 := by omega
                go_wp2
                go_ret2
                exact ⟨_, _, rfl, fun n hn e => absurd (unhide HIN n hn e) (by omega), unhide HBW⟩
              · have a1 : ¬ (t : Int) < 48 := by omega
                by_cases t57 : 57 < t
                · have a2 : (57 : Int) < (t : Int) := by omega
                  go_wp2
                  go_ret2
                  exact ⟨_, _, rfl, fun n hn e => absurd (unhide HIN n hn e) (by omega), unhide HBW⟩
                · have a2 : ¬ (57 : Int) < (t : Int) := by omega
                  obtain ⟨x, hx⟩ : ∃ x, t - 48 = x := ⟨_, rfl⟩
                  have hx1 : (t : Int) - 48 = (x : Int) := by omega
                  have hx9 : x ≤ 9 := by omega
                  rw [hx] at HST
                  have u8w : IntKind.u8.wrap (x : Int) = (x : Int) := by rw [IntKind.wrap_u8]; omega
                  have i64w := wrapI x (by omega)
                  obtain ⟨Q, hQ⟩ : ∃ Q : Nat, (9223372036854775808 - x) / 10 = Q := ⟨_, rfl⟩
                  have hq : (-9223372036854775808 + (x : Int)).tdiv 10 = -(Q : Int) := by
                    have e1 : (-9223372036854775808 + (x : Int)) = -((9223372036854775808 - x : Nat) : Int) := by omega
                    rw [e1, Int.neg_tdiv, Int.tdiv_eq_ediv_of_nonneg (by omega)]
                    omega
                  have hQ2 : Q ≤ 922337203685477580 := by omega
                  have HQ := hide hQ
                  clear hx hQ
                  by_cases ho : -(V : Int) < -(Q : Int)
                  · have HND : Hid (∀ n, n ≤ 1048576 → l ≠ Lib.decDigits n) := hide (fun n hn e => by
                      have e1 := unhide HLD n hn e
                      have e2 := dec_part (k := k) hn
                      rw [← e1, unhide HV] at e2
                      have := unhide HQ
                      omega)
                    go_wp2
                    go_ret2
                    exact ⟨_, _, rfl, fun n hn e => absurd e (unhide HND n hn), unhide HBW⟩
                  · obtain ⟨V2, hV3⟩ : ∃ V2, V * 10 + x = V2 := ⟨_, rfl⟩
                    have hV4 : V2 ≤ 9223372036854775808 := by have := unhide HQ; omega
                    have m1 : 10 * -(V : Int) - (x : Int) = -(V2 : Int) := by omega
                    have m2 : IntKind.i64.wrap (10 * -(V : Int)) = 10 * -(V : Int) := by rw [IntKind.wrap_i64]; omega
                    have m3 : IntKind.i64.wrap (-(V2 : Int)) = -(V2 : Int) := by rw [IntKind.wrap_i64]; omega
                    have HV3 : Hid (decV (D.take (k + 1)) = V2) := hide ((unhide HST).trans hV3)
                    have ho' : -(Q : Int) ≤ -(V : Int) := by omega
                    clear hV3
                    go_wp2
                    go_roundw
                    case rel => exact ⟨k + 1, hlt, by simp, V2, unhide HV3, by simp, hV4, unhide HBW⟩
                    case measure => simp [intOf]; omega
            · have hke : k = d := by omega
              subst hke
              rw [List.take_of_length_le (Nat.le_of_eq (unhide HDL))] at HV
              have hq0 : ¬ (k : Int) < (k : Int) := by omega
              go_wp2
              go_ret2
              exact ⟨_, _, rfl, fun n hn e => absurd e (unhide HNEG n), unhide HBW⟩
    · have g4' : ¬ (1 : Int) < (d : Int) := by omega
      cases bz with
      | true =>
        go_enter Tryz.func124, Tryz.ntmps124
        go_wp2
        go_ret2
        exact ⟨_, _, rfl, fun n hn e => absurd e (unhide HNEG n), unhide HB⟩
      | false =>
        go_enter Tryz.func124, Tryz.ntmps124
        go_wp2
        go_loopw [6, 7, 8] (fun v6 v7 _ wr => ∃ k : Nat, k ≤ d ∧ v7 = .int .i64 (k : Int) ∧ ∃ V : Nat, decV (D.take k) = V ∧ v6 = .int .i64 (-(V : Int)) ∧ V ≤ 9223372036854775808 ∧ Below w.heap.size w wr) (fun _ v7 _ _ => d - (intOf v7).toNat)
        case atStart => exact ⟨0, Nat.zero_le _, rfl, 0, rfl, rfl, by omega, unhide HB⟩
        case round =>
          rename World => wr
          obtain ⟨k, hk, rfl, V, hV, rfl, hV2, hbw⟩ := hrel
          have HBW := hide hbw
          have HV := hide hV
          clear hbw hV
          by_cases hlt : k < d
          · have hkl : k < D.length := by rw [unhide HDL]; exact hlt
            obtain ⟨c1, hc1⟩ : ∃ c1, D[k]'hkl = c1 := ⟨_, rfl⟩
            have hidx : ∀ (h : k < (ba D).size), (ba D)[k]'h = c1 := fun h => by rw [← hc1]; rfl
            obtain ⟨t, ht⟩ : ∃ t, c1.toNat = t := ⟨_, rfl⟩
            have hlt' : (k : Int) < (d : Int) := by omega
            have HIN : Hid (∀ n, n ≤ 1048576 → l = Lib.decDigits n → 48 ≤ t ∧ t ≤ 57) := hide (fun n hn e => by
              have e1 := unhide HLD n hn e
              have := dec_all n c1 (by rw [← e1, ← hc1]; exact List.getElem_mem _)
              omega)
            have hstep := decV_take hkl
            rw [unhide HV, hc1, ht] at hstep
            have HST := hide hstep
            clear hc1 hstep hkl
            by_cases t48 : t < 48
            · have a1 : (t : Int) < 48 := by omega
              go_wp2
              go_ret2
              exact ⟨_, _, rfl, fun n hn e => absurd (unhide HIN n hn e) (by omega), unhide HBW⟩
            · have a1 : ¬ (t : Int) < 48 := by omega
              by_cases t57 : 57 < t
              · have a2 : (57 : Int) < (t : Int) := by omega
                go_wp2
                go_ret2
                exact ⟨_, _, rfl, fun n hn e => absurd (unhide HIN n hn e) (by omega), unhide HBW⟩
              · have a2 : ¬ (57 : Int) < (t : Int) := by omega
                obtain ⟨x, hx⟩ : ∃ x, t - 48 = x := ⟨_, rfl⟩
                have hx1 : (t : Int) - 48 = (x : Int) := by omega
                have hx9 : x ≤ 9 := by omega
                rw [hx] at HST
                have u8w : IntKind.u8.wrap (x : Int) = (x : Int) := by rw [IntKind.wrap_u8]; omega
                have i64w := wrapI x (by omega)
                obtain ⟨Q, hQ⟩ : ∃ Q : Nat, (9223372036854775808 - x) / 10 = Q := ⟨_, rfl⟩
                have hq : (-9223372036854775808 + (x : Int)).tdiv 10 = -(Q : Int) := by
                  have e1 : (-9223372036854775808 + (x : Int)) = -((9223372036854775808 - x : Nat) : Int) := by omega
                  rw [e1, Int.neg_tdiv, Int.tdiv_eq_ediv_of_nonneg (by omega)]
                  omega
                have hQ2 : Q ≤ 922337203685477580 := by omega
                have HQ := hide hQ
                clear hx hQ
                by_cases ho : -(V : Int) < -(Q : Int)
                · have HND : Hid (∀ n, n ≤ 1048576 → l ≠ Lib.decDigits n) := hide (fun n hn e => by
                    have e1 := unhide HLD n hn e
                    have e2 := dec_part (k := k) hn
                    rw [← e1, unhide HV] at e2
                    have := unhide HQ
                    omega)
                  go_wp2
                  go_ret2
                  exact ⟨_, _, rfl, fun n hn e => absurd e (unhide HND n hn), unhide HBW⟩
                · obtain ⟨V2, hV3⟩ : ∃ V2, V * 10 + x = V2 := ⟨_, rfl⟩
                  have hV4 : V2 ≤ 9223372036854775808 := by have := unhide HQ; omega
                  have m1 : 10 * -(V : Int) - (x : Int) = -(V2 : Int) := by omega
                  have m2 : IntKind.i64.wrap (10 * -(V : Int)) = 10 * -(V : Int) := by rw [IntKind.wrap_i64]; omega
                  have m3 : IntKind.i64.wrap (-(V2 : Int)) = -(V2 : Int) := by rw [IntKind.wrap_i64]; omega
                  have HV3 : Hid (decV (D.take (k + 1)) = V2) := hide ((unhide HST).trans hV3)
                  have ho' : -(Q : Int) ≤ -(V : Int) := by omega
                  clear hV3
                  go_wp2
                  go_roundw
                  case rel => exact ⟨k + 1, hlt, by simp, V2, unhide HV3, by simp, hV4, unhide HBW⟩
                  case measure => simp [intOf]; omega
          · have hke : k = d := by omega
            subst hke
            rw [List.take_of_length_le (Nat.le_of_eq (unhide HDL))] at HV
            have hq0 : ¬ (k : Int) < (k : Int) := by omega
            go_wp2
            go_ret2
            exact ⟨_, _, rfl, fun n hn e => absurd e (unhide HNEG n), unhide HBW⟩
end Go.Proofs.YtkablmjkffdloaaGreatDoor
