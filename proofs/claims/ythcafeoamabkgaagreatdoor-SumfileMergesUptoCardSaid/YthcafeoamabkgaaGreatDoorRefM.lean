/-
  The reference's order, texts, sign, ids.
-/
import Derived.Test.YthcafeoamabkgaaGreatDoorRefA
import Derived.Test.YthcafeoamabkgaaGreatDoorCmpD
namespace Go.Proofs.YthcafeoamabkgaaGreatDoor
open Go.RowKit

theorem less_cmp : ∀ (a b : Str), Op.bytesLess a b = decide (Lib.compareBytes a b < 0)
  | [], [] => by simp [Op.bytesLess, Lib.compareBytes]
  | [], _ :: _ => by simp [Op.bytesLess, Lib.compareBytes]
  | _ :: _, [] => by simp [Op.bytesLess, Lib.compareBytes]
  | x :: a, y :: b => by
    have ih := less_cmp a b
    simp only [Op.bytesLess, Lib.compareBytes, ih]
    by_cases h1 : x < y
    · simp [h1]
    · by_cases h2 : y < x
      · have h3 : x ≠ y := fun e => by subst e; exact h1 h2
        simp [h1, h2, h3]
      · have h4 : ¬ x.toNat < y.toNat := fun h => h1 (UInt8.lt_iff_toNat_lt.2 h)
        have h5 : ¬ y.toNat < x.toNat := fun h => h2 (UInt8.lt_iff_toNat_lt.2 h)
        have h3 : x = y := UInt8.toNat_inj.1 (by omega)
        subst h3
        simp

theorem order_any' (m n : Nat) (w : World) : Calls Tryz.prog 199 #[.int .i64 (m : Int), .int .i64 (n : Int)] w fun e w' => e = .returned (.int .i64 (cmpNat m n)) ∧ w' = w := by
  by_cases h1 : m < n
  · have HV : Hid (cmpNat m n = -1) := by show cmpNat m n = -1; unfold cmpNat; rw [if_pos h1]
    have q1 : (m : Int) < (n : Int) := by omega
    go_enter Tryz.func199, Tryz.ntmps199
    go_wp2
    go_ret
    exact ⟨retv (by rw [unhide HV]; rfl), rfl⟩
  · by_cases h2 : n < m
    · have HV : Hid (cmpNat m n = 1) := by show cmpNat m n = 1; unfold cmpNat; rw [if_neg h1, if_pos h2]
      have q1 : ¬ (m : Int) < (n : Int) := by omega
      have q2 : (n : Int) < (m : Int) := by omega
      go_enter Tryz.func199, Tryz.ntmps199
      go_wp2
      go_ret
      exact ⟨retv (by rw [unhide HV]; rfl), rfl⟩
    · have HV : Hid (cmpNat m n = 0) := by show cmpNat m n = 0; unfold cmpNat; rw [if_neg h1, if_neg h2]
      have q1 : ¬ (m : Int) < (n : Int) := by omega
      have q2 : ¬ (n : Int) < (m : Int) := by omega
      go_enter Tryz.func199, Tryz.ntmps199
      go_wp2
      go_ret
      exact ⟨retv (by rw [unhide HV]; rfl), rfl⟩

theorem order_is {m n : Nat} {r : Int} (h : cmpNat m n = r) (w : World) : Calls Tryz.prog 199 #[.int .i64 (m : Int), .int .i64 (n : Int)] w fun e w' => e = .returned (.int .i64 r) ∧ w' = w := by rw [← h]; exact order_any' m n w

theorem texts_any (a b : Str) (w : World) : Calls Tryz.prog 198 #[.string (ba a), .string (ba b)] w fun e w' => e = .returned (.int .i64 (Lib.compareBytes a b)) ∧ w' = w := by
  have la := ba_list a
  have lb := ba_list b
  have hl := less_cmp a b
  rcases orders_bytes.three a b with h | h | h
  · have HV := hide h
    rw [h] at hl
    have q : Op.bytesLess a b = true := by rw [hl]; decide
    clear hl h
    go_enter Tryz.func198, Tryz.ntmps198
    go_wp2
    go_ret
    exact ⟨retv (by rw [unhide HV]; rfl), rfl⟩
  · have HV := hide h
    rw [h] at hl
    have q : Op.bytesLess a b = false := by rw [hl]; decide
    have q2 : (a == b) = true := by simpa using (orders_bytes.eq a b).1 h
    clear hl h
    go_enter Tryz.func198, Tryz.ntmps198
    go_wp2
    go_ret
    exact ⟨retv (by rw [unhide HV]; rfl), rfl⟩
  · have HV := hide h
    have q2 : (a == b) = false := by
      simp only [beq_eq_false_iff_ne]
      intro e
      have := (orders_bytes.eq a b).2 e
      omega
    rw [h] at hl
    have q : Op.bytesLess a b = false := by rw [hl]; decide
    clear hl h
    go_enter Tryz.func198, Tryz.ntmps198
    go_wp2
    go_ret
    exact ⟨retv (by rw [unhide HV]; rfl), rfl⟩

theorem sign_any (b : Bool) (w : World) : Calls Tryz.prog 200 #[.bool b] w fun e w' => e = .returned (.int .i64 (if b then 0 else 1)) ∧ w' = w := by
  cases b
  · go_enter Tryz.func200, Tryz.ntmps200
    go_wp2
    go_ret
    exact ⟨rfl, rfl⟩
  · go_enter Tryz.func200, Tryz.ntmps200
    go_wp2
    go_ret
    exact ⟨rfl, rfl⟩

theorem ids_any {a b : Str} (ha : a.length ≤ 4294967281) (hb : b.length ≤ 4294967281) (w : World) : Calls Tryz.prog 201 #[.string (ba a), .string (ba b)] w fun e w' => e = .returned (.int .i64 (cmpIds a b)) ∧ w' = w := by
  have sa := ba_size a
  have sb := ba_size b
  cases hda : digitsB a with
  | true =>
    cases hdb : digitsB b with
    | true =>
      by_cases hq : a.length = b.length
      · have HV : Hid (cmpIds a b = Lib.compareBytes a b) := by show cmpIds a b = _; unfold cmpIds; rw [hda, hdb, hq, orders_nat.self]; rfl
        have q : ((a.length : Int) != (b.length : Int)) = false := by simp; omega
        go_enter Tryz.func201, Tryz.ntmps201
        go_wp2_with (go_at_call 192; fail)
        refine (refDigits_is hda ha w).mono ?_
        rintro e w1 ⟨rfl, hw⟩
        rw [hw]; clear hw w1
        go_wp2_with (go_at_call 192; fail)
        refine (refDigits_is hdb hb w).mono ?_
        rintro e w1 ⟨rfl, hw⟩
        rw [hw]; clear hw w1
        clear hq
        go_wp2_with (go_at_call 198; fail)
        refine (texts_any a b w).mono ?_
        rintro e w1 ⟨rfl, hw⟩
        rw [hw]; clear hw w1
        go_wp2
        go_ret
        exact ⟨retv (by rw [unhide HV]; rfl), rfl⟩
      · have HV : Hid (cmpIds a b = cmpNat a.length b.length) := by
          show cmpIds a b = _; unfold cmpIds; rw [hda, hdb]
          show orI _ _ = _
          unfold orI
          rw [if_neg]
          intro e
          exact hq ((orders_nat.eq _ _).1 e)
        have q : ((a.length : Int) != (b.length : Int)) = true := by simp; omega
        go_enter Tryz.func201, Tryz.ntmps201
        go_wp2_with (go_at_call 192; fail)
        refine (refDigits_is hda ha w).mono ?_
        rintro e w1 ⟨rfl, hw⟩
        rw [hw]; clear hw w1
        go_wp2_with (go_at_call 192; fail)
        refine (refDigits_is hdb hb w).mono ?_
        rintro e w1 ⟨rfl, hw⟩
        rw [hw]; clear hw w1
        go_wp2_with (go_at_call 199; fail)
        refine (order_any' a.length b.length w).mono ?_
        rintro e w1 ⟨rfl, hw⟩
        rw [hw]; clear hw w1
        go_wp2
        go_ret
        exact ⟨retv (by rw [unhide HV]; rfl), rfl⟩
    | false =>
      have HV : Hid (cmpIds a b = -1) := by show cmpIds a b = _; unfold cmpIds; rw [hda, hdb]; rfl
      go_enter Tryz.func201, Tryz.ntmps201
      go_wp2_with (go_at_call 192; fail)
      refine (refDigits_is hda ha w).mono ?_
      rintro e w1 ⟨rfl, hw⟩
      rw [hw]; clear hw w1
      go_wp2_with (go_at_call 192; fail)
      refine (refDigits_is hdb hb w).mono ?_
      rintro e w1 ⟨rfl, hw⟩
      rw [hw]; clear hw w1
      go_wp2
      go_ret
      exact ⟨retv (by rw [unhide HV]; rfl), rfl⟩
  | false =>
    cases hdb : digitsB b with
    | true =>
      have HV : Hid (cmpIds a b = 1) := by show cmpIds a b = _; unfold cmpIds; rw [hda, hdb]; rfl
      go_enter Tryz.func201, Tryz.ntmps201
      go_wp2_with (go_at_call 192; fail)
      refine (refDigits_is hda ha w).mono ?_
      rintro e w1 ⟨rfl, hw⟩
      rw [hw]; clear hw w1
      go_wp2_with (go_at_call 192; fail)
      refine (refDigits_is hdb hb w).mono ?_
      rintro e w1 ⟨rfl, hw⟩
      rw [hw]; clear hw w1
      go_wp2
      go_ret
      exact ⟨retv (by rw [unhide HV]; rfl), rfl⟩
    | false =>
      have HV : Hid (cmpIds a b = Lib.compareBytes a b) := by show cmpIds a b = _; unfold cmpIds; rw [hda, hdb]; rfl
      go_enter Tryz.func201, Tryz.ntmps201
      go_wp2_with (go_at_call 192; fail)
      refine (refDigits_is hda ha w).mono ?_
      rintro e w1 ⟨rfl, hw⟩
      rw [hw]; clear hw w1
      go_wp2_with (go_at_call 192; fail)
      refine (refDigits_is hdb hb w).mono ?_
      rintro e w1 ⟨rfl, hw⟩
      rw [hw]; clear hw w1
      go_wp2_with (go_at_call 198; fail)
      refine (texts_any a b w).mono ?_
      rintro e w1 ⟨rfl, hw⟩
      rw [hw]; clear hw w1
      go_wp2
      go_ret
      exact ⟨retv (by rw [unhide HV]; rfl), rfl⟩

end Go.Proofs.YthcafeoamabkgaaGreatDoor
