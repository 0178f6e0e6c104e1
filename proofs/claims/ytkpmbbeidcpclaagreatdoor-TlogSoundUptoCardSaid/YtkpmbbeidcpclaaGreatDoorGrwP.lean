/-
  A proof of growth makes both hashes.
-/
import Derived.Test.YtkpmbbeidcpclaaGreatDoorSpanQ
import Derived.Test.YtkpmbbeidcpclaaGreatDoorSubP
namespace Go.Proofs.YtkpmbbeidcpclaaGreatDoor
open Go.RowKit

theorem mth_fuel : ∀ (k : Nat) (l : List Bs), l.length ≤ k → l.length ≤ 1048576 → mth (k + 1) l = mth k l
  | 0, l, h, _ => by
    have : l = [] := List.length_eq_zero_iff.1 (by omega)
    subst this
    rfl
  | k + 1, l, h, hb => by
    by_cases h2 : 2 ≤ l.length
    · obtain ⟨g1, g2, _, _⟩ := half_is h2 hb
      have hp : 1 ≤ half l.length := by unfold half; exact Nat.one_le_two_pow
      rw [mth_two (f := k + 1) h2, mth_two (f := k) h2, mth_fuel k (l.take (half l.length)) (by rw [List.length_take]; omega) (by rw [List.length_take]; omega), mth_fuel k (l.drop (half l.length)) (by rw [List.length_drop]; omega) (by rw [List.length_drop]; omega)]
    · show (if l.length = 0 then _ else _) = (if l.length = 0 then _ else _)
      by_cases h0 : l.length = 0
      · rw [if_pos h0, if_pos h0]
      · rw [if_neg h0, if_neg h0, if_pos (by omega), if_pos (by omega)]

/-- Between two powers the same half. -/
theorem half_same {m n : Nat} (h1 : half n < m) (h2 : m ≤ n) (hn : 2 ≤ n) (hb : n ≤ 1048576) : half m = half n := by
  obtain ⟨g1, g2, _, _⟩ := half_is hn hb
  have hp : 1 ≤ half n := by unfold half; exact Nat.one_le_two_pow
  obtain ⟨k1, k2, _, _⟩ := half_is (n := m) (by omega) (by omega)
  unfold half at h1 g1 g2 k1 k2 ⊢
  congr 1
  exact pow_unique (n := m) k1 k2 (by omega) (by omega)

theorem roots_sub : ∀ (k m : Nat) (l : List Bs) (wh : Bool) (old : Bs), 1 ≤ m → m ≤ l.length → l.length ≤ k → l.length ≤ 1048576 → (wh = true → old = mth k (l.take m)) → rootsP (subP k m l wh).reverse m l.length wh old = (mth k (l.take m), mth k l, true)
  | 0, m, l, wh, old, h1, h2, h3, _, _ => by omega
  | k + 1, m, l, wh, old, h1, h2, h3, hb, ho => by
    by_cases hm : m = l.length
    · have ht : l.take m = l := List.take_of_length_le (by omega)
      have hs : subP (k + 1) m l wh = if wh = true then [] else [mth (k + 1) l] := by
        show (if m = l.length then _ else _) = _
        rw [if_pos hm]
      rw [hs, ht]
      cases wh with
      | true =>
        have e := ho rfl
        rw [ht] at e
        show (if m = l.length then (if true = true then (old, old, true) else ([], [], false)) else ([], [], false)) = _
        rw [if_pos hm, if_pos rfl, e]
      | false =>
        show (if m = l.length then (if false = true then (old, old, false) else (mth (k + 1) l, mth (k + 1) l, decide (([] : List Bs).length = 0))) else _) = _
        rw [if_pos hm, if_neg (by decide)]
        rfl
    · have hn2 : 2 ≤ l.length := by omega
      obtain ⟨g1, g2, _, _⟩ := half_is hn2 hb
      have hp : 1 ≤ half l.length := by unfold half; exact Nat.one_le_two_pow
      obtain ⟨h, hh⟩ : ∃ h, half l.length = h := ⟨_, rfl⟩
      rw [subP_ne hm, mth_two (f := k) hn2, hh]
      rw [hh] at g1 g2 hp
      have l1 : (l.take h).length = h := by rw [List.length_take]; omega
      have l2 : (l.drop h).length = l.length - h := by rw [List.length_drop]
      by_cases hlt : m ≤ h
      · rw [if_pos hlt, List.reverse_append, List.reverse_singleton, List.singleton_append, rootsP_cons_ne hm, hh, if_pos hlt]
        have tt : (l.take h).take m = l.take m := by rw [List.take_take, Nat.min_eq_left hlt]
        have ih := roots_sub k m (l.take h) wh old h1 (by omega) (by omega) (by omega) (fun e => by
          rw [tt, ho e]
          exact mth_fuel k _ (by rw [List.length_take]; omega) (by rw [List.length_take]; omega))
        rw [l1, tt] at ih
        rw [ih, mth_fuel k (l.take m) (by rw [List.length_take]; omega) (by rw [List.length_take]; omega)]
      · rw [if_neg hlt, List.reverse_append, List.reverse_singleton, List.singleton_append, rootsP_cons_ne hm, hh, if_neg hlt]
        have ih := roots_sub k (m - h) (l.drop h) false old (by omega) (by omega) (by omega) (by omega) (fun e => by cases e)
        rw [l2] at ih
        rw [ih]
        have lm : (l.take m).length = m := by rw [List.length_take]; omega
        have hs := half_same (m := m) (n := l.length) (by omega) h2 hn2 hb
        rw [mth_two (f := k) (l := l.take m) (by omega), lm, hs, hh]
        have t1 : (l.take m).take h = l.take h := by rw [List.take_take, Nat.min_eq_left (by omega)]
        have t2 : (l.take m).drop h = (l.drop h).take (m - h) := by rw [List.drop_take]
        rw [t1, t2]

end Go.Proofs.YtkpmbbeidcpclaaGreatDoor
