/-
  Proofs that a log goes on, as plain functions.
-/
import Derived.Test.YtkpmbbeidcpclaaGreatDoorSteps
namespace Go.Proofs.YtkpmbbeidcpclaaGreatDoor
open Go.RowKit

/-- By the proof from its end: the hashes of the first m and of all n records, and whether there are just as many as it takes. -/
def rootsP : List Bs → Nat → Nat → Bool → Bs → Bs × Bs × Bool
  | [], m, n, wh, old => if m = n then (if wh = true then (old, old, true) else ([], [], false)) else ([], [], false)
  | p :: r, m, n, wh, old =>
    if m = n then (if wh = true then (old, old, false) else (p, p, decide (r.length = 0)))
    else if m ≤ half n then ((rootsP r m (half n) wh old).1, nodeL (rootsP r m (half n) wh old).2.1 p, (rootsP r m (half n) wh old).2.2)
    else (nodeL p (rootsP r (m - half n) (n - half n) false old).1, nodeL p (rootsP r (m - half n) (n - half n) false old).2.1, (rootsP r (m - half n) (n - half n) false old).2.2)

/-- How many hashes such a proof has; f: n is at most 2^f. -/
def subN : Nat → Nat → Nat → Bool → Nat
  | 0, _, _, wh => if wh = true then 0 else 1
  | f + 1, m, n, wh => if m = n then (if wh = true then 0 else 1) else if m ≤ half n then 1 + subN f m (half n) wh else 1 + subN f (m - half n) (n - half n) false

theorem rootsP_nil_ne {m n : Nat} (h : m ≠ n) (wh : Bool) (old : Bs) : rootsP [] m n wh old = ([], [], false) := by
  show (if m = n then _ else _) = _
  rw [if_neg h]
theorem rootsP_cons_ne {m n : Nat} (h : m ≠ n) (p : Bs) (r : List Bs) (wh : Bool) (old : Bs) : rootsP (p :: r) m n wh old = if m ≤ half n then ((rootsP r m (half n) wh old).1, nodeL (rootsP r m (half n) wh old).2.1 p, (rootsP r m (half n) wh old).2.2) else (nodeL p (rootsP r (m - half n) (n - half n) false old).1, nodeL p (rootsP r (m - half n) (n - half n) false old).2.1, (rootsP r (m - half n) (n - half n) false old).2.2) := by
  show (if m = n then _ else _) = _
  rw [if_neg h]
theorem subN_ne {f m n : Nat} (h : m ≠ n) (wh : Bool) : subN (f + 1) m n wh = if m ≤ half n then 1 + subN f m (half n) wh else 1 + subN f (m - half n) (n - half n) false := by
  show (if m = n then _ else _) = _
  rw [if_neg h]
theorem subN_eq (f n : Nat) (wh : Bool) : subN f n n wh = if wh = true then 0 else 1 := by
  cases f with
  | zero => rfl
  | succ f =>
    show (if n = n then _ else _) = _
    rw [if_pos rfl]
theorem roots_eq (rp : List Bs) (n : Nat) (wh : Bool) (old : Bs) : (rootsP rp n n wh old).2.2 = decide (rp.length = if wh = true then 0 else 1) := by
  cases rp with
  | nil =>
    show (if n = n then _ else _ : Bs × Bs × Bool).2.2 = _
    rw [if_pos rfl]
    cases wh <;> rfl
  | cons p r =>
    show (if n = n then _ else _ : Bs × Bs × Bool).2.2 = _
    rw [if_pos rfl]
    cases wh
    · simp
    · simp

/-- The program's check of such a proof's length is the reference's. -/
theorem roots_ok : ∀ (f : Nat) (rp : List Bs) (m n : Nat) (wh : Bool) (old : Bs), 1 ≤ m → m ≤ n → n ≤ 1048576 → n ≤ 2 ^ f → (rootsP rp m n wh old).2.2 = decide (rp.length = subN f m n wh)
  | 0, rp, m, n, wh, old, h1, hmn, h2, h3 => by
    have hn : n = 1 := by simp at h3; omega
    have hm : m = 1 := by omega
    subst hn; subst hm
    rw [subN_eq, roots_eq]
  | f + 1, rp, m, n, wh, old, h1, hmn, h2, h3 => by
    by_cases hn : m = n
    · subst hn
      rw [subN_eq, roots_eq]
    · obtain ⟨g1, g2, _, g4⟩ := half_is (n := n) (by omega) h2
      have hh := half_le (f := f) (n := n) (by omega) h2 h3
      rw [subN_ne hn]
      cases rp with
      | nil =>
        rw [rootsP_nil_ne hn, Bool.eq_iff_iff]
        simp only [Bool.false_eq_true, List.length_nil, decide_eq_true_eq, false_iff]
        split <;> omega
      | cons p r =>
        rw [rootsP_cons_ne hn]
        by_cases hi : m ≤ half n
        · rw [if_pos hi, if_pos hi]
          simp only
          rw [roots_ok f r m (half n) wh old h1 hi (by omega) hh, Bool.eq_iff_iff]
          simp only [decide_eq_true_eq, List.length_cons]
          omega
        · rw [if_neg hi, if_neg hi]
          simp only
          rw [roots_ok f r (m - half n) (n - half n) false old (by omega) (by omega) (by omega) (by omega), Bool.eq_iff_iff]
          simp only [decide_eq_true_eq, List.length_cons]
          omega

end Go.Proofs.YtkpmbbeidcpclaaGreatDoor
