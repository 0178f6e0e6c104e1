/-
  Rising permutations are unique.
-/
import Derived.Test.YtcmafidnaojkiaaGreatDoorSortM
namespace Go.Proofs.YtcmafidnaojkiaaGreatDoor
open Go.RowKit

theorem leV_antisymm {a b : Str} (h1 : ltV a b = false) (h2 : ltV b a = false) : a = b := by
  have t := orders_v.turn a b
  simp only [decide_eq_false_iff_not] at h1 h2
  exact (orders_v.eq a b).1 (by omega)

theorem srt_unique : ∀ {x y : List Str}, x.Perm y → Srt ltV x → Srt ltV y → x = y
  | [], y, h, _, _ => (List.Perm.nil_eq h)
  | a :: x, [], h, _, _ => absurd h.length_eq (by simp)
  | a :: x, b :: y, h, hx, hy => by
    have hx' := List.pairwise_cons.1 hx
    have hy' := List.pairwise_cons.1 hy
    have e : a = b := by
      rcases List.mem_cons.1 (h.mem_iff.1 (List.mem_cons_self (a := a) (l := x))) with e | ha
      · exact e
      · rcases List.mem_cons.1 (h.mem_iff.2 (List.mem_cons_self (a := b) (l := y))) with e | hb
        · exact e.symm
        · exact leV_antisymm (hy'.1 a ha) (hx'.1 b hb)
    subst e
    rw [srt_unique (List.Perm.cons_inv h) hx'.2 hy'.2]

theorem srt_at {x : List Str} (h : Srt ltV x) {i j : Nat} (hij : i < j) (hj : j < x.length) : cmpV (x[i]'(by omega)) x[j] ≤ 0 := by
  have := List.pairwise_iff_getElem.1 h i j (by omega) hj hij
  simp only [decide_eq_false_iff_not] at this
  have t := orders_v.turn (x[i]'(by omega)) x[j]
  omega

end Go.Proofs.YtcmafidnaojkiaaGreatDoor
