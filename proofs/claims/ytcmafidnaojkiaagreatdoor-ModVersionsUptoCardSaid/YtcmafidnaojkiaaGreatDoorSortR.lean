/-
  ModSorted: the refused inputs, and what its loops need.
-/
import Derived.Test.YtcmafidnaojkiaaGreatDoorSortQ
import Derived.Deep.RegionHeld3
namespace Go.Proofs.YtcmafidnaojkiaaGreatDoor
open Go.RowKit

theorem sorted_big {ps : List Str} {B off c : Nat} (h : fewB ps = false) (hn : ps.length ≤ 9223372036854775807) {w : World} (hg : Gd w) (hB : B < w.heap.size) (ht : ∀ k (hk : k < ps.length), w.cell? ⟨B, off + k, none⟩ = some (.string (ba ps[k]))) : Gives 12 #[.slice (some ⟨B, off, none⟩) ps.length c] w (.bool true) := by
  unfold Gives
  have HF : Hid (∀ w1, Below w.heap.size w w1 → Calls Tryz.prog 14 #[.slice (some ⟨B, off, none⟩) ps.length c] w1 fun e w' => e = .returned (.bool false) ∧ w' = w1) := by
    intro w1 b1
    have := few_at (cp := c) hn (w := w1) (fun k hk => (b1.cell (p := ⟨B, off + k, none⟩) hB).trans (ht k hk))
    rw [h] at this
    exact this
  clear h ht
  go_enter Tryz.func12, Tryz.ntmps12
  go_wp2_with (go_at_call 13; fail)
  refine (first_any hg).mono ?_
  rintro e w1 ⟨rfl, b1⟩
  go_wp2_with (go_at_call 14; fail)
  refine ((unhide HF) w1 b1).mono ?_
  rintro e w2 ⟨rfl, hw⟩
  rw [hw]
  clear hw HF
  go_wp2
  go_ret
  exact ⟨rfl, b1⟩

/-- How often a text is among the first ones. -/
def cnt (t : Str) (l : List Str) (j : Nat) : Nat := (l.take j).count t

theorem cnt_step {t : Str} {l : List Str} {j : Nat} (h : j < l.length) : cnt t l (j + 1) = cnt t l j + (if l[j] == t then 1 else 0) := by
  unfold cnt
  rw [List.take_add_one, List.getElem?_eq_getElem h, List.count_append]
  simp [List.count_cons]

theorem cnt_le (t : Str) (l : List Str) (j : Nat) : cnt t l j ≤ l.length := by
  unfold cnt
  exact Nat.le_trans List.count_le_length (by simp; omega)

theorem cnt_perm {t : Str} {x y : List Str} (h : x.Perm y) : cnt t x x.length = cnt t y y.length := by
  unfold cnt
  rw [List.take_length, List.take_length]
  exact h.count_eq t

theorem cmp_held {w W wq : World} {g i j : Nat} {x y : Str} {r : Int} (hg : Gd w) (hW : Below w.heap.size w W) (hgW : g < W.heap.size) (hr : cmpV x y = r)
    (hS : wq.cell? ⟨g, i, none⟩ = some (.string (ba x)) ∧ wq.cell? ⟨g, j, none⟩ = some (.string (ba y)) ∧ Below W.heap.size W wq) :
    Calls Tryz.prog 15 #[.string (ba x), .string (ba y)] wq fun e w' => e = .returned (.int .i64 r) ∧ w'.cell? ⟨g, i, none⟩ = some (.string (ba x)) ∧ w'.cell? ⟨g, j, none⟩ = some (.string (ba y)) ∧ Below W.heap.size W w' := by
  obtain ⟨s1, s2, s3⟩ := hS
  refine (cmp_is hr (hg.below (below_trans hW s3))).mono ?_
  rintro e w' ⟨rfl, b⟩
  have hin : g < wq.heap.size := Nat.lt_of_lt_of_le hgW s3.size
  exact ⟨rfl, (b.cell (p := ⟨g, i, none⟩) hin).trans s1, (b.cell (p := ⟨g, j, none⟩) hin).trans s2, below_trans s3 b⟩

theorem cmp_drew {W wq : World} {g i j : Nat} {x y : Str} (hS : wq.cell? ⟨g, i, none⟩ = some (.string (ba x)) ∧ wq.cell? ⟨g, j, none⟩ = some (.string (ba y)) ∧ Below W.heap.size W wq) :
    wq.drew.cell? ⟨g, i, none⟩ = some (.string (ba x)) ∧ wq.drew.cell? ⟨g, j, none⟩ = some (.string (ba y)) ∧ Below W.heap.size W wq.drew := ⟨hS.1, hS.2.1, hS.2.2.drew⟩
theorem cmp_end {W wq : World} {g i j : Nat} {x y : Str} (hS : wq.cell? ⟨g, i, none⟩ = some (.string (ba x)) ∧ wq.cell? ⟨g, j, none⟩ = some (.string (ba y)) ∧ Below W.heap.size W wq) : Below W.heap.size W wq := hS.2.2

end Go.Proofs.YtcmafidnaojkiaaGreatDoor
