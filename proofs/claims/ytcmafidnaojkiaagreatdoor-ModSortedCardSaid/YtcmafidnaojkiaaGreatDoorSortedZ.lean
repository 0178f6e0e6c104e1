/-
  ModSorted at every list: the walk.
-/
import Derived.Test.YtcmafidnaojkiaaGreatDoorSorted
namespace Go.Proofs.YtcmafidnaojkiaaGreatDoor
open Go.RowKit

theorem sorted_none {w : World} (hg : Gd w) : Gives 12 #[.slice none 0 0] w (.bool true) := by
  unfold Gives
  go_enter Tryz.func12, Tryz.ntmps12
  go_wp2_with (go_at_call 13; fail)
  refine (first_any hg).mono ?_
  rintro e w1 ⟨rfl, b1⟩
  go_wp2_with (go_at_call 14; fail)
  refine (few_none w1).mono ?_
  rintro e w2 ⟨rfl, hw⟩
  rw [hw]
  clear hw w2
  go_wp2_with (go_at_call 20; fail)
  refine (sort_none w1).mono ?_
  rintro e w2 ⟨rfl, b2⟩
  have b2 := below_trans b1 b2
  go_wp2_with (go_at_call 20; fail)
  refine (sort_none w2).mono ?_
  rintro e w3 ⟨rfl, b3⟩
  have b3 := below_trans b2 b3
  go_wp2_with (go_at_call 21; fail)
  refine (sameTexts_none w3).mono ?_
  rintro e w4 ⟨rfl, hw⟩
  rw [hw]
  clear hw w4
  go_wp2
  refine wp_loop_rounds 1 ?_
  rw [rounds_succ]
  go_wp2
  go_ret
  exact ⟨rfl, b3⟩

theorem sorted_any {a : Option Addr} {len cap : Nat} {w : World} (hg : Gd w) (h : (a = none ∧ len = 0 ∧ cap = 0) ∨ ∃ (B O : Nat) (ps : List Str), a = some ⟨B, O, none⟩ ∧ len = ps.length ∧ B < w.heap.size ∧ ps.length ≤ 9223372036854775807 ∧ ∀ k (hk : k < ps.length), w.cell? ⟨B, O + k, none⟩ = some (.string (ba ps[k]))) :
    Gives 12 #[.slice a len cap] w (.bool true) := by
  rcases h with ⟨rfl, rfl, rfl⟩ | ⟨B, O, ps, rfl, rfl, hB, hn, ht⟩
  · exact sorted_none hg
  · cases hf : fewB ps with
    | true => exact sorted_small hf hg hB ht
    | false => exact sorted_big hf hn hg hB ht

end Go.Proofs.YtcmafidnaojkiaaGreatDoor
