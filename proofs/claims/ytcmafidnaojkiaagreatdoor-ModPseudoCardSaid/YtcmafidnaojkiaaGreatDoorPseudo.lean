/-
  ModPseudo: Pseudo and SplitPseudo answer as the reference does.
-/
import Derived.Test.YtcmafidnaojkiaaGreatDoorRefG
import Derived.Test.YtcmafidnaojkiaaGreatDoorBetween
namespace Go.Proofs.YtcmafidnaojkiaaGreatDoor
open Go.RowKit

theorem few_four {a b c d : Str} (h : fewB [a, b, c, d] = true) : a.length ≤ 2000 ∧ b.length ≤ 2000 ∧ c.length ≤ 2000 ∧ d.length ≤ 2000 := by
  simpa [fewB] using h
theorem refPseudo_is {major : Int} {base time rev : Str} {r : Str × Nat} (h : pseudoR major base time rev = r) (hr : rev.length ≤ 4294967281) {w : World} (hg : Gd w) : Gives 25 #[.int .i64 major, .string (ba base), .string (ba time), .string (ba rev)] w (pseudoV r) := by rw [← h]; exact refPseudo_any hr hg
theorem refSplit_is {v : Str} {r : Str × Str × Str × Bool} (h : splitPR v = r) {w : World} (hg : Gd w) : Gives 27 #[.string (ba v)] w (splitV r) := by rw [← h]; exact refSplit_any hg

theorem pseudo_big {m : Int} {a b c d : Str} (h : fewB [a, b, c, d] = false) {w : World} (hg : Gd w) : Gives 5 #[.int .i64 m, .string (ba a), .string (ba b), .string (ba c), .string (ba d)] w (.bool true) := by
  unfold Gives
  have H := hide h
  clear h
  go_enter Tryz.func5, Tryz.ntmps5
  go_wp2_with (go_at_call 13; fail)
  refine (first_any hg).mono ?_
  rintro e w1 ⟨rfl, b1⟩
  go_wp2_with (go_at_call 14; fail)
  refine (few_is (ps := [a, b, c, d]) (unhide H) (by simp) (texts_new w1 [a, b, c, d])).mono ?_
  rintro e w2 ⟨rfl, hw⟩
  rw [hw]
  go_wp2
  go_ret
  exact ⟨rfl, b1.alloc b1.size _⟩

set_option maxHeartbeats 1000000 in
theorem pseudo_small {m : Int} {a b c d : Str} (h : fewB [a, b, c, d] = true) {w : World} (hg : Gd w) : Gives 5 #[.int .i64 m, .string (ba a), .string (ba b), .string (ba c), .string (ba d)] w (.bool true) := by
  unfold Gives
  obtain ⟨la, lb, lc, ld⟩ := few_four h
  obtain ⟨v, n, hr⟩ : ∃ v n, pseudoR m a b c = (v, n) := ⟨_, _, rfl⟩
  obtain ⟨x, y, z, o, hs⟩ : ∃ x y z o, splitPR d = (x, y, z, o) := ⟨_, _, _, _, rfl⟩
  have H := hide h
  have HR := hide hr
  have HS := hide hs
  have l1 := ba_list v
  have l2 := ba_list x
  have l3 := ba_list y
  have l4 := ba_list z
  clear h hr hs
  go_enter Tryz.func5, Tryz.ntmps5
  go_wp2_with (go_at_call 13; fail)
  refine (first_any hg).mono ?_
  rintro e w1 ⟨rfl, b1⟩
  go_wp2_with (go_at_call 14; fail)
  refine (few_is (ps := [a, b, c, d]) (unhide H) (by simp) (texts_new w1 [a, b, c, d])).mono ?_
  rintro e w2 ⟨rfl, hw⟩
  have b2 : Below w.heap.size w w2 := by rw [hw]; exact b1.alloc b1.size _
  clear hw b1
  go_wp2_with (go_at_call 24; fail)
  refine (pseudo_is (unhide HR) (by omega) (by omega) (hg.below b2)).mono ?_
  rintro e w3 ⟨rfl, b3⟩
  have b3 := b2.trans (b3.mono b2.size)
  clear b2
  unfold pseudoV
  go_wp2_with (go_at_call 25; fail)
  refine (refPseudo_is (unhide HR) (by omega) (hg.below b3)).mono ?_
  rintro e w4 ⟨rfl, b4⟩
  have b4 := b3.trans (b4.mono b3.size)
  clear b3
  unfold pseudoV
  go_wp2_with (go_at_call 26; fail)
  refine (split_is (unhide HS) (by omega) (hg.below b4)).mono ?_
  rintro e w5 ⟨rfl, b5⟩
  have b5 := b4.trans (b5.mono b4.size)
  clear b4
  unfold splitV
  go_wp2_with (go_at_call 27; fail)
  refine (refSplit_is (unhide HS) (hg.below b5)).mono ?_
  rintro e w6 ⟨rfl, b6⟩
  have b6 := b5.trans (b6.mono b5.size)
  clear b5
  unfold splitV
  go_wp2_with (go_at_call 28; refine (num_any _ _).mono ?_; rintro e w7 ⟨rfl, hw⟩; rw [hw]; clear hw w7)
  go_ret
  exact ⟨rfl, b6⟩

theorem pseudo_law (m : Int) (a b c d : Str) {w : World} (hg : Gd w) : Gives 5 #[.int .i64 m, .string (ba a), .string (ba b), .string (ba c), .string (ba d)] w (.bool true) := by
  cases h : fewB [a, b, c, d] with
  | false => exact pseudo_big h hg
  | true => exact pseudo_small h hg

end Go.Proofs.YtcmafidnaojkiaaGreatDoor
