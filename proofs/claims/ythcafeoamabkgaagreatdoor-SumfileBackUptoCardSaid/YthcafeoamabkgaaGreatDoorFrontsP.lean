/-
  For SumfileFronts: a text that begins with another; a pattern without signs, as it is read on.
-/
import Derived.Test.YthcafeoamabkgaaGreatDoorFrsX
namespace Go.Proofs.YthcafeoamabkgaaGreatDoor
open Go.RowKit Go.WideMaps Go.Maps

theorem ba_take (s : Str) (k : Nat) : (ba s).extract 0 k = ba (s.take k) := by
  rw [Lib.extract_eq, ba_data]
  simp [ba]
theorem ba_app (a b : Str) : ba a ++ ba b = ba (a ++ b) := by
  rw [← ba_of (ba a ++ ba b)]
  simp [ByteArray.data_append, ba]

theorem prefix_take {s q : Str} : q.isPrefixOf s = decide (s.take q.length = q) := by
  by_cases h : q <+: s
  · rw [List.isPrefixOf_iff_prefix.2 h]
    simp [List.prefix_iff_eq_take.1 h |>.symm]
  · have h1 : q.isPrefixOf s = false := by
      cases e : q.isPrefixOf s with
      | false => rfl
      | true => exact absurd (List.isPrefixOf_iff_prefix.1 e) h
    rw [h1]
    have h2 : ¬ s.take q.length = q := fun e => h (List.prefix_iff_eq_take.2 e.symm)
    simp [h2]

theorem begins_any (s q : Str) (w : World) : Calls Tryz.prog 43 #[.string (ba s), .string (ba q)] w fun e w' => e = .returned (.bool (q.isPrefixOf s)) ∧ w' = w := by
  have hs := ba_size s
  have hq := ba_size q
  rw [prefix_take]
  by_cases h : q.length ≤ s.length
  · have he := ba_take s q.length
    by_cases h2 : s.take q.length = q
    · have e2 : ((ba (s.take q.length)).toList == (ba q).toList) = true := by rw [h2]; simp
      rw [decide_eq_true h2]
      clear h2
      go_enter Tryz.func43, Tryz.ntmps43
      go_wp2
      go_ret
      exact ⟨rfl, rfl⟩
    · have e2 : ((ba (s.take q.length)).toList == (ba q).toList) = false := by rw [ba_list, ba_list]; simpa using h2
      rw [decide_eq_false h2]
      clear h2
      go_enter Tryz.func43, Tryz.ntmps43
      go_wp2
      go_ret
      exact ⟨rfl, rfl⟩
  · have h2 : ¬ s.take q.length = q := fun e => by
      have := congrArg List.length e
      rw [List.length_take] at this
      omega
    rw [decide_eq_false h2]
    clear h2
    go_enter Tryz.func43, Tryz.ntmps43
    go_wp2
    go_ret
    exact ⟨rfl, rfl⟩

/-- No sign in the first so many bytes of a text that is not empty. -/
def plB (x : Str) (k : Nat) : Bool := !x.isEmpty && (x.take k).all fun c => c != 42 && c != 63
theorem plB_zero (x : Str) : plB x 0 = !(ba x).toList.isEmpty := by rw [ba_list]; simp [plB]
theorem plB_next {x : Str} {k : Nat} (hk : k < x.length) : plB x (k + 1) = (plB x k && (x[k] != 42 && x[k] != 63)) := by
  unfold plB
  rw [List.take_add_one, List.all_append, List.getElem?_eq_getElem hk]
  simp [Bool.and_assoc]
theorem plB_end {x : Str} (h : plB x x.length = true) : bareB x = true := by
  unfold plB at h
  rw [List.take_length] at h
  simp only [Bool.and_eq_true] at h
  exact h.2

theorem any_next {p : Str → Bool} {ts : List Str} {k : Nat} (hk : k < ts.length) : (ts.take (k + 1)).any p = ((ts.take k).any p || p ts[k]) := by
  rw [List.take_add_one, List.any_append, List.getElem?_eq_getElem hk]
  simp
theorem matchL_one (x path : Str) : matchL [x] path = matchF (pieces 47 path) x := by simp [matchL]

theorem row_one (w : World) (x : Str) (o : Nat × Nat) : Row (w.alloc (.cells #[.string (ba x)] 9 o)) (some ⟨w.heap.size, 0, none⟩) [x] := by
  refine ⟨Or.inr ⟨w.heap.size, 0, rfl, fun k hk => ?_⟩⟩
  have : k = 0 := by simp at hk; exact hk
  subst this
  exact Lib.cell_of_heap (heap_new w _) 0

end Go.Proofs.YthcafeoamabkgaaGreatDoor
