/-
  few at a slice that begins anywhere; Sort, SameTexts and few at no texts.
-/
import Derived.Test.YtcmafidnaojkiaaGreatDoorSortN
import Derived.Test.YtcmafidnaojkiaaGreatDoorSortP
namespace Go.Proofs.YtcmafidnaojkiaaGreatDoor
open Go.RowKit Go.Lib Go.Shelf Go.Sort

theorem few_at {ps : List Str} {B off cp : Nat} (hn : ps.length ≤ 9223372036854775807) {w : World} (ht : ∀ k (hk : k < ps.length), w.cell? ⟨B, off + k, none⟩ = some (.string (ba ps[k]))) : Calls Tryz.prog 14 #[.slice (some ⟨B, off, none⟩) ps.length cp] w fun e w' => e = .returned (.bool (fewB ps)) ∧ w' = w := by
  have HT := hide ht
  clear ht
  go_enter Tryz.func14, Tryz.ntmps14
  go_wp2
  go_loop [3] (fun i => ∃ k : Nat, k ≤ ps.length ∧ k ≤ 61 ∧ i = .int .i64 k ∧ (ps.take k).all (fun p => decide (p.length ≤ 2000)) = true) (fun i => 61 - (intOf i).toNat)
  case atStart => exact ⟨0, Nat.zero_le _, Nat.zero_le _, rfl, rfl⟩
  case round =>
    obtain ⟨k, hk, hk61, rfl, hall⟩ := hrel
    have HA := hide hall
    clear hall
    by_cases hlt : k < ps.length
    · by_cases h60 : k ≤ 60
      · have hc := (unhide HT) k hlt
        have hs := ba_size ps[k]
        by_cases hs2 : ps[k].length ≤ 2000
        · have HF := hide (all_take (unhide HA) hlt (by simpa using hs2))
          have hq : ¬ (2000 : Int) < (ps[k].length : Int) := by omega
          clear HA
          go_wp2
          go_round
          case rel => exact ⟨k + 1, hlt, by omega, by simp, unhide HF⟩
          case measure => simp [intOf]; omega
        · have HF : Hid (fewB ps = false) := by
            show fewB ps = false
            unfold fewB
            rw [all_no hlt (by simpa using hs2)]; simp
          have hq : (2000 : Int) < (ps[k].length : Int) := by omega
          go_wp2
          go_ret
          exact ⟨ret_bool (unhide HF).symm, rfl⟩
      · have HF : Hid (fewB ps = false) := by
          show fewB ps = false
          unfold fewB
          have : decide (ps.length ≤ 60) = false := by simp; omega
          rw [this]; rfl
        have hq : ¬ (ps.length : Int) ≤ 60 := by omega
        have hq2 : ¬ (k : Int) ≤ 60 := by omega
        go_wp2
        go_ret
        exact ⟨ret_bool (by rw [unhide HF]), rfl⟩
    · have hke : k = ps.length := by omega
      subst hke
      have HF : Hid (fewB ps = decide (ps.length ≤ 60)) := by
        have := unhide HA
        rw [List.take_length] at this
        show fewB ps = _
        unfold fewB
        rw [this]; simp
      go_wp2
      go_ret
      exact ⟨ret_bool (by rw [unhide HF]; simp; omega), rfl⟩

theorem few_none (w : World) : Calls Tryz.prog 14 #[.slice none 0 0] w fun e w' => e = .returned (.bool true) ∧ w' = w := by
  go_enter Tryz.func14, Tryz.ntmps14
  go_wp2
  refine wp_loop_rounds 1 ?_
  rw [rounds_succ]
  go_wp2
  go_ret
  exact ⟨rfl, rfl⟩

theorem sameTexts_none {a b : Option Addr} {ac bc : Nat} (w : World) : Calls Tryz.prog 21 #[.slice a 0 ac, .slice b 0 bc] w fun e w' => e = .returned (.bool true) ∧ w' = w := by
  go_enter Tryz.func21, Tryz.ntmps21
  go_wp2
  refine wp_loop_rounds 1 ?_
  rw [rounds_succ]
  go_wp2
  go_ret
  exact ⟨rfl, rfl⟩

theorem sort_none (w : World) : Calls Tryz.prog 20 #[.slice none 0 0] w fun e w' => e = .returned (.slice none 0 0) ∧ Below w.heap.size w w' := by
  have HS : Hid (∀ w1, Calls Tryz.prog 58 #[.iface 24 (.slice none 0 0), .func (.func 59) #[] #[.pointer (some ⟨w.heap.size, 0, none⟩)]] w1 fun e w' => e = .returned (.tuple #[]) ∧ ∃ os, w' = Sort.grow w1 os) :=
    fun w1 => Any.sort_SliceStable_tiny Tryz.sl58 24 9 infoT infoS (by kernel_rfl) (by kernel_rfl) (by kernel_rfl) (by kernel_rfl) 24 (fun _ => by kernel_rfl) none 0 0 (by omega) 133 (by kernel_rfl) (.func 59) #[] _ w1
  go_enter Tryz.func20, Tryz.ntmps20
  go_wp2_with (go_at_call 57; fail)
  refine (AnyE.slices_Clone_nil Tryz.clone57 0 0 w).mono ?_
  rintro e w1 ⟨rfl, hw⟩
  rw [hw]
  clear hw w1
  go_wp2_with (go_at_call 58; fail)
  refine ((unhide HS) _).mono ?_
  rintro e w2 ⟨rfl, os, hw⟩
  have b1 : Below w.heap.size w (w.alloc (.cells #[.slice none 0 0] 24)) := (Below.refl _ _).alloc (Nat.le_refl _) _
  have b2 := below_grow (w.alloc (.cells #[.slice none 0 0] 24)) os
  rw [← hw] at b2
  have c0 : w2.cell? ⟨w.heap.size, 0, none⟩ = some (.slice none 0 0) := by
    rw [b2.cell (p := ⟨w.heap.size, 0, none⟩) (by show w.heap.size < (w.heap.push _).size; simp), Lib.cell_of_heap (heap_new w _)]; rfl
  have HB := hide (below_trans b1 b2)
  clear hw b1 b2 HS
  go_wp2
  go_ret
  exact ⟨rfl, unhide HB⟩

end Go.Proofs.YtcmafidnaojkiaaGreatDoor
