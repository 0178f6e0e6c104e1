/-
  SameTexts at two rows that hold the same texts.
-/
import Derived.Test.YtcmafidnaojkiaaGreatDoorSortO
import Derived.BigQuiet
namespace Go.Proofs.YtcmafidnaojkiaaGreatDoor
open Go.RowKit

theorem cell_heap {w w' : World} (h : w'.heap = w.heap) {p : Addr} : w'.cell? p = w.cell? p := by
  unfold World.cell?
  rw [h]

set_option maxHeartbeats 1000000 in
theorem sameTexts_same {x : List Str} {A ao ac B bo bc : Nat} {w : World} (hn : x.length ≤ 1099511627776) (ha : ∀ k (hk : k < x.length), w.cell? ⟨A, ao + k, none⟩ = some (.string (ba x[k]))) (hb : ∀ k (hk : k < x.length), w.cell? ⟨B, bo + k, none⟩ = some (.string (ba x[k]))) :
    Calls Tryz.prog 21 #[.slice (some ⟨A, ao, none⟩) x.length ac, .slice (some ⟨B, bo, none⟩) x.length bc] w fun e w' => e = .returned (.bool true) ∧ Below w.heap.size w w' := by
  have HA := hide ha
  have HB := hide hb
  obtain ⟨n, hnn⟩ : ∃ n, x.length = n := ⟨_, rfl⟩
  rw [hnn] at hn ⊢
  have HN := hide hnn
  clear ha hb hnn
  go_enter Tryz.func21, Tryz.ntmps21
  go_wp2
  go_loopw [5] (fun v wr => ∃ k : Nat, k ≤ n ∧ v = .int .i64 k ∧ wr.heap = w.heap ∧ Below w.heap.size w wr) (fun v _ => n - (intOf v).toNat)
  case atStart => exact ⟨0, Nat.zero_le _, rfl, rfl, Below.refl _ _⟩
  case round =>
    obtain ⟨k, hk, rfl, hw, hbw⟩ := hrel
    have HW := hide hw
    have HBW := hide hbw
    by_cases hlt : k < n
    · have hkx : k < x.length := by rw [unhide HN]; exact hlt
      obtain ⟨t, ht⟩ : ∃ t, x[k] = t := ⟨_, rfl⟩
      have ca : wr.cell? ⟨A, ao + k, none⟩ = some (.string (ba t)) := by rw [cell_heap hw, ← ht]; exact (unhide HA) k hkx
      have cb : wr.cell? ⟨B, bo + k, none⟩ = some (.string (ba t)) := by rw [cell_heap hw, ← ht]; exact (unhide HB) k hkx
      have hl := ba_list t
      clear hw ht hbw
      go_wp2
      go_quiet (fail)
      go_wp2
      go_roundw
      case rel => exact ⟨k + 1, hlt, by simp, unhide HW, below_drewN (unhide HBW) _⟩
      case measure => simp [intOf]; omega
    · clear hw hbw
      go_wp2
      go_ret
      exact ⟨rfl, unhide HBW⟩

end Go.Proofs.YtcmafidnaojkiaaGreatDoor
