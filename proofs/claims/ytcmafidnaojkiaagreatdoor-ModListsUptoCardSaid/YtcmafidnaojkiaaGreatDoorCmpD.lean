/-
  The contracts of Max, ValidVersion, Parts.
-/
import Derived.Test.YtcmafidnaojkiaaGreatDoorCmpC
namespace Go.Proofs.YtcmafidnaojkiaaGreatDoor
open Go.RowKit

def maxV (a b : Str) : Str := if cmpV a b < 0 then b else a

theorem max_any {a b : Str} {w : World} (hg : Gd w) : Gives 17 #[.string (ba a), .string (ba b)] w (.string (ba (maxV a b))) := by
  unfold Gives
  by_cases h : cmpV a b < 0
  · have HV : Hid (maxV a b = b) := by show maxV a b = b; unfold maxV; rw [if_pos h]
    go_enter Tryz.func17, Tryz.ntmps17
    go_wp2_with (go_at_call 15; refine (compare_any hg).mono ?_)
    rintro e w1 ⟨rfl, b1⟩
    go_wp2
    go_ret
    exact ⟨retv (by rw [unhide HV]; rfl), b1⟩
  · have HV : Hid (maxV a b = a) := by show maxV a b = a; unfold maxV; rw [if_neg h]
    have h' : 0 ≤ cmpV a b := by omega
    clear h
    go_enter Tryz.func17, Tryz.ntmps17
    go_wp2_with (go_at_call 15; refine (compare_any hg).mono ?_)
    rintro e w1 ⟨rfl, b1⟩
    go_wp2
    go_ret
    exact ⟨retv (by rw [unhide HV]; rfl), b1⟩

theorem valid_any {v : Str} {w : World} (hg : Gd w) : Gives 16 #[.string (ba v)] w (.bool (parseV v).isSome) := by
  unfold Gives
  cases hv : parseV v with
  | none =>
    have HV := hide hv
    clear hv
    go_enter Tryz.func16, Tryz.ntmps16
    go_wp2_with (go_at_call 50; refine (parse_any v hg).mono ?_)
    rintro e w1 ⟨rfl, b1⟩
    rw [verV_eq, unhide HV]
    unfold verCells
    go_wp2
    go_ret
    exact ⟨rfl, b1.alloc b1.size _⟩
  | some x =>
    have HV := hide hv
    clear hv
    go_enter Tryz.func16, Tryz.ntmps16
    go_wp2_with (go_at_call 50; refine (parse_any v hg).mono ?_)
    rintro e w1 ⟨rfl, b1⟩
    rw [verV_eq, unhide HV]
    unfold verCells
    go_wp2
    go_ret
    exact ⟨rfl, b1.alloc b1.size _⟩

/-- What Parts answers. -/
def partsV (o : Option Ver) : Value :=
  .tuple #[.int .i64 ((o.getD ⟨0, 0, 0, []⟩).a : Int), .int .i64 ((o.getD ⟨0, 0, 0, []⟩).b : Int), .int .i64 ((o.getD ⟨0, 0, 0, []⟩).c : Int), .string (ba (o.getD ⟨0, 0, 0, []⟩).pre), .bool o.isSome]

set_option maxHeartbeats 1000000 in
theorem parts_any {v : Str} {w : World} (hg : Gd w) : Gives 18 #[.string (ba v)] w (partsV (parseV v)) := by
  unfold Gives
  cases hv : parseV v with
  | none =>
    have HV := hide hv
    clear hv
    go_enter Tryz.func18, Tryz.ntmps18
    go_wp2_with (go_at_call 50; refine (parse_any v hg).mono ?_)
    rintro e w1 ⟨rfl, b1⟩
    rw [verV_eq, unhide HV]
    unfold verCells
    go_wp2
    go_quiet (fail)
    go_wp2
    exact bodyPost_ret (v := partsV none) (by simp [results, Tryz.results18, go_sem, partsV, ba]) rfl ⟨rfl, below_drewN (b1.alloc b1.size _) _⟩
  | some x =>
    have HV := hide hv
    clear hv
    go_enter Tryz.func18, Tryz.ntmps18
    go_wp2_with (go_at_call 50; refine (parse_any v hg).mono ?_)
    rintro e w1 ⟨rfl, b1⟩
    rw [verV_eq, unhide HV]
    unfold verCells
    go_wp2
    go_quiet (fail)
    go_wp2
    exact bodyPost_ret (v := partsV (some x)) (by simp [results, Tryz.results18, go_sem, partsV]) rfl ⟨rfl, below_drewN (b1.alloc b1.size _) _⟩

end Go.Proofs.YtcmafidnaojkiaaGreatDoor
