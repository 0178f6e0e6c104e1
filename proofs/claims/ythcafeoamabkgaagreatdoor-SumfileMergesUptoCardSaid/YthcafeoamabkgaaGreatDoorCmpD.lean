/-
  The contracts of Max, ValidVersion, Parts.
-/
import Derived.Test.YthcafeoamabkgaaGreatDoorCmpC
namespace Go.Proofs.YthcafeoamabkgaaGreatDoor
open Go.RowKit

def maxV (a b : Str) : Str := if cmpV a b < 0 then b else a

theorem valid_any {v : Str} {w : World} (hg : Gd w) : Gives 134 #[.string (ba v)] w (.bool (parseV v).isSome) := by
  unfold Gives
  cases hv : parseV v with
  | none =>
    have HV := hide hv
    clear hv
    go_enter Tryz.func134, Tryz.ntmps134
    go_wp2_with (go_at_call 171; refine (parse_any v hg).mono ?_)
    rintro e w1 ⟨rfl, b1⟩
    rw [verV_eq, unhide HV]
    unfold verCells
    go_wp2
    go_ret
    exact ⟨rfl, b1.alloc b1.size _⟩
  | some x =>
    have HV := hide hv
    clear hv
    go_enter Tryz.func134, Tryz.ntmps134
    go_wp2_with (go_at_call 171; refine (parse_any v hg).mono ?_)
    rintro e w1 ⟨rfl, b1⟩
    rw [verV_eq, unhide HV]
    unfold verCells
    go_wp2
    go_ret
    exact ⟨rfl, b1.alloc b1.size _⟩

/-- What Parts answers. -/
def partsV (o : Option Ver) : Value :=
  .tuple #[.int .i64 ((o.getD ⟨0, 0, 0, []⟩).a : Int), .int .i64 ((o.getD ⟨0, 0, 0, []⟩).b : Int), .int .i64 ((o.getD ⟨0, 0, 0, []⟩).c : Int), .string (ba (o.getD ⟨0, 0, 0, []⟩).pre), .bool o.isSome]

set_option maxHeartbeats 1000000 in
theorem parts_any {v : Str} {w : World} (hg : Gd w) : Gives 172 #[.string (ba v)] w (partsV (parseV v)) := by
  unfold Gives
  cases hv : parseV v with
  | none =>
    have HV := hide hv
    clear hv
    go_enter Tryz.func172, Tryz.ntmps172
    go_wp2_with (go_at_call 171; refine (parse_any v hg).mono ?_)
    rintro e w1 ⟨rfl, b1⟩
    rw [verV_eq, unhide HV]
    unfold verCells
    go_wp2
    go_quiet (fail)
    go_wp2
    exact bodyPost_ret (v := partsV none) (by simp [results, Tryz.results172, go_sem, partsV, ba]) rfl ⟨rfl, below_drewN (b1.alloc b1.size _) _⟩
  | some x =>
    have HV := hide hv
    clear hv
    go_enter Tryz.func172, Tryz.ntmps172
    go_wp2_with (go_at_call 171; refine (parse_any v hg).mono ?_)
    rintro e w1 ⟨rfl, b1⟩
    rw [verV_eq, unhide HV]
    unfold verCells
    go_wp2
    go_quiet (fail)
    go_wp2
    exact bodyPost_ret (v := partsV (some x)) (by simp [results, Tryz.results172, go_sem, partsV]) rfl ⟨rfl, below_drewN (b1.alloc b1.size _) _⟩

end Go.Proofs.YthcafeoamabkgaaGreatDoor
