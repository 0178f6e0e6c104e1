/-
  The reference's upper and lower; what its calls say.
-/
import Derived.Test.YthcafeoamabkgaaGreatDoorCutR
import Derived.Test.YthcafeoamabkgaaGreatDoorModC
namespace Go.Proofs.YthcafeoamabkgaaGreatDoor
open Go.RowKit

theorem refUpper_asks : Asks 197 upperB := by
  intro c w
  go_enter Tryz.func197, Tryz.ntmps197
  go_wp2
  all_goals
    go_ret
    refine ⟨ret_bool ?_, rfl⟩
    rw [Bool.eq_iff_iff]
    first | (simp_all [upperB]; done) | (simp_all [upperB]; omega)
theorem refLower_asks : Asks 196 lowerB := by
  intro c w
  go_enter Tryz.func196, Tryz.ntmps196
  go_wp2
  all_goals
    go_ret
    refine ⟨ret_bool ?_, rfl⟩
    rw [Bool.eq_iff_iff]
    first | (simp_all [lowerB]; done) | (simp_all [lowerB]; omega)

theorem all_no8 {p : UInt8 → Bool} {ps : Str} {k : Nat} (hk : k < ps.length) (hp : p ps[k] = false) : ps.all p = false := by
  rw [List.all_eq_false]
  exact ⟨ps[k], List.getElem_mem hk, by rw [hp]; decide⟩
theorem all_take8 {p : UInt8 → Bool} {ps : Str} {k : Nat} (h : (ps.take k).all p = true) (hk : k < ps.length) (hp : p ps[k] = true) : (ps.take (k + 1)).all p = true := by
  rw [List.take_add_one, List.all_append, h, List.getElem?_eq_getElem hk]
  simp [hp]


/-- A call that answers v and leaves all that was. -/
def Tells (n : Nat) (args : Array Value) (w : World) (v : Value) : Prop := Calls Tryz.prog n args w fun e w' => e = .returned v ∧ Below w.heap.size w w'

end Go.Proofs.YthcafeoamabkgaaGreatDoor
