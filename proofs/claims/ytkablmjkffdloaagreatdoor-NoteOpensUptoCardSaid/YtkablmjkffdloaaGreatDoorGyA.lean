/-
  The library's variables that opening a note reads.
-/
import Derived.Test.YtkablmjkffdloaaGreatDoorHedX
import Derived.Test.YtkablmjkffdloaaGreatDoorB64Y
namespace Go.Proofs.YtkablmjkffdloaaGreatDoor
open Go.RowKit

structure Gy (w : World) : Prop where
  ml : ∃ m, w.cell? ⟨0, 0, none⟩ = some (.int .i64 m)
  tab : Pw w
theorem Gy.low {w w' : World} (h : Gy w) (hb : Below w.heap.size w w') : Gy w' where
  ml := by
    obtain ⟨m, hm⟩ := h.ml
    exact ⟨m, by rw [hb.cell (lt_of_cell hm)]; exact hm⟩
  tab := h.tab.low hb
end Go.Proofs.YtkablmjkffdloaaGreatDoor
