/-
  Draws leave what lies in memory.
-/
import Derived.Test.YtkablmjkffdloaaGreatDoorBas
namespace Go.Proofs.YtkablmjkffdloaaGreatDoor
open Go.RowKit

theorem lowN {B : Nat} {a w : World} (h : Below B a w) (n : Nat) : Below B a (w.drewN n) := h.trans ⟨rfl, rfl, rfl, Nat.le_refl _, fun _ _ => rfl⟩

end Go.Proofs.YtkablmjkffdloaaGreatDoor
