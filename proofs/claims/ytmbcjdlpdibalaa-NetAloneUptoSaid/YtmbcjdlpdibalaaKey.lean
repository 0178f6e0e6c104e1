/-
  The key of a fault: a URL and a number.
-/
import Derived.Test.YtmbcjdlpdibalaaRep
import Derived.DeepKeys4
namespace Go.Proofs.Ytmbcjdlpdibalaa
open Go.RowKit Go.WideMaps Go.Maps

theorem law87 : Keyed Try.prog 87 := Keyed.of_law (deep_law_laid (by kernel_rfl) (m := 3) (by omega) (by decide +kernel) (by kernel_rfl) (by rw [Try.underlying87]))

set_option maxRecDepth 100000 in
theorem key87 {u : ByteArray} {k : Int} (hu : u.size ≤ maxLen) (hk : (Lit.int .i64 k).wf = true) : keyOf Try.prog 87 (.agg #[.string u, .int .i64 k]) = some (.string (keyBytes [.string u.data.toList, .int .i64 k])) := by
  have hkt : Try.prog.keyType 87 = true := by kernel_rfl
  obtain ⟨m, hm⟩ : ∃ m, Try.prog.types.size = m + 1 := ⟨_, (by kernel_rfl : Try.prog.types.size = (Try.prog.types.size - 1) + 1)⟩
  have c87 : Try.prog.cellsOf 87 = 2 := by kernel_rfl
  have c9 : Try.prog.cellsOf 9 = 1 := by kernel_rfl
  have c3 : Try.prog.cellsOf 3 = 1 := by kernel_rfl
  unfold keyOf
  simp only [Try.underlying87]
  rw [if_pos (by simp [hkt, Value.formed, Try.underlying87, c87]), hm]
  unfold Program.keyLits
  simp only [Try.underlying87, Value.cells]
  rw [if_pos (by simp [c87])]
  simp [Program.keyLits, Try.underlying9, Try.underlying3, c9, c3, hu, hk]

end Go.Proofs.Ytmbcjdlpdibalaa
