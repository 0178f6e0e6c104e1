/-
  SumfileFronts answers true.
-/
import Derived.Test.YthcafeoamabkgaaGreatDoorFrontsP
import Derived.Deep.QuietTactic
namespace Go.Proofs.YthcafeoamabkgaaGreatDoor
open Go.RowKit Go.WideMaps Go.Maps

set_option maxRecDepth 100000 in
set_option maxHeartbeats 2000000 in
/-- Where what is handed in is too much, or the path is empty. -/
theorem fronts_out {w : World} {a : Option Addr} {n c : Nat} {path more : Str} (hg : Gd w) (h : 30 < n ∨ 200 < path.length ∨ 200 < more.length ∨ path = []) :
    Calls Tryz.prog 9 #[.slice a n c, .string (ba path), .string (ba more)] w fun e w' => e = .returned (.bool true) ∧ Below w.heap.size w w' := by
  have HF := hide (first_any hg)
  have h1 := ba_size path
  have h2 := ba_size more
  have HH := hide h
  clear hg h
  go_enter Tryz.func9, Tryz.ntmps9
  go_wp2_with (go_at_call 11; fail)
  refine (unhide HF).mono ?_
  rintro e w1 ⟨rfl, b1⟩
  have HB := hide b1
  clear b1
  by_cases q1 : 30 < n
  · have q1' : (30 : Int) < (n : Int) := by omega
    go_wp2
    go_ret
    exact ⟨rfl, unhide HB⟩
  · have q1' : ¬ (30 : Int) < (n : Int) := by omega
    by_cases q2 : 200 < path.length
    · have q2' : (200 : Int) < (path.length : Int) := by omega
      go_wp2
      go_ret
      exact ⟨rfl, unhide HB⟩
    · have q2' : ¬ (200 : Int) < (path.length : Int) := by omega
      by_cases q3 : 200 < more.length
      · have q3' : (200 : Int) < (more.length : Int) := by omega
        go_wp2
        go_ret
        exact ⟨rfl, unhide HB⟩
      · have q3' : ¬ (200 : Int) < (more.length : Int) := by omega
        have q4 : path = [] := by
          rcases unhide HH with h | h | h | h
          · exact absurd h q1
          · exact absurd h q2
          · exact absurd h q3
          · exact h
        have q4' : (ba path).toList.isEmpty = true := by rw [q4]; exact ba_em
        clear q4
        go_wp2
        go_ret
        exact ⟨rfl, unhide HB⟩

end Go.Proofs.YthcafeoamabkgaaGreatDoor
