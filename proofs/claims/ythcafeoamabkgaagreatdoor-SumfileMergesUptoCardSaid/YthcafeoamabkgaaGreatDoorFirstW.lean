/-
  The first look of each statement is true.
-/
import Derived.Test.YthcafeoamabkgaaGreatDoorFirst
namespace Go.Proofs.YthcafeoamabkgaaGreatDoor
open Go.RowKit Go.WideMaps Go.Maps

theorem num_any (x : Int) (w : World) : Calls Tryz.prog 15 #[.int .i64 x] w fun e w' => e = .returned (.int .i64 x) ∧ w' = w := by
  go_enter Tryz.func15, Tryz.ntmps15
  go_wp2
  go_ret
  exact ⟨rfl, rfl⟩

set_option maxRecDepth 100000 in
set_option maxHeartbeats 8000000 in
theorem first_any {w : World} (hg : Gd w) : Calls Tryz.prog 11 #[] w fun e w' => e = .returned (.bool true) ∧ Below w.heap.size w w' := by
  have HG := hide hg
  have H1 := hide (parse_t1_lit hg)
  clear hg
  go_enter Tryz.func11, Tryz.ntmps11
  go_wp2_with (go_at_call 16; fail)
  refine (unhide H1).mono ?_
  rintro e w1 ⟨g, cap, rfl, c1, l1, b1⟩
  have C1 := hide c1
  have L1 := hide l1
  have B1 := hide b1
  have H2 := hide (parse_t2_lit ((unhide HG).low b1))
  clear c1 l1 b1
  go_wp2_with (go_at_call 16; fail)
  refine (unhide H2).mono ?_
  rintro e w2 ⟨v, rfl, b2⟩
  have cg : w2.cell? ⟨g, 2, none⟩ = some (.int .i64 1) := (b2.cell (p := ⟨g, 2, none⟩) (unhide L1)).trans (unhide C1)
  have B2 := hide (low_trans (unhide B1) b2)
  clear b2
  have s1 := hide (sum_yes w2)
  have s2 := hide (sum_no w2)
  have s3 := hide (glob_yes w2)
  go_wp2_with (go_at_call 25; fail)
  refine (unhide s1).mono ?_
  rintro e w3 ⟨rfl, hw⟩
  rw [hw]; clear hw w3
  go_wp2_with (go_at_call 25; fail)
  refine (unhide s2).mono ?_
  rintro e w3 ⟨rfl, hw⟩
  rw [hw]; clear hw w3
  go_wp2_with (go_at_call 15; refine (num_any _ _).mono ?_; rintro e w3 ⟨rfl, hw⟩; rw [hw]; clear hw w3)
  refine (unhide s3).mono ?_
  rintro e w3 ⟨rfl, n, rfl⟩
  have s4 := hide (glob_no (w2.drewN n))
  go_wp2_with (go_at_call 39; fail)
  refine (unhide s4).mono ?_
  rintro e w3 ⟨rfl, m, rfl⟩
  go_wp2
  go_ret
  exact ⟨rfl, low_drewN (unhide B2) (n + m)⟩

end Go.Proofs.YthcafeoamabkgaaGreatDoor
