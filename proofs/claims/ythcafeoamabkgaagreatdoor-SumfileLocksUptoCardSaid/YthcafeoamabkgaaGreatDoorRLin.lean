/-
  The reference's less of lines: the contract.
-/
import Derived.Test.YthcafeoamabkgaaGreatDoorRefS
import Derived.Test.YthcafeoamabkgaaGreatDoorOrdA
namespace Go.Proofs.YthcafeoamabkgaaGreatDoor
open Go.RowKit

theorem refLess_is {p q : Md} {b : Bool} (h : ltM p q = b) (w : World) : Tells 118 #[modV p, modV q] w (.bool b) := by rw [← h]; exact refLess_any w

set_option maxRecDepth 100000 in
set_option maxHeartbeats 2000000 in
theorem lessR_any {x y : Ln} (w : World) : Tells 108 #[lnV x, lnV y] w (.bool (ltL x y)) := by
  unfold Tells
  obtain ⟨p, v, k, s⟩ := x
  obtain ⟨p', v', k', s'⟩ := y
  obtain ⟨W0, hW0⟩ : ∃ W0, (w.alloc (.cells #[.string (ba p), .string (ba v), .int .i64 k, .string (ba s)] 105)).alloc (.cells #[.string (ba p'), .string (ba v'), .int .i64 k', .string (ba s')] 105) = W0 := ⟨_, rfl⟩
  have b0 : Below w.heap.size w W0 := by rw [← hW0]; exact ((Below.refl _ _).alloc (Nat.le_refl _) _).alloc (by simp) _
  have hs1 : (w.alloc (.cells #[.string (ba p), .string (ba v), .int .i64 k, .string (ba s)] 105)).heap.size = w.heap.size + 1 := by simp
  have kx : Blk W0 w.heap.size #[.string (ba p), .string (ba v), .int .i64 k, .string (ba s)] 105 := by
    rw [← hW0]
    exact (Blk.new _ _ _).low ((Below.refl _ _).alloc (Nat.le_refl _) _)
  have ky : Blk W0 (w.heap.size + 1) #[.string (ba p'), .string (ba v'), .int .i64 k', .string (ba s')] 105 := by
    rw [← hW0, ← hs1]
    exact Blk.new _ _ _
  have H0 := hide hW0
  have HKX := hide kx
  have HKY := hide ky
  have HB0 := hide b0
  have R1 := fun b (h : ltM (p, v) (p', v') = b) W => refLess_is h W
  have R2 := fun b (h : ltM (p', v') (p, v) = b) W => refLess_is h W
  clear hW0 kx ky b0 hs1
  cases h1 : ltM (p, v) (p', v') with
  | true =>
    have HV : Hid (ltL ⟨p, v, k, s⟩ ⟨p', v', k', s'⟩ = true) := ltL_yes h1
    have HR1 := hide (R1 true h1)
    clear R1 R2 h1
    go_enter Tryz.func108, Tryz.ntmps108
    go_wp2_with (go_at_call 118; fail)
    rw [unhide H0]
    refine (unhide HR1 _).mono ?_
    rintro e w1 ⟨rfl, b1⟩
    go_wp2
    go_ret
    exact ⟨ret_bool (unhide HV).symm, low_trans (unhide HB0) b1⟩
  | false =>
    have HR1 := hide (R1 false h1)
    cases h2 : ltM (p', v') (p, v) with
    | true =>
      have HV : Hid (ltL ⟨p, v, k, s⟩ ⟨p', v', k', s'⟩ = false) := ltL_no h2
      have HR2 := hide (R2 true h2)
      clear R1 R2 h1 h2
      go_enter Tryz.func108, Tryz.ntmps108
      go_wp2_with (go_at_call 118; fail)
      rw [unhide H0]
      refine (unhide HR1 _).mono ?_
      rintro e w1 ⟨rfl, b1⟩
      have c0 := ((unhide HKX).low b1).cell 0
      have c1 := ((unhide HKX).low b1).cell 1
      have d0 := ((unhide HKY).low b1).cell 0
      have d1 := ((unhide HKY).low b1).cell 1
      simp at c0 c1 d0 d1
      go_wp2_with (go_at_call 118; fail)
      refine (unhide HR2 _).mono ?_
      rintro e w2 ⟨rfl, b2⟩
      go_wp2
      go_ret
      exact ⟨ret_bool (unhide HV).symm, low_trans (unhide HB0) (low_trans b1 b2)⟩
    | false =>
      have HV : Hid (ltL ⟨p, v, k, s⟩ ⟨p', v', k', s'⟩ = decide (k < k')) := ltL_kind h1 h2
      have HR2 := hide (R2 false h2)
      clear R1 R2 h1 h2
      go_enter Tryz.func108, Tryz.ntmps108
      go_wp2_with (go_at_call 118; fail)
      rw [unhide H0]
      refine (unhide HR1 _).mono ?_
      rintro e w1 ⟨rfl, b1⟩
      have c0 := ((unhide HKX).low b1).cell 0
      have c1 := ((unhide HKX).low b1).cell 1
      have d0 := ((unhide HKY).low b1).cell 0
      have d1 := ((unhide HKY).low b1).cell 1
      simp at c0 c1 d0 d1
      go_wp2_with (go_at_call 118; fail)
      refine (unhide HR2 _).mono ?_
      rintro e w2 ⟨rfl, b2⟩
      have c2 := ((unhide HKX).low (low_trans b1 b2)).cell 2
      have d2 := ((unhide HKY).low (low_trans b1 b2)).cell 2
      simp at c2 d2
      go_wp2
      go_ret
      exact ⟨ret_bool (unhide HV).symm, low_trans (unhide HB0) (low_trans b1 b2)⟩

end Go.Proofs.YthcafeoamabkgaaGreatDoor
