/-
  The reference's Less at modules: the contract.
-/
import Derived.Test.YthcafeoamabkgaaGreatDoorRefO
import Derived.Test.YthcafeoamabkgaaGreatDoorLess
namespace Go.Proofs.YthcafeoamabkgaaGreatDoor
open Go.RowKit


theorem refLess_any {p q : Md} (w : World) : Tells 118 #[modV p, modV q] w (.bool (ltM p q)) := by
  unfold Tells
  obtain ⟨p1, p2⟩ := p
  obtain ⟨q1, q2⟩ := q
  obtain ⟨r, hr⟩ : ∃ r, Lib.compareBytes p1 q1 = r := ⟨_, rfl⟩
  have b2 : Below w.heap.size w ((w.alloc (.cells #[.string (ba p1), .string (ba p2)] 36)).alloc (.cells #[.string (ba q1), .string (ba q2)] 36)) := ((Below.refl _ _).alloc (Nat.le_refl _) _).alloc (by simp) _
  have lp := ba_list p1
  have lq := ba_list q1
  by_cases h0 : r = 0
  · obtain ⟨s, hs⟩ : ∃ s, cmpV p2 q2 = s := ⟨_, rfl⟩
    have HV := hide (ltM_eq (p := (p1, p2)) (q := (q1, q2)) (h0 ▸ hr) hs)
    have HS := hide hs
    subst h0
    obtain rfl : p1 = q1 := (orders_bytes.eq p1 q1).1 hr
    clear hr hs lq
    go_enter Tryz.func118, Tryz.ntmps118
    go_wp2_with (go_at_call 158; fail)
    refine (refCmp_is (unhide HS) _).mono ?_
    rintro e w1 ⟨rfl, b3⟩
    have b3 := low_trans b2 b3
    go_wp2
    go_ret
    exact ⟨ret_bool (unhide HV).symm, b3⟩
  · have HV := hide (ltM_ne (p := (p1, p2)) (q := (q1, q2)) hr h0)
    have q1' : (p1 == q1) = false := by
      simp only [beq_eq_false_iff_ne]
      intro e
      exact h0 (hr.symm.trans ((orders_bytes.eq p1 q1).2 e))
    have HL : Hid (Op.bytesLess p1 q1 = decide (r < 0)) := by rw [← hr]; exact less_cmp p1 q1
    clear hr
    go_enter Tryz.func118, Tryz.ntmps118
    go_wp2
    go_ret
    exact ⟨ret_bool ((unhide HL).trans (unhide HV).symm), b2⟩

end Go.Proofs.YthcafeoamabkgaaGreatDoor
