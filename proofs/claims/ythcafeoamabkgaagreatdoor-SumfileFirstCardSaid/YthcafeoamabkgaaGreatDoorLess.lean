/-
  Less.
-/
import Derived.Test.YthcafeoamabkgaaGreatDoorCmpX
import Derived.Test.YthcafeoamabkgaaGreatDoorPure5
namespace Go.Proofs.YthcafeoamabkgaaGreatDoor
open Go.RowKit

theorem or_left {x y : Int} (h : x ≠ 0) : orI x y = x := by unfold orI; rw [if_neg h]
theorem cmp_is {a b : Str} {n : Int} (h : cmpV a b = n) {w : World} (hg : Gd w) : Gives 184 #[.string (ba a), .string (ba b)] w (.int .i64 n) := by rw [← h]; exact compare_any hg

/-- A module: a path, a version. -/
abbrev Md := Str × Str
abbrev modV (p : Md) : Value := .agg #[.string (ba p.1), .string (ba p.2)]
def cmpM (p q : Md) : Int := orI (Lib.compareBytes p.1 q.1) (cmpV p.2 q.2)
theorem orders_m : Orders cmpM := orders_or orders_bytes orders_v
abbrev ltM (p q : Md) : Bool := decide (cmpM p q < 0)

theorem ltM_ne {p q : Md} {r : Int} (h : Lib.compareBytes p.1 q.1 = r) (h0 : r ≠ 0) : ltM p q = decide (r < 0) := by
  show decide (orI (Lib.compareBytes p.1 q.1) _ < 0) = _
  rw [h, or_left h0]
theorem ltM_eq {p q : Md} {r : Int} (h : Lib.compareBytes p.1 q.1 = 0) (hr : cmpV p.2 q.2 = r) : ltM p q = decide (r < 0) := by
  show decide (orI (Lib.compareBytes p.1 q.1) (cmpV p.2 q.2) < 0) = _
  rw [h, hr]; rfl

theorem cmpBytes_is {a b : Str} {r : Int} (h : Lib.compareBytes a b = r) (w : World) : Calls Tryz.prog 103 #[.string (ba a), .string (ba b)] w fun e w' => e = .returned (.int .i64 r) ∧ w' = w := by rw [← h]; exact cmpBytes_any a b w

theorem less_any {p q : Md} {w : World} (hg : Gd w) : Gives 139 #[modV p, modV q] w (.bool (ltM p q)) := by
  unfold Gives
  obtain ⟨p1, p2⟩ := p
  obtain ⟨q1, q2⟩ := q
  obtain ⟨r, hr⟩ : ∃ r, Lib.compareBytes p1 q1 = r := ⟨_, rfl⟩
  have b2 : Bel w.heap.size w ((w.alloc (.cells #[.string (ba p1), .string (ba p2)] 36)).alloc (.cells #[.string (ba q1), .string (ba q2)] 36)) := ((Bel.refl _ _).alloc (Nat.le_refl _) _).alloc (by simp) _
  by_cases h0 : r = 0
  · obtain ⟨s, hs⟩ : ∃ s, cmpV p2 q2 = s := ⟨_, rfl⟩
    have HV := hide (ltM_eq (p := (p1, p2)) (q := (q1, q2)) (h0 ▸ hr) hs)
    have HR := hide hr
    have HS := hide hs
    subst h0
    clear hr hs
    go_enter Tryz.func139, Tryz.ntmps139
    go_wp2_with (go_at_call 103; fail)
    refine (cmpBytes_is (unhide HR) _).mono ?_
    rintro e w1 ⟨rfl, hw⟩
    rw [hw]; clear hw w1
    go_wp2_with (go_at_call 184; fail)
    refine (cmp_is (unhide HS) (hg.below b2)).mono ?_
    rintro e w1 ⟨rfl, b3⟩
    have b3 := below_trans b2 b3
    go_wp2
    go_ret
    exact ⟨ret_bool (unhide HV).symm, b3⟩
  · have HV := hide (ltM_ne (p := (p1, p2)) (q := (q1, q2)) hr h0)
    have HR := hide hr
    clear hr
    go_enter Tryz.func139, Tryz.ntmps139
    go_wp2_with (go_at_call 103; fail)
    refine (cmpBytes_is (unhide HR) _).mono ?_
    rintro e w1 ⟨rfl, hw⟩
    rw [hw]; clear hw w1
    go_wp2
    go_ret
    exact ⟨ret_bool (unhide HV).symm, b2⟩

end Go.Proofs.YthcafeoamabkgaaGreatDoor
