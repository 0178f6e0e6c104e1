/-
  The reference's Compare is the order of versions.
-/
import Derived.Test.YthcafeoamabkgaaGreatDoorRefM
import Derived.Test.YthcafeoamabkgaaGreatDoorRefE
import Derived.Test.YthcafeoamabkgaaGreatDoorLess
namespace Go.Proofs.YthcafeoamabkgaaGreatDoor
open Go.RowKit

theorem pres_list {p q : Str} (hp : p ≠ []) (hq : q ≠ []) : cmpPres p q = cmpList cmpIds (pieces 46 p) (pieces 46 q) := by
  unfold cmpPres
  by_cases e : p = q
  · subst e; rw [if_pos rfl, (orders_list orders_ids).self]
  · rw [if_neg e, if_neg hp, if_neg hq]

theorem refCmp_nn {a b : Str} (ha : parseV a = none) (hb : parseV b = none) (w : World) : Tells 158 #[.string (ba a), .string (ba b)] w (.int .i64 (cmpV a b)) := by
  unfold Tells
  have HV : Hid (cmpV a b = Lib.compareBytes a b) := by show cmpV a b = _; unfold cmpV; rw [ha, hb]
  go_enter Tryz.func158, Tryz.ntmps158
  go_wp2_with (go_at_call 193; fail)
  refine (refParts_none ha w).mono ?_
  rintro e w1 ⟨rfl, b1⟩
  go_wp2_with (go_at_call 193; fail)
  refine (refParts_none hb w1).mono ?_
  rintro e w2 ⟨rfl, b2⟩
  have b2 := low_trans b1 b2
  go_wp2_with (go_at_call 198; fail)
  refine (texts_any a b w2).mono ?_
  rintro e w3 ⟨rfl, hw⟩
  rw [hw]; clear hw w3
  go_wp2
  go_ret
  exact ⟨retv (by rw [unhide HV]; rfl), b2⟩

theorem refCmp_ns {a b : Str} {y : Ver} (ha : parseV a = none) (hb : parseV b = some y) (w : World) : Tells 158 #[.string (ba a), .string (ba b)] w (.int .i64 (cmpV a b)) := by
  unfold Tells
  have HV : Hid (cmpV a b = -1) := by show cmpV a b = _; unfold cmpV; rw [ha, hb]
  go_enter Tryz.func158, Tryz.ntmps158
  go_wp2_with (go_at_call 193; fail)
  refine (refParts_none ha w).mono ?_
  rintro e w1 ⟨rfl, b1⟩
  go_wp2_with (go_at_call 193; fail)
  refine (refParts_some hb w1).mono ?_
  rintro e w2 ⟨rfl, b2⟩
  have b2 := low_trans b1 b2
  go_wp2
  go_ret
  exact ⟨retv (by rw [unhide HV]; rfl), b2⟩

theorem refCmp_sn {a b : Str} {x : Ver} (ha : parseV a = some x) (hb : parseV b = none) (w : World) : Tells 158 #[.string (ba a), .string (ba b)] w (.int .i64 (cmpV a b)) := by
  unfold Tells
  have HV : Hid (cmpV a b = 1) := by show cmpV a b = _; unfold cmpV; rw [ha, hb]
  go_enter Tryz.func158, Tryz.ntmps158
  go_wp2_with (go_at_call 193; fail)
  refine (refParts_some ha w).mono ?_
  rintro e w1 ⟨rfl, b1⟩
  go_wp2_with (go_at_call 193; fail)
  refine (refParts_none hb w1).mono ?_
  rintro e w2 ⟨rfl, b2⟩
  have b2 := low_trans b1 b2
  go_wp2
  go_ret
  exact ⟨retv (by rw [unhide HV]; rfl), b2⟩

theorem nat_ne {m n : Nat} (h : m ≠ n) : ((m : Int) != (n : Int)) = true := by simp; omega
theorem cmp_ne {m n : Nat} (h : m ≠ n) : cmpNat m n ≠ 0 := fun e => h ((orders_nat.eq _ _).1 e)

theorem refCmp_a {a b : Str} {x y : Ver} (ha : parseV a = some x) (hb : parseV b = some y) (h : x.a ≠ y.a) (w : World) : Tells 158 #[.string (ba a), .string (ba b)] w (.int .i64 (cmpV a b)) := by
  unfold Tells
  have HV : Hid (cmpV a b = cmpNat x.a y.a) := by
    show cmpV a b = _; unfold cmpV; rw [ha, hb]
    show cmpVer x y = _
    unfold cmpVer
    rw [or_left (by rw [or_left (cmp_ne h)]; exact cmp_ne h), or_left (cmp_ne h)]
  have q := nat_ne h
  have HA := hide ha
  have HB := hide hb
  obtain ⟨xa, hxa⟩ : ∃ n, x.a = n := ⟨_, rfl⟩
  obtain ⟨ya, hya⟩ : ∃ n, y.a = n := ⟨_, rfl⟩
  have R1 := hide (refParts_some ha)
  have R2 := hide (refParts_some hb)
  rw [hxa] at q HV R1
  rw [hya] at q HV R2
  clear ha hb h HA HB hxa hya
  go_enter Tryz.func158, Tryz.ntmps158
  go_wp2_with (go_at_call 193; fail)
  refine ((unhide R1) w).mono ?_
  rintro e w1 ⟨rfl, b1⟩
  go_wp2_with (go_at_call 193; fail)
  refine ((unhide R2) w1).mono ?_
  rintro e w2 ⟨rfl, b2⟩
  have b2 := low_trans b1 b2
  go_wp2_with (go_at_call 199; fail)
  refine (order_any' xa ya w2).mono ?_
  rintro e w3 ⟨rfl, hw⟩
  rw [hw]; clear hw w3
  go_wp2
  go_ret
  exact ⟨retv (by rw [unhide HV]; rfl), b2⟩

theorem refCmp_b {a b : Str} {xa xb xc yb yc : Nat} {xp yp : Str} (ha : parseV a = some ⟨xa, xb, xc, xp⟩) (hb : parseV b = some ⟨xa, yb, yc, yp⟩) (h : xb ≠ yb) (w : World) : Tells 158 #[.string (ba a), .string (ba b)] w (.int .i64 (cmpV a b)) := by
  unfold Tells
  have HV : Hid (cmpV a b = cmpNat xb yb) := by
    show cmpV a b = _; unfold cmpV; rw [ha, hb]
    show cmpVer _ _ = _
    unfold cmpVer
    simp only [orders_nat.self]
    show orI (orI (cmpNat xb yb) _) _ = _
    rw [or_left (by rw [or_left (cmp_ne h)]; exact cmp_ne h), or_left (cmp_ne h)]
  have q := nat_ne h
  have R1 := hide (refParts_some ha)
  have R2 := hide (refParts_some hb)
  clear ha hb h
  go_enter Tryz.func158, Tryz.ntmps158
  go_wp2_with (go_at_call 193; fail)
  refine ((unhide R1) w).mono ?_
  rintro e w1 ⟨rfl, b1⟩
  go_wp2_with (go_at_call 193; fail)
  refine ((unhide R2) w1).mono ?_
  rintro e w2 ⟨rfl, b2⟩
  have b2 := low_trans b1 b2
  go_wp2_with (go_at_call 199; fail)
  refine (order_any' xb yb w2).mono ?_
  rintro e w3 ⟨rfl, hw⟩
  rw [hw]; clear hw w3
  go_wp2
  go_ret
  exact ⟨retv (by rw [unhide HV]; rfl), b2⟩

theorem refCmp_c {a b : Str} {xa xb xc yc : Nat} {xp yp : Str} (ha : parseV a = some ⟨xa, xb, xc, xp⟩) (hb : parseV b = some ⟨xa, xb, yc, yp⟩) (h : xc ≠ yc) (w : World) : Tells 158 #[.string (ba a), .string (ba b)] w (.int .i64 (cmpV a b)) := by
  unfold Tells
  have HV : Hid (cmpV a b = cmpNat xc yc) := by
    show cmpV a b = _; unfold cmpV; rw [ha, hb]
    show cmpVer _ _ = _
    unfold cmpVer
    simp only [orders_nat.self]
    show orI (cmpNat xc yc) _ = _
    rw [or_left (cmp_ne h)]
  have q := nat_ne h
  have R1 := hide (refParts_some ha)
  have R2 := hide (refParts_some hb)
  clear ha hb h
  go_enter Tryz.func158, Tryz.ntmps158
  go_wp2_with (go_at_call 193; fail)
  refine ((unhide R1) w).mono ?_
  rintro e w1 ⟨rfl, b1⟩
  go_wp2_with (go_at_call 193; fail)
  refine ((unhide R2) w1).mono ?_
  rintro e w2 ⟨rfl, b2⟩
  have b2 := low_trans b1 b2
  go_wp2_with (go_at_call 199; fail)
  refine (order_any' xc yc w2).mono ?_
  rintro e w3 ⟨rfl, hw⟩
  rw [hw]; clear hw w3
  go_wp2
  go_ret
  exact ⟨retv (by rw [unhide HV]; rfl), b2⟩

theorem ver_pre_eq {a b : Str} {xa xb xc : Nat} {xp yp : Str} (ha : parseV a = some ⟨xa, xb, xc, xp⟩) (hb : parseV b = some ⟨xa, xb, xc, yp⟩) : cmpV a b = cmpPres xp yp := by
  unfold cmpV; rw [ha, hb]
  show cmpVer _ _ = _
  unfold cmpVer
  simp only [orders_nat.self]
  rfl

end Go.Proofs.YthcafeoamabkgaaGreatDoor
