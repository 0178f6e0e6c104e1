/-
  The reference's Less at modules: the contract.
-/
import Derived.Test.YthcafeoamabkgaaGreatDoorRefP
import Derived.Test.YthcafeoamabkgaaGreatDoorCmpX
import Derived.Test.YthcafeoamabkgaaGreatDoorLess
import Derived.BigQuiet
namespace Go.Proofs.YthcafeoamabkgaaGreatDoor
open Go.RowKit

theorem less_cmp : ∀ (a b : Str), Op.bytesLess a b = decide (Lib.compareBytes a b < 0)
  | [], [] => by simp [Op.bytesLess, Lib.compareBytes]
  | [], _ :: _ => by simp [Op.bytesLess, Lib.compareBytes]
  | _ :: _, [] => by simp [Op.bytesLess, Lib.compareBytes]
  | x :: a, y :: b => by
    have ih := less_cmp a b
    simp only [Op.bytesLess, Lib.compareBytes, ih]
    by_cases h1 : x < y
    · simp [h1]
    · by_cases h2 : y < x
      · have h3 : x ≠ y := fun e => by subst e; exact h1 h2
        simp [h1, h2, h3]
      · have h4 : ¬ x.toNat < y.toNat := fun h => h1 (UInt8.lt_iff_toNat_lt.2 h)
        have h5 : ¬ y.toNat < x.toNat := fun h => h2 (UInt8.lt_iff_toNat_lt.2 h)
        have h3 : x = y := UInt8.toNat_inj.1 (by omega)
        subst h3
        simp

theorem order_any' (m n : Nat) (w : World) : Calls Tryz.prog 199 #[.int .i64 (m : Int), .int .i64 (n : Int)] w fun e w' => e = .returned (.int .i64 (cmpNat m n)) ∧ w' = w := by
  by_cases h1 : m < n
  · have HV : Hid (cmpNat m n = -1) := by show cmpNat m n = -1; unfold cmpNat; rw [if_pos h1]
    have q1 : (m : Int) < (n : Int) := by omega
    go_enter Tryz.func199, Tryz.ntmps199
    go_wp2
    go_ret
    exact ⟨retv (by rw [unhide HV]; rfl), rfl⟩
  · by_cases h2 : n < m
    · have HV : Hid (cmpNat m n = 1) := by show cmpNat m n = 1; unfold cmpNat; rw [if_neg h1, if_pos h2]
      have q1 : ¬ (m : Int) < (n : Int) := by omega
      have q2 : (n : Int) < (m : Int) := by omega
      go_enter Tryz.func199, Tryz.ntmps199
      go_wp2
      go_ret
      exact ⟨retv (by rw [unhide HV]; rfl), rfl⟩
    · have HV : Hid (cmpNat m n = 0) := by show cmpNat m n = 0; unfold cmpNat; rw [if_neg h1, if_neg h2]
      have q1 : ¬ (m : Int) < (n : Int) := by omega
      have q2 : ¬ (n : Int) < (m : Int) := by omega
      go_enter Tryz.func199, Tryz.ntmps199
      go_wp2
      go_ret
      exact ⟨retv (by rw [unhide HV]; rfl), rfl⟩

theorem order_is {m n : Nat} {r : Int} (h : cmpNat m n = r) (w : World) : Calls Tryz.prog 199 #[.int .i64 (m : Int), .int .i64 (n : Int)] w fun e w' => e = .returned (.int .i64 r) ∧ w' = w := by rw [← h]; exact order_any' m n w

theorem texts_any (a b : Str) (w : World) : Calls Tryz.prog 198 #[.string (ba a), .string (ba b)] w fun e w' => e = .returned (.int .i64 (Lib.compareBytes a b)) ∧ w' = w := by
  have la := ba_list a
  have lb := ba_list b
  have hl := less_cmp a b
  rcases orders_bytes.three a b with h | h | h
  · have HV := hide h
    rw [h] at hl
    have q : Op.bytesLess a b = true := by rw [hl]; decide
    clear hl h
    go_enter Tryz.func198, Tryz.ntmps198
    go_wp2
    go_ret
    exact ⟨retv (by rw [unhide HV]; rfl), rfl⟩
  · have HV := hide h
    rw [h] at hl
    have q : Op.bytesLess a b = false := by rw [hl]; decide
    have q2 : (a == b) = true := by simpa using (orders_bytes.eq a b).1 h
    clear hl h
    go_enter Tryz.func198, Tryz.ntmps198
    go_wp2
    go_ret
    exact ⟨retv (by rw [unhide HV]; rfl), rfl⟩
  · have HV := hide h
    have q2 : (a == b) = false := by
      simp only [beq_eq_false_iff_ne]
      intro e
      have := (orders_bytes.eq a b).2 e
      omega
    rw [h] at hl
    have q : Op.bytesLess a b = false := by rw [hl]; decide
    clear hl h
    go_enter Tryz.func198, Tryz.ntmps198
    go_wp2
    go_ret
    exact ⟨retv (by rw [unhide HV]; rfl), rfl⟩

theorem sign_any (b : Bool) (w : World) : Calls Tryz.prog 200 #[.bool b] w fun e w' => e = .returned (.int .i64 (if b then 0 else 1)) ∧ w' = w := by
  cases b
  · go_enter Tryz.func200, Tryz.ntmps200
    go_wp2
    go_ret
    exact ⟨rfl, rfl⟩
  · go_enter Tryz.func200, Tryz.ntmps200
    go_wp2
    go_ret
    exact ⟨rfl, rfl⟩

theorem ids_any {a b : Str} (ha : a.length ≤ 4294967281) (hb : b.length ≤ 4294967281) (w : World) : Calls Tryz.prog 201 #[.string (ba a), .string (ba b)] w fun e w' => e = .returned (.int .i64 (cmpIds a b)) ∧ w' = w := by
  have sa := ba_size a
  have sb := ba_size b
  cases hda : digitsB a with
  | true =>
    cases hdb : digitsB b with
    | true =>
      by_cases hq : a.length = b.length
      · have HV : Hid (cmpIds a b = Lib.compareBytes a b) := by show cmpIds a b = _; unfold cmpIds; rw [hda, hdb, hq, orders_nat.self]; rfl
        have q : ((a.length : Int) != (b.length : Int)) = false := by simp; omega
        go_enter Tryz.func201, Tryz.ntmps201
        go_wp2_with (go_at_call 192; fail)
        refine (refDigits_is hda ha w).mono ?_
        rintro e w1 ⟨rfl, hw⟩
        rw [hw]; clear hw w1
        go_wp2_with (go_at_call 192; fail)
        refine (refDigits_is hdb hb w).mono ?_
        rintro e w1 ⟨rfl, hw⟩
        rw [hw]; clear hw w1
        clear hq
        go_wp2_with (go_at_call 198; fail)
        refine (texts_any a b w).mono ?_
        rintro e w1 ⟨rfl, hw⟩
        rw [hw]; clear hw w1
        go_wp2
        go_ret
        exact ⟨retv (by rw [unhide HV]; rfl), rfl⟩
      · have HV : Hid (cmpIds a b = cmpNat a.length b.length) := by
          show cmpIds a b = _; unfold cmpIds; rw [hda, hdb]
          show orI _ _ = _
          unfold orI
          rw [if_neg]
          intro e
          exact hq ((orders_nat.eq _ _).1 e)
        have q : ((a.length : Int) != (b.length : Int)) = true := by simp; omega
        go_enter Tryz.func201, Tryz.ntmps201
        go_wp2_with (go_at_call 192; fail)
        refine (refDigits_is hda ha w).mono ?_
        rintro e w1 ⟨rfl, hw⟩
        rw [hw]; clear hw w1
        go_wp2_with (go_at_call 192; fail)
        refine (refDigits_is hdb hb w).mono ?_
        rintro e w1 ⟨rfl, hw⟩
        rw [hw]; clear hw w1
        go_wp2_with (go_at_call 199; fail)
        refine (order_any' a.length b.length w).mono ?_
        rintro e w1 ⟨rfl, hw⟩
        rw [hw]; clear hw w1
        go_wp2
        go_ret
        exact ⟨retv (by rw [unhide HV]; rfl), rfl⟩
    | false =>
      have HV : Hid (cmpIds a b = -1) := by show cmpIds a b = _; unfold cmpIds; rw [hda, hdb]; rfl
      go_enter Tryz.func201, Tryz.ntmps201
      go_wp2_with (go_at_call 192; fail)
      refine (refDigits_is hda ha w).mono ?_
      rintro e w1 ⟨rfl, hw⟩
      rw [hw]; clear hw w1
      go_wp2_with (go_at_call 192; fail)
      refine (refDigits_is hdb hb w).mono ?_
      rintro e w1 ⟨rfl, hw⟩
      rw [hw]; clear hw w1
      go_wp2
      go_ret
      exact ⟨retv (by rw [unhide HV]; rfl), rfl⟩
  | false =>
    cases hdb : digitsB b with
    | true =>
      have HV : Hid (cmpIds a b = 1) := by show cmpIds a b = _; unfold cmpIds; rw [hda, hdb]; rfl
      go_enter Tryz.func201, Tryz.ntmps201
      go_wp2_with (go_at_call 192; fail)
      refine (refDigits_is hda ha w).mono ?_
      rintro e w1 ⟨rfl, hw⟩
      rw [hw]; clear hw w1
      go_wp2_with (go_at_call 192; fail)
      refine (refDigits_is hdb hb w).mono ?_
      rintro e w1 ⟨rfl, hw⟩
      rw [hw]; clear hw w1
      go_wp2
      go_ret
      exact ⟨retv (by rw [unhide HV]; rfl), rfl⟩
    | false =>
      have HV : Hid (cmpIds a b = Lib.compareBytes a b) := by show cmpIds a b = _; unfold cmpIds; rw [hda, hdb]; rfl
      go_enter Tryz.func201, Tryz.ntmps201
      go_wp2_with (go_at_call 192; fail)
      refine (refDigits_is hda ha w).mono ?_
      rintro e w1 ⟨rfl, hw⟩
      rw [hw]; clear hw w1
      go_wp2_with (go_at_call 192; fail)
      refine (refDigits_is hdb hb w).mono ?_
      rintro e w1 ⟨rfl, hw⟩
      rw [hw]; clear hw w1
      go_wp2_with (go_at_call 198; fail)
      refine (texts_any a b w).mono ?_
      rintro e w1 ⟨rfl, hw⟩
      rw [hw]; clear hw w1
      go_wp2
      go_ret
      exact ⟨retv (by rw [unhide HV]; rfl), rfl⟩

end Go.Proofs.YthcafeoamabkgaaGreatDoor

namespace Go.Proofs.YthcafeoamabkgaaGreatDoor
open Go.RowKit

theorem pres_list {p q : Str} (hp : p ≠ []) (hq : q ≠ []) : cmpPres p q = cmpList cmpIds (pieces 46 p) (pieces 46 q) := by
  unfold cmpPres
  by_cases e : p = q
  · subst e; rw [if_pos rfl, (orders_list orders_ids).self]
  · rw [if_neg e, if_neg hp, if_neg hq]

theorem refCmp_nn {a b : Str} (ha : parseV a = none) (hb : parseV b = none) (w : World) : Tells 158 #[.string (ba a), .string (ba b)] w (.int .i64 (cmpV a b)) := by
  unfold Tells
  have HV : Hid (cmpV a b = Lib.compareBytes a b) := by show cmpV a b = _; unfold cmpV; rw [ha, hb]
  go_enter Tryz.func158, Tryz.ntmps158
  go_wp2_with (go_at_call 193; fail)
  refine (refParts_none ha w).mono ?_
  rintro e w1 ⟨rfl, b1⟩
  go_wp2_with (go_at_call 193; fail)
  refine (refParts_none hb w1).mono ?_
  rintro e w2 ⟨rfl, b2⟩
  have b2 := low_trans b1 b2
  go_wp2_with (go_at_call 198; fail)
  refine (texts_any a b w2).mono ?_
  rintro e w3 ⟨rfl, hw⟩
  rw [hw]; clear hw w3
  go_wp2
  go_ret
  exact ⟨retv (by rw [unhide HV]; rfl), b2⟩

theorem refCmp_ns {a b : Str} {y : Ver} (ha : parseV a = none) (hb : parseV b = some y) (w : World) : Tells 158 #[.string (ba a), .string (ba b)] w (.int .i64 (cmpV a b)) := by
  unfold Tells
  have HV : Hid (cmpV a b = -1) := by show cmpV a b = _; unfold cmpV; rw [ha, hb]
  go_enter Tryz.func158, Tryz.ntmps158
  go_wp2_with (go_at_call 193; fail)
  refine (refParts_none ha w).mono ?_
  rintro e w1 ⟨rfl, b1⟩
  go_wp2_with (go_at_call 193; fail)
  refine (refParts_some hb w1).mono ?_
  rintro e w2 ⟨rfl, b2⟩
  have b2 := low_trans b1 b2
  go_wp2
  go_ret
  exact ⟨retv (by rw [unhide HV]; rfl), b2⟩

theorem refCmp_sn {a b : Str} {x : Ver} (ha : parseV a = some x) (hb : parseV b = none) (w : World) : Tells 158 #[.string (ba a), .string (ba b)] w (.int .i64 (cmpV a b)) := by
  unfold Tells
  have HV : Hid (cmpV a b = 1) := by show cmpV a b = _; unfold cmpV; rw [ha, hb]
  go_enter Tryz.func158, Tryz.ntmps158
  go_wp2_with (go_at_call 193; fail)
  refine (refParts_some ha w).mono ?_
  rintro e w1 ⟨rfl, b1⟩
  go_wp2_with (go_at_call 193; fail)
  refine (refParts_none hb w1).mono ?_
  rintro e w2 ⟨rfl, b2⟩
  have b2 := low_trans b1 b2
  go_wp2
  go_ret
  exact ⟨retv (by rw [unhide HV]; rfl), b2⟩

theorem nat_ne {m n : Nat} (h : m ≠ n) : ((m : Int) != (n : Int)) = true := by simp; omega
theorem cmp_ne {m n : Nat} (h : m ≠ n) : cmpNat m n ≠ 0 := fun e => h ((orders_nat.eq _ _).1 e)

theorem refCmp_a {a b : Str} {x y : Ver} (ha : parseV a = some x) (hb : parseV b = some y) (h : x.a ≠ y.a) (w : World) : Tells 158 #[.string (ba a), .string (ba b)] w (.int .i64 (cmpV a b)) := by
  unfold Tells
  have HV : Hid (cmpV a b = cmpNat x.a y.a) := by
    show cmpV a b = _; unfold cmpV; rw [ha, hb]
    show cmpVer x y = _
    unfold cmpVer
    rw [or_left (by rw [or_left (cmp_ne h)]; exact cmp_ne h), or_left (cmp_ne h)]
  have q := nat_ne h
  have HA := hide ha
  have HB := hide hb
  obtain ⟨xa, hxa⟩ : ∃ n, x.a = n := ⟨_, rfl⟩
  obtain ⟨ya, hya⟩ : ∃ n, y.a = n := ⟨_, rfl⟩
  have R1 := hide (refParts_some ha)
  have R2 := hide (refParts_some hb)
  rw [hxa] at q HV R1
  rw [hya] at q HV R2
  clear ha hb h HA HB hxa hya
  go_enter Tryz.func158, Tryz.ntmps158
  go_wp2_with (go_at_call 193; fail)
  refine ((unhide R1) w).mono ?_
  rintro e w1 ⟨rfl, b1⟩
  go_wp2_with (go_at_call 193; fail)
  refine ((unhide R2) w1).mono ?_
  rintro e w2 ⟨rfl, b2⟩
  have b2 := low_trans b1 b2
  go_wp2_with (go_at_call 199; fail)
  refine (order_any' xa ya w2).mono ?_
  rintro e w3 ⟨rfl, hw⟩
  rw [hw]; clear hw w3
  go_wp2
  go_ret
  exact ⟨retv (by rw [unhide HV]; rfl), b2⟩

theorem refCmp_b {a b : Str} {xa xb xc yb yc : Nat} {xp yp : Str} (ha : parseV a = some ⟨xa, xb, xc, xp⟩) (hb : parseV b = some ⟨xa, yb, yc, yp⟩) (h : xb ≠ yb) (w : World) : Tells 158 #[.string (ba a), .string (ba b)] w (.int .i64 (cmpV a b)) := by
  unfold Tells
  have HV : Hid (cmpV a b = cmpNat xb yb) := by
    show cmpV a b = _; unfold cmpV; rw [ha, hb]
    show cmpVer _ _ = _
    unfold cmpVer
    simp only [orders_nat.self]
    show orI (orI (cmpNat xb yb) _) _ = _
    rw [or_left (by rw [or_left (cmp_ne h)]; exact cmp_ne h), or_left (cmp_ne h)]
  have q := nat_ne h
  have R1 := hide (refParts_some ha)
  have R2 := hide (refParts_some hb)
  clear ha hb h
  go_enter Tryz.func158, Tryz.ntmps158
  go_wp2_with (go_at_call 193; fail)
  refine ((unhide R1) w).mono ?_
  rintro e w1 ⟨rfl, b1⟩
  go_wp2_with (go_at_call 193; fail)
  refine ((unhide R2) w1).mono ?_
  rintro e w2 ⟨rfl, b2⟩
  have b2 := low_trans b1 b2
  go_wp2_with (go_at_call 199; fail)
  refine (order_any' xb yb w2).mono ?_
  rintro e w3 ⟨rfl, hw⟩
  rw [hw]; clear hw w3
  go_wp2
  go_ret
  exact ⟨retv (by rw [unhide HV]; rfl), b2⟩

theorem refCmp_c {a b : Str} {xa xb xc yc : Nat} {xp yp : Str} (ha : parseV a = some ⟨xa, xb, xc, xp⟩) (hb : parseV b = some ⟨xa, xb, yc, yp⟩) (h : xc ≠ yc) (w : World) : Tells 158 #[.string (ba a), .string (ba b)] w (.int .i64 (cmpV a b)) := by
  unfold Tells
  have HV : Hid (cmpV a b = cmpNat xc yc) := by
    show cmpV a b = _; unfold cmpV; rw [ha, hb]
    show cmpVer _ _ = _
    unfold cmpVer
    simp only [orders_nat.self]
    show orI (cmpNat xc yc) _ = _
    rw [or_left (cmp_ne h)]
  have q := nat_ne h
  have R1 := hide (refParts_some ha)
  have R2 := hide (refParts_some hb)
  clear ha hb h
  go_enter Tryz.func158, Tryz.ntmps158
  go_wp2_with (go_at_call 193; fail)
  refine ((unhide R1) w).mono ?_
  rintro e w1 ⟨rfl, b1⟩
  go_wp2_with (go_at_call 193; fail)
  refine ((unhide R2) w1).mono ?_
  rintro e w2 ⟨rfl, b2⟩
  have b2 := low_trans b1 b2
  go_wp2_with (go_at_call 199; fail)
  refine (order_any' xc yc w2).mono ?_
  rintro e w3 ⟨rfl, hw⟩
  rw [hw]; clear hw w3
  go_wp2
  go_ret
  exact ⟨retv (by rw [unhide HV]; rfl), b2⟩

theorem ver_pre_eq {a b : Str} {xa xb xc : Nat} {xp yp : Str} (ha : parseV a = some ⟨xa, xb, xc, xp⟩) (hb : parseV b = some ⟨xa, xb, xc, yp⟩) : cmpV a b = cmpPres xp yp := by
  unfold cmpV; rw [ha, hb]
  show cmpVer _ _ = _
  unfold cmpVer
  simp only [orders_nat.self]
  rfl

end Go.Proofs.YthcafeoamabkgaaGreatDoor

namespace Go.Proofs.YthcafeoamabkgaaGreatDoor
open Go.RowKit

theorem refCmp_e0 {a b : Str} {xa xb xc : Nat} (ha : parseV a = some ⟨xa, xb, xc, []⟩) (hb : parseV b = some ⟨xa, xb, xc, []⟩) (w : World) : Tells 158 #[.string (ba a), .string (ba b)] w (.int .i64 (cmpV a b)) := by
  unfold Tells
  have HV : Hid (cmpV a b = 0) := (ver_pre_eq ha hb).trans (orders_pres.self [])
  have R1 := hide (refParts_some ha)
  have R2 := hide (refParts_some hb)
  have O1 : Hid (∀ w, Calls Tryz.prog 199 #[.int .i64 0, .int .i64 0] w fun e w' => e = .returned (.int .i64 0) ∧ w' = w) := fun w => order_is (m := 0) (n := 0) rfl w
  have S1 : Hid (∀ w, Calls Tryz.prog 200 #[.bool true] w fun e w' => e = .returned (.int .i64 0) ∧ w' = w) := fun w => sign_any true w
  have lx := ba_list []
  have sx := ba_size []
  clear ha hb
  go_enter Tryz.func158, Tryz.ntmps158
  go_wp2_with (go_at_call 193; fail)
  refine ((unhide R1) w).mono ?_
  rintro e w1 ⟨rfl, b1⟩
  go_wp2_with (go_at_call 193; fail)
  refine ((unhide R2) w1).mono ?_
  rintro e w2 ⟨rfl, b2⟩
  have b2 := low_trans b1 b2
  go_wp2_with (go_at_call 199; fail)
  refine ((unhide O1) w2).mono ?_
  rintro e w3 ⟨rfl, hw⟩
  rw [hw]; clear hw w3
  go_wp2_with (go_at_call 200; fail)
  refine ((unhide S1) w2).mono ?_
  rintro e w3 ⟨rfl, hw⟩
  rw [hw]; clear hw w3
  go_wp2
  go_ret
  exact ⟨retv (by rw [unhide HV]; rfl), b2⟩

theorem refCmp_e1 {a b : Str} {xa xb xc : Nat} {yp : Str} (ha : parseV a = some ⟨xa, xb, xc, []⟩) (hb : parseV b = some ⟨xa, xb, xc, yp⟩) (hy : yp ≠ []) (w : World) : Tells 158 #[.string (ba a), .string (ba b)] w (.int .i64 (cmpV a b)) := by
  unfold Tells
  have HV : Hid (cmpV a b = 1) := by
    show cmpV a b = 1
    rw [ver_pre_eq ha hb]
    unfold cmpPres
    rw [if_neg (fun e => hy e.symm), if_pos rfl]
  have R1 := hide (refParts_some ha)
  have R2 := hide (refParts_some hb)
  have hps : yp.length < 4294967281 := pre_small hb
  have hpos : 0 < yp.length := List.length_pos_iff.2 hy
  have O1 : Hid (∀ w, Calls Tryz.prog 199 #[.int .i64 (yp.length : Int), .int .i64 0] w fun e w' => e = .returned (.int .i64 1) ∧ w' = w) := fun w => order_is (m := yp.length) (n := 0) (by unfold cmpNat; rw [if_neg (by omega), if_pos hpos]) w
  have S1 : Hid (∀ w, Calls Tryz.prog 200 #[.bool false] w fun e w' => e = .returned (.int .i64 1) ∧ w' = w) := fun w => sign_any false w
  have lx := ba_list []
  have sx := ba_size []
  have ly := ba_list yp
  have sy := ba_size yp
  have qy : yp.isEmpty = false := by simpa using hy
  clear ha hb hy hpos
  go_enter Tryz.func158, Tryz.ntmps158
  go_wp2_with (go_at_call 193; fail)
  refine ((unhide R1) w).mono ?_
  rintro e w1 ⟨rfl, b1⟩
  go_wp2_with (go_at_call 193; fail)
  refine ((unhide R2) w1).mono ?_
  rintro e w2 ⟨rfl, b2⟩
  have b2 := low_trans b1 b2
  go_wp2_with (go_at_call 199; fail)
  refine ((unhide O1) w2).mono ?_
  rintro e w3 ⟨rfl, hw⟩
  rw [hw]; clear hw w3
  go_wp2_with (go_at_call 200; fail)
  refine ((unhide S1) w2).mono ?_
  rintro e w3 ⟨rfl, hw⟩
  rw [hw]; clear hw w3
  go_wp2
  go_ret
  exact ⟨retv (by rw [unhide HV]; rfl), b2⟩

theorem refCmp_e2 {a b : Str} {xa xb xc : Nat} {xp : Str} (ha : parseV a = some ⟨xa, xb, xc, xp⟩) (hb : parseV b = some ⟨xa, xb, xc, []⟩) (hx : xp ≠ []) (w : World) : Tells 158 #[.string (ba a), .string (ba b)] w (.int .i64 (cmpV a b)) := by
  unfold Tells
  have HV : Hid (cmpV a b = -1) := by
    show cmpV a b = -1
    rw [ver_pre_eq ha hb]
    unfold cmpPres
    rw [if_neg hx, if_neg hx, if_pos rfl]
  have R1 := hide (refParts_some ha)
  have R2 := hide (refParts_some hb)
  have hps : xp.length < 4294967281 := pre_small ha
  have hpos : 0 < xp.length := List.length_pos_iff.2 hx
  have O1 : Hid (∀ w, Calls Tryz.prog 199 #[.int .i64 0, .int .i64 (xp.length : Int)] w fun e w' => e = .returned (.int .i64 (-1)) ∧ w' = w) := fun w => order_is (m := 0) (n := xp.length) (by unfold cmpNat; rw [if_pos hpos]) w
  have S1 : Hid (∀ w, Calls Tryz.prog 200 #[.bool false] w fun e w' => e = .returned (.int .i64 1) ∧ w' = w) := fun w => sign_any false w
  have lx := ba_list []
  have sx := ba_size []
  have ly := ba_list xp
  have sy := ba_size xp
  have qy : xp.isEmpty = false := by simpa using hx
  clear ha hb hx hpos
  go_enter Tryz.func158, Tryz.ntmps158
  go_wp2_with (go_at_call 193; fail)
  refine ((unhide R1) w).mono ?_
  rintro e w1 ⟨rfl, b1⟩
  go_wp2_with (go_at_call 193; fail)
  refine ((unhide R2) w1).mono ?_
  rintro e w2 ⟨rfl, b2⟩
  have b2 := low_trans b1 b2
  go_wp2_with (go_at_call 199; fail)
  refine ((unhide O1) w2).mono ?_
  rintro e w3 ⟨rfl, hw⟩
  rw [hw]; clear hw w3
  go_wp2_with (go_at_call 200; fail)
  refine ((unhide S1) w2).mono ?_
  rintro e w3 ⟨rfl, hw⟩
  rw [hw]; clear hw w3
  go_wp2
  go_ret
  exact ⟨retv (by rw [unhide HV]; rfl), b2⟩

set_option maxHeartbeats 1000000 in
theorem refCmp_p {a b : Str} {xa xb xc : Nat} {xp yp : Str} (ha : parseV a = some ⟨xa, xb, xc, xp⟩) (hb : parseV b = some ⟨xa, xb, xc, yp⟩) (hx : xp ≠ []) (hy : yp ≠ []) (w : World) : Tells 158 #[.string (ba a), .string (ba b)] w (.int .i64 (cmpV a b)) := by
  unfold Tells
  have hps : xp.length < 4294967281 := pre_small ha
  have hqs : yp.length < 4294967281 := pre_small hb
  obtain ⟨l, hl⟩ : ∃ l, pieces 46 xp = l := ⟨_, rfl⟩
  obtain ⟨m, hm⟩ : ∃ m, pieces 46 yp = m := ⟨_, rfl⟩
  have HV : Hid (cmpV a b = cmpList cmpIds l m) := by
    show cmpV a b = _
    rw [ver_pre_eq ha hb, pres_list hx hy, hl, hm]
  have R1 := hide (refParts_some ha)
  have R2 := hide (refParts_some hb)
  obtain ⟨ll, lb⟩ := pieces_bound (c := 46) hps
  obtain ⟨ml, mb⟩ := pieces_bound (c := 46) hqs
  have C1 : Hid (∀ w, Calls Tryz.prog 44 #[.string (ba xp), .int .u8 46] w fun e w' => ∃ B cp, e = .returned (.slice (some ⟨B, 0, none⟩) l.length cp) ∧ Texts w' B l ∧ (B < w'.heap.size ∧ w.heap.size ≤ B) ∧ Below w.heap.size w w') := by
    intro w; have := refCut_any 46 hps w; rw [hl] at this; exact this
  have C2 : Hid (∀ w, Calls Tryz.prog 44 #[.string (ba yp), .int .u8 46] w fun e w' => ∃ B cp, e = .returned (.slice (some ⟨B, 0, none⟩) m.length cp) ∧ Texts w' B m ∧ (B < w'.heap.size ∧ w.heap.size ≤ B) ∧ Below w.heap.size w w') := by
    intro w; have := refCut_any 46 hqs w; rw [hm] at this; exact this
  rw [hl] at ll lb
  rw [hm] at ml mb
  have HLB := hide lb
  have HMB := hide mb
  have lx := ba_list xp
  have ly := ba_list yp
  have qx : xp.isEmpty = false := by simpa using hx
  have qy : yp.isEmpty = false := by simpa using hy
  clear ha hb hx hy hl hm lb mb
  go_enter Tryz.func158, Tryz.ntmps158
  go_wp2_with (go_at_call 193; fail)
  refine ((unhide R1) w).mono ?_
  rintro e w1 ⟨rfl, b1⟩
  go_wp2_with (go_at_call 193; fail)
  refine ((unhide R2) w1).mono ?_
  rintro e w2 ⟨rfl, b2⟩
  have b2 := low_trans b1 b2
  go_wp2_with (go_at_call 44; fail)
  refine ((unhide C1) w2).mono ?_
  rintro e w3 ⟨A, ca, rfl, tA, lA, b3⟩
  have b3 := low_trans b2 b3
  have HTA := hide tA
  clear tA
  go_wp2_with (go_at_call 44; fail)
  refine ((unhide C2) w3).mono ?_
  rintro e w4 ⟨B, cb, rfl, tB, lB, b4⟩
  have HTA2 := hide ((unhide HTA).low lA.1 b4)
  have hA4 : A < w4.heap.size := Nat.lt_of_lt_of_le lA.1 b4.size
  have hB4 : B < w4.heap.size := lB.1
  have B4 := hide (low_trans b3 b4)
  have HTB := hide tB
  clear tB lA lB HTA b1 b2 b3 b4 R1 R2 C1 C2 qx qy lx ly
  go_wp2
  go_loopw [17, 18] (fun i _ wr => ∃ k : Nat, k ≤ l.length ∧ k ≤ m.length ∧ i = .int .i64 k ∧ cmpList cmpIds l m = cmpList cmpIds (l.drop k) (m.drop k) ∧ Below w4.heap.size w4 wr) (fun i _ _ => l.length - (intOf i).toNat)
  case atStart => exact ⟨0, Nat.zero_le _, Nat.zero_le _, rfl, rfl, Below.refl _ _⟩
  case round =>
    obtain ⟨k, hk, hkm, rfl, hc, hbw⟩ := hrel
    have HC := hide hc
    have HBW := hide hbw
    by_cases h1 : k < l.length
    · by_cases h2 : k < m.length
      · obtain ⟨s, hs⟩ : ∃ s, l[k] = s := ⟨_, rfl⟩
        obtain ⟨t, ht⟩ : ∃ t, m[k] = t := ⟨_, rfl⟩
        have c1 : wr.cell? ⟨A, k, none⟩ = some (.string (ba s)) := by rw [← hs]; exact (hbw.cell (p := ⟨A, k, none⟩) hA4).trans ((unhide HTA2) k h1)
        have c2 : wr.cell? ⟨B, k, none⟩ = some (.string (ba t)) := by rw [← ht]; exact (hbw.cell (p := ⟨B, k, none⟩) hB4).trans ((unhide HTB) k h2)
        have HS : Hid (cmpList cmpIds l m = orI (cmpIds s t) (cmpList cmpIds (l.drop (k + 1)) (m.drop (k + 1)))) := by
          have := hc.trans (cmpList_step cmpIds h1 h2)
          rw [hs, ht] at this; exact this
        have bs : s.length ≤ 4294967281 := by rw [← hs]; exact (unhide HLB) _ (List.getElem_mem h1)
        have bt : t.length ≤ 4294967281 := by rw [← ht]; exact (unhide HMB) _ (List.getElem_mem h2)
        have HID := hide (fun w => ids_any bs bt w)
        have g1 : (k : Int) < (l.length : Int) := by omega
        have g2 : (k : Int) < (m.length : Int) := by omega
        clear hc hbw hs ht HC
        obtain ⟨r, hr⟩ : ∃ r, cmpIds s t = r := ⟨_, rfl⟩
        rw [hr] at HS HID
        clear hr
        by_cases hz : r = 0
        · subst hz
          have HS' : Hid (cmpList cmpIds l m = cmpList cmpIds (l.drop (k + 1)) (m.drop (k + 1))) := (unhide HS).trans rfl
          clear HS
          go_wp2
          go_quiet ((go_at_call 201; exact Calls.quiet_of_same ((unhide HID) _)))
          go_wp2
          go_roundw
          case rel => exact ⟨k + 1, h1, h2, by simp, unhide HS', low_drewN (unhide HBW) _⟩
          case measure => simp [intOf]; omega
        · have HS' : Hid (cmpList cmpIds l m = r) := (unhide HS).trans (or_left hz)
          clear HS
          go_wp2
          go_quiet ((go_at_call 201; exact Calls.quiet_of_same ((unhide HID) _)))
          go_wp2
          go_ret
          exact ⟨retv (by rw [unhide HV, unhide HS']; rfl), low_trans (unhide B4) (low_drewN (unhide HBW) _)⟩
      · have hke : k = m.length := by omega
        have g1 : (k : Int) < (l.length : Int) := by omega
        have g2 : ¬ (k : Int) < (m.length : Int) := by omega
        have HS : Hid (cmpList cmpIds l m = cmpNat l.length m.length) := by
          refine hc.trans ((cmpList_longer_at cmpIds h1 (by omega)).trans ?_)
          unfold cmpNat
          rw [if_neg (by omega), if_pos (by omega)]
        clear hc hbw HC
        go_wp2_with (go_at_call 199; fail)
        refine (order_any' l.length m.length _).mono ?_
        rintro e w5 ⟨rfl, hw⟩
        rw [hw]; clear hw w5
        go_wp2
        go_ret
        exact ⟨retv (by rw [unhide HV, unhide HS]; rfl), low_trans (unhide B4) (unhide HBW)⟩
    · have hke : k = l.length := by omega
      have g1 : ¬ (k : Int) < (l.length : Int) := by omega
      have HS : Hid (cmpList cmpIds l m = cmpNat l.length m.length) := by
        subst hke
        refine hc.trans ((cmpList_end cmpIds).trans ?_)
        unfold cmpNat
        by_cases h3 : l.length < m.length
        · rw [if_pos h3, if_pos h3]
        · rw [if_neg h3, if_neg h3, if_neg (by omega)]
      clear hc hbw HC
      go_wp2_with (go_at_call 199; fail)
      refine (order_any' l.length m.length _).mono ?_
      rintro e w5 ⟨rfl, hw⟩
      rw [hw]; clear hw w5
      go_wp2
      go_ret
      exact ⟨retv (by rw [unhide HV, unhide HS]; rfl), low_trans (unhide B4) (unhide HBW)⟩

theorem refCmp_any (a b : Str) (w : World) : Tells 158 #[.string (ba a), .string (ba b)] w (.int .i64 (cmpV a b)) := by
  cases ha : parseV a with
  | none =>
    cases hb : parseV b with
    | none => exact refCmp_nn ha hb w
    | some y => exact refCmp_ns ha hb w
  | some x =>
    cases hb : parseV b with
    | none => exact refCmp_sn ha hb w
    | some y =>
      by_cases h1 : x.a = y.a
      · obtain ⟨xa, xb, xc, xp⟩ := x
        obtain ⟨ya, yb, yc, yp⟩ := y
        simp only at h1
        subst h1
        by_cases h2 : xb = yb
        · subst h2
          by_cases h3 : xc = yc
          · subst h3
            by_cases h4 : xp = []
            · subst h4
              by_cases h5 : yp = []
              · subst h5; exact refCmp_e0 ha hb w
              · exact refCmp_e1 ha hb h5 w
            · by_cases h5 : yp = []
              · subst h5; exact refCmp_e2 ha hb h4 w
              · exact refCmp_p ha hb h4 h5 w
          · exact refCmp_c ha hb h3 w
        · exact refCmp_b ha hb h2 w
      · exact refCmp_a ha hb h1 w

theorem refCmp_is {a b : Str} {r : Int} (h : cmpV a b = r) (w : World) : Tells 158 #[.string (ba a), .string (ba b)] w (.int .i64 r) := by rw [← h]; exact refCmp_any a b w

end Go.Proofs.YthcafeoamabkgaaGreatDoor

namespace Go.Proofs.YthcafeoamabkgaaGreatDoor
open Go.RowKit


theorem refLess_any {p q : Md} (w : World) : Tells 118 #[modV p, modV q] w (.bool (ltM p q)) := by
  unfold Tells
  obtain ⟨p1, p2⟩ := p
  obtain ⟨q1, q2⟩ := q
  obtain ⟨r, hr⟩ : ∃ r, Lib.compareBytes p1 q1 = r := ⟨_, rfl⟩
  have b2 : Below w.heap.size w ((w.alloc (.cells #[.string (ba p1), .string (ba p2)] 36)).alloc (.cells #[.string (ba q1), .string (ba q2)] 36)) := ((Below.refl _ _).alloc (Nat.le_refl _) _).alloc (by simp) _
  have lp := ba_list p1
  have lq := ba_list q1
  by_cases h0 : r = 0
  · obtain ⟨s, hs⟩ : ∃ s, cmpV p2 q2 = s := ⟨_, rfl⟩
    have HV := hide (ltM_eq (p := (p1, p2)) (q := (q1, q2)) (h0 ▸ hr) hs)
    have HS := hide hs
    subst h0
    obtain rfl : p1 = q1 := (orders_bytes.eq p1 q1).1 hr
    clear hr hs lq
    go_enter Tryz.func118, Tryz.ntmps118
    go_wp2_with (go_at_call 158; fail)
    refine (refCmp_is (unhide HS) _).mono ?_
    rintro e w1 ⟨rfl, b3⟩
    have b3 := low_trans b2 b3
    go_wp2
    go_ret
    exact ⟨ret_bool (unhide HV).symm, b3⟩
  · have HV := hide (ltM_ne (p := (p1, p2)) (q := (q1, q2)) hr h0)
    have q1' : (p1 == q1) = false := by
      simp only [beq_eq_false_iff_ne]
      intro e
      exact h0 (hr.symm.trans ((orders_bytes.eq p1 q1).2 e))
    have HL : Hid (Op.bytesLess p1 q1 = decide (r < 0)) := by rw [← hr]; exact less_cmp p1 q1
    clear hr
    go_enter Tryz.func118, Tryz.ntmps118
    go_wp2
    go_ret
    exact ⟨ret_bool ((unhide HL).trans (unhide HV).symm), b2⟩

end Go.Proofs.YthcafeoamabkgaaGreatDoor
