/-
  The contracts of Or at two numbers, compareIdentifiers, CompareFunc, comparePres.
-/
import Derived.Test.YthcafeoamabkgaaGreatDoorVersC
import Derived.Deep.RegionHeld3
namespace Go.Proofs.YthcafeoamabkgaaGreatDoor
open Go.RowKit

theorem or_two {w : World} {B : Nat} {x y : Int} {cp : Nat} (h0 : w.cell? ⟨B, 0, none⟩ = some (.int .i64 x)) (h1 : w.cell? ⟨B, 1, none⟩ = some (.int .i64 y)) :
    Calls Tryz.prog 93 #[.slice (some ⟨B, 0, none⟩) 2 cp] w fun e w' => e = .returned (.int .i64 (orI x y)) ∧ w' = w := by
  by_cases hx : x = 0
  · by_cases hy : y = 0
    · have HV : Hid (orI x y = 0) := by show orI x y = 0; unfold orI; rw [if_pos hx, hy]
      subst hx hy
      go_enter Tryz.func93, Tryz.ntmps93
      go_wp2
      refine wp_loop_rounds 3 ?_
      rw [rounds_succ]
      go_wp2
      rw [rounds_succ]
      go_wp2
      rw [rounds_succ]
      go_wp2
      go_ret
      exact ⟨retv (by rw [unhide HV]; rfl), rfl⟩
    · have HV : Hid (orI x y = y) := by show orI x y = y; unfold orI; rw [if_pos hx]
      subst hx
      go_enter Tryz.func93, Tryz.ntmps93
      go_wp2
      refine wp_loop_rounds 2 ?_
      rw [rounds_succ]
      go_wp2
      rw [rounds_succ]
      go_wp2
      go_ret
      exact ⟨retv (by rw [unhide HV]; rfl), rfl⟩
  · have HV : Hid (orI x y = x) := by show orI x y = x; unfold orI; rw [if_neg hx]
    go_enter Tryz.func93, Tryz.ntmps93
    go_wp2
    refine wp_loop_rounds 1 ?_
    rw [rounds_succ]
    go_wp2
    go_ret
    exact ⟨retv (by rw [unhide HV]; rfl), rfl⟩

theorem compareInt_nat (a b : Nat) : Lib.compareInt (a : Int) (b : Int) = cmpNat a b := by
  unfold Lib.compareInt cmpNat
  by_cases h1 : a < b
  · rw [if_pos (by omega), if_pos h1]
  · rw [if_neg (by omega), if_neg h1]
    by_cases h2 : b < a
    · rw [if_pos (by omega), if_pos h2]
    · rw [if_neg (by omega), if_neg h2]
theorem cmpLen_any (a b : Nat) (w : World) : Calls Tryz.prog 95 #[.int .i64 (a : Int), .int .i64 (b : Int)] w fun e w' => e = .returned (.int .i64 (cmpNat a b)) ∧ w' = w := by
  rw [← compareInt_nat]; exact Tryz.cmp_Compare_int _ _ w
theorem cmpBytes_any (a b : Str) (w : World) : Calls Tryz.prog 103 #[.string (ba a), .string (ba b)] w fun e w' => e = .returned (.int .i64 (Lib.compareBytes a b)) ∧ w' = w := Tryz.strings_Compare (ba a) (ba b) w

theorem cmpIds_any {a b : Str} (ha : a.length ≤ 4294967281) (hb : b.length ≤ 4294967281) (w : World) : Gives 267 #[.string (ba a), .string (ba b)] w (.int .i64 (cmpIds a b)) := by
  unfold Gives
  have hsa : (ba a).size = a.length := ba_size a
  have hsb : (ba b).size = b.length := ba_size b
  cases hda : digitsB a with
  | true =>
    cases hdb : digitsB b with
    | true =>
      have HV : Hid (cmpIds a b = orI (cmpNat a.length b.length) (Lib.compareBytes a b)) := by show cmpIds a b = _; unfold cmpIds; rw [hda, hdb]; rfl
      have HA := hide hda
      have HB := hide hdb
      clear hda hdb
      go_enter Tryz.func267, Tryz.ntmps267
      go_wp2_with (go_at_call 216; refine (digits_is (unhide HA) ha _).mono ?_)
      rintro e w1 ⟨rfl, hw⟩
      subst hw
      go_wp2_with (go_at_call 216; refine (digits_is (unhide HB) hb _).mono ?_)
      rintro e w1 ⟨rfl, hw⟩
      subst hw
      go_wp2_with (first | (go_at_call 95; refine (cmpLen_any a.length b.length _).mono ?_; rintro e w1 ⟨rfl, hw⟩; subst hw) | (go_at_call 103; refine (cmpBytes_any a b _).mono ?_; rintro e w1 ⟨rfl, hw⟩; subst hw) | (go_at_call 93; fail))
      refine (or_two (x := cmpNat a.length b.length) (y := Lib.compareBytes a b) (by simp) (by simp)).mono ?_
      rintro e w1 ⟨rfl, rfl⟩
      go_wp2
      go_ret
      exact ⟨retv (by rw [unhide HV]; rfl), (Bel.refl _ _).alloc (Nat.le_refl _) _⟩
    | false =>
      have HV : Hid (cmpIds a b = -1) := by show cmpIds a b = _; unfold cmpIds; rw [hda, hdb]; rfl
      have HA := hide hda
      have HB := hide hdb
      clear hda hdb
      go_enter Tryz.func267, Tryz.ntmps267
      go_wp2_with (go_at_call 216; refine (digits_is (unhide HA) ha _).mono ?_)
      rintro e w1 ⟨rfl, hw⟩
      subst hw
      go_wp2_with (go_at_call 216; refine (digits_is (unhide HB) hb _).mono ?_)
      rintro e w1 ⟨rfl, hw⟩
      subst hw
      go_wp2
      go_ret
      exact ⟨retv (by rw [unhide HV]; rfl), Bel.refl _ _⟩
  | false =>
    cases hdb : digitsB b with
    | true =>
      have HV : Hid (cmpIds a b = 1) := by show cmpIds a b = _; unfold cmpIds; rw [hda, hdb]; rfl
      have HA := hide hda
      have HB := hide hdb
      clear hda hdb
      go_enter Tryz.func267, Tryz.ntmps267
      go_wp2_with (go_at_call 216; refine (digits_is (unhide HA) ha _).mono ?_)
      rintro e w1 ⟨rfl, hw⟩
      subst hw
      go_wp2_with (go_at_call 216; refine (digits_is (unhide HB) hb _).mono ?_)
      rintro e w1 ⟨rfl, hw⟩
      subst hw
      go_wp2
      go_ret
      exact ⟨retv (by rw [unhide HV]; rfl), Bel.refl _ _⟩
    | false =>
      have HV : Hid (cmpIds a b = Lib.compareBytes a b) := by show cmpIds a b = _; unfold cmpIds; rw [hda, hdb]; rfl
      have HA := hide hda
      have HB := hide hdb
      clear hda hdb
      go_enter Tryz.func267, Tryz.ntmps267
      go_wp2_with (go_at_call 216; refine (digits_is (unhide HA) ha _).mono ?_)
      rintro e w1 ⟨rfl, hw⟩
      subst hw
      go_wp2_with (go_at_call 216; refine (digits_is (unhide HB) hb _).mono ?_)
      rintro e w1 ⟨rfl, hw⟩
      subst hw
      go_wp2_with (first | (go_at_call 103; refine (cmpBytes_any a b _).mono ?_; rintro e w1 ⟨rfl, hw⟩; subst hw))
      go_ret
      exact ⟨retv (by rw [unhide HV]; rfl), Bel.refl _ _⟩

end Go.Proofs.YthcafeoamabkgaaGreatDoor
