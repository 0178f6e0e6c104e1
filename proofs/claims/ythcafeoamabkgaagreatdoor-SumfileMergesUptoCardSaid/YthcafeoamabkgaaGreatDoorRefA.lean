/-
  The reference's digits, numbers and identifiers: the contracts.
-/
import Derived.Test.YthcafeoamabkgaaGreatDoorRefZ
namespace Go.Proofs.YthcafeoamabkgaaGreatDoor
open Go.RowKit

theorem refDigit_asks : Asks 195 digitB := by
  intro c w
  go_enter Tryz.func195, Tryz.ntmps195
  go_wp2
  all_goals
    go_ret
    refine ⟨ret_bool ?_, rfl⟩
    rw [Bool.eq_iff_iff]
    first | (simp_all [digitB]; done) | (simp_all [digitB]; omega)

theorem refDigits_any {l : Str} (hl : l.length ≤ 4294967281) (w : World) : Calls Tryz.prog 192 #[.string (ba l)] w fun e w' => e = .returned (.bool (digitsB l)) ∧ w' = w := by
  have hsz : (ba l).size = l.length := ba_size l
  have hli := ba_list l
  go_enter Tryz.func192, Tryz.ntmps192
  go_wp2
  go_loop [3] (fun i => ∃ k : Nat, k ≤ l.length ∧ i = .int .i64 k ∧ (l.take k).all digitB = true) (fun i => l.length - (intOf i).toNat)
  case atStart => exact ⟨0, Nat.zero_le _, rfl, rfl⟩
  case round =>
    obtain ⟨k, hk, rfl, hall⟩ := hrel
    have HA := hide hall
    clear hall
    by_cases hlt : k < l.length
    · have hg := ba_get l k hlt
      cases hp : digitB l[k] with
      | false =>
        have HV : Hid (digitsB l = false) := by show digitsB l = false; unfold digitsB; rw [all_no8 hlt hp]; simp
        have HP := hide hp
        clear hp
        go_wp2_with (go_at_call 195; refine (asks_is (unhide HP) refDigit_asks _).mono ?_; rintro e w1 ⟨rfl, hw⟩; rw [hw]; clear hw w1)
        go_ret
        exact ⟨ret_bool (unhide HV).symm, rfl⟩
      | true =>
        have HF := hide (all_take8 (unhide HA) hlt hp)
        have HP := hide hp
        clear HA hp
        go_wp2_with (go_at_call 195; refine (asks_is (unhide HP) refDigit_asks _).mono ?_; rintro e w1 ⟨rfl, hw⟩; rw [hw]; clear hw w1)
        go_round
        case rel => exact ⟨k + 1, hlt, by simp, unhide HF⟩
        case measure => simp [intOf]; omega
    · have hke : k = l.length := by omega
      subst hke
      have HV : Hid (digitsB l = !l.isEmpty) := by
        have := unhide HA
        rw [List.take_length] at this
        show digitsB l = _
        unfold digitsB; rw [this]; simp
      go_wp2
      go_ret
      exact ⟨ret_bool (unhide HV).symm, rfl⟩
theorem refDigits_is {l : Str} {b : Bool} (h : digitsB l = b) (hl : l.length ≤ 4294967281) (w : World) : Calls Tryz.prog 192 #[.string (ba l)] w fun e w' => e = .returned (.bool b) ∧ w' = w := by rw [← h]; exact refDigits_any hl w

theorem digits_cons {l : Str} (h : digitsB l = true) : 0 < l.length := by
  simp only [digitsB, Bool.and_eq_true, Bool.not_eq_true', List.isEmpty_eq_false_iff] at h
  exact List.length_pos_iff.2 h.1
theorem zero_form {l : Str} (h : 0 < l.length) : zeroAheadB l = (!(l == [48]) && ((l[0].toNat : Int) == 48)) := by
  unfold zeroAheadB
  cases l with
  | nil => simp at h
  | cons a t =>
    have e : ((a.toNat : Int) == 48) = decide (a = 48) := by
      rw [Bool.eq_iff_iff]; simp only [beq_iff_eq, decide_eq_true_eq]
      constructor
      · intro h; apply UInt8.toNat_inj.1; have : (48 : UInt8).toNat = 48 := rfl; omega
      · rintro rfl; rfl
    simp only [List.getD_cons_zero, List.getElem_cons_zero, e, List.length_cons]
    cases t with
    | nil => by_cases ha : a = 48 <;> simp [ha]
    | cons b t => by_cases ha : a = 48 <;> simp [ha]

theorem refNumber_any {l : Str} (hl : l.length ≤ 4294967281) (w : World) : Calls Tryz.prog 241 #[.string (ba l)] w fun e w' => e = .returned (.bool (numOk l)) ∧ w' = w := by
  have hsz : (ba l).size = l.length := ba_size l
  have hli := ba_list l
  cases hd : digitsB l with
  | false =>
    have HV : Hid (numOk l = false) := by show numOk l = false; unfold numOk; rw [hd]; simp
    have HD := hide hd
    clear hd
    go_enter Tryz.func241, Tryz.ntmps241
    go_wp2_with (go_at_call 192; refine (refDigits_is (unhide HD) hl _).mono ?_; rintro e w1 ⟨rfl, hw⟩; rw [hw]; clear hw w1)
    go_ret
    exact ⟨ret_bool (unhide HV).symm, rfl⟩
  | true =>
    have h0 := digits_cons hd
    have hg := ba_get l 0 h0
    by_cases h9 : l.length ≤ 9
    · have hz := zero_form h0
      have h9i : (l.length : Int) ≤ 9 := by omega
      have h9b : decide ((l.length : Int) ≤ 9) = true := by simpa using h9i
      cases hq : (l == [48]) with
      | true =>
        have HV : Hid (numOk l = true) := by show numOk l = true; unfold numOk; rw [hd, hz, hq]; simp [h9]
        have HD := hide hd
        clear hd hz
        go_enter Tryz.func241, Tryz.ntmps241
        go_wp2_with (go_at_call 192; refine (refDigits_is (unhide HD) hl _).mono ?_; rintro e w1 ⟨rfl, hw⟩; rw [hw]; clear hw w1)
        go_ret
        exact ⟨ret_bool (unhide HV).symm, rfl⟩
      | false =>
        have HV : Hid (numOk l = ((l[0].toNat : Int) != 48)) := by show numOk l = _; unfold numOk; rw [hd, hz, hq]; simp [h9, bne]
        have HD := hide hd
        clear hd hz
        go_enter Tryz.func241, Tryz.ntmps241
        go_wp2_with (go_at_call 192; refine (refDigits_is (unhide HD) hl _).mono ?_; rintro e w1 ⟨rfl, hw⟩; rw [hw]; clear hw w1)
        go_ret
        exact ⟨ret_bool (unhide HV).symm, rfl⟩
    · have HV : Hid (numOk l = false) := by show numOk l = false; unfold numOk; simp [h9]
      have h9b : decide ((l.length : Int) ≤ 9) = false := by simp; omega
      have HD := hide hd
      clear hd h9
      go_enter Tryz.func241, Tryz.ntmps241
      go_wp2_with (go_at_call 192; refine (refDigits_is (unhide HD) hl _).mono ?_; rintro e w1 ⟨rfl, hw⟩; rw [hw]; clear hw w1)
      go_ret
      exact ⟨ret_bool (unhide HV).symm, rfl⟩
theorem refNumber_is {l : Str} {b : Bool} (h : numOk l = b) (hl : l.length ≤ 4294967281) (w : World) : Calls Tryz.prog 241 #[.string (ba l)] w fun e w' => e = .returned (.bool b) ∧ w' = w := by rw [← h]; exact refNumber_any hl w

end Go.Proofs.YthcafeoamabkgaaGreatDoor
