/-
  The reference's identifier and Parts: the contracts.
-/
import Derived.Test.YthcafeoamabkgaaGreatDoorRefB
namespace Go.Proofs.YthcafeoamabkgaaGreatDoor
open Go.RowKit

theorem digits_ident {l : Str} (h : digitsB l = true) : l.all identB = true := by
  simp only [digitsB, Bool.and_eq_true] at h
  rw [List.all_eq_true] at *
  intro c hc
  rw [ident_parts, h.2 c hc]; rfl

set_option maxHeartbeats 1000000 in
theorem refIdent_any {l : Str} (hl : l.length ≤ 4294967281) (w : World) : Calls Tryz.prog 243 #[.string (ba l)] w fun e w' => e = .returned (.bool (validIdB l)) ∧ w' = w := by
  have hsz : (ba l).size = l.length := ba_size l
  have hli := ba_list l
  go_enter Tryz.func243, Tryz.ntmps243
  go_wp2
  go_loop [3] (fun i => ∃ k : Nat, k ≤ l.length ∧ i = .int .i64 k ∧ (l.take k).all identB = true) (fun i => l.length - (intOf i).toNat)
  case atStart => exact ⟨0, Nat.zero_le _, rfl, rfl⟩
  case round =>
    obtain ⟨k, hk, rfl, hall⟩ := hrel
    have HA := hide hall
    clear hall
    by_cases hlt : k < l.length
    · have hg := ba_get l k hlt
      have hip := ident_parts l[k]
      cases hd : digitB l[k] with
      | true =>
        have HF := hide (all_take8 (unhide HA) hlt (by rw [hip, hd]; rfl))
        have HD := hide hd
        clear hd hip HA
        go_wp2_with (first | (go_at_call 195; refine (asks_is (unhide HD) refDigit_asks _).mono ?_; rintro e w1 ⟨rfl, hw⟩; rw [hw]; clear hw w1))
        go_round
        case rel => exact ⟨k + 1, hlt, by simp, unhide HF⟩
        case measure => simp [intOf]; omega
      | false =>
        cases hlo : lowerB l[k] with
        | true =>
          have HF := hide (all_take8 (unhide HA) hlt (by rw [hip, hd, hlo]; rfl))
          have HD := hide hd
          have HL := hide hlo
          clear hd hlo hip HA
          go_wp2_with (first | (go_at_call 195; refine (asks_is (unhide HD) refDigit_asks _).mono ?_; rintro e w1 ⟨rfl, hw⟩; rw [hw]; clear hw w1) | (go_at_call 196; refine (asks_is (unhide HL) refLower_asks _).mono ?_; rintro e w1 ⟨rfl, hw⟩; rw [hw]; clear hw w1))
          go_round
          case rel => exact ⟨k + 1, hlt, by simp, unhide HF⟩
          case measure => simp [intOf]; omega
        | false =>
          cases hu : upperB l[k] with
          | true =>
            have HF := hide (all_take8 (unhide HA) hlt (by rw [hip, hd, hlo, hu]; rfl))
            have HD := hide hd
            have HL := hide hlo
            have HU := hide hu
            clear hd hlo hu hip HA
            go_wp2_with (first | (go_at_call 195; refine (asks_is (unhide HD) refDigit_asks _).mono ?_; rintro e w1 ⟨rfl, hw⟩; rw [hw]; clear hw w1) | (go_at_call 196; refine (asks_is (unhide HL) refLower_asks _).mono ?_; rintro e w1 ⟨rfl, hw⟩; rw [hw]; clear hw w1) | (go_at_call 197; refine (asks_is (unhide HU) refUpper_asks _).mono ?_; rintro e w1 ⟨rfl, hw⟩; rw [hw]; clear hw w1))
            go_round
            case rel => exact ⟨k + 1, hlt, by simp, unhide HF⟩
            case measure => simp [intOf]; omega
          | false =>
            cases h45 : ((l[k].toNat : Int) == 45) with
            | true =>
              have HF := hide (all_take8 (unhide HA) hlt (by rw [hip, hd, hlo, hu, h45]; rfl))
              have q : ((l[k].toNat : Int) != 45) = false := by rw [bne, h45]; rfl
              have HD := hide hd
              have HL := hide hlo
              have HU := hide hu
              clear hd hlo hu hip HA h45
              go_wp2_with (first | (go_at_call 195; refine (asks_is (unhide HD) refDigit_asks _).mono ?_; rintro e w1 ⟨rfl, hw⟩; rw [hw]; clear hw w1) | (go_at_call 196; refine (asks_is (unhide HL) refLower_asks _).mono ?_; rintro e w1 ⟨rfl, hw⟩; rw [hw]; clear hw w1) | (go_at_call 197; refine (asks_is (unhide HU) refUpper_asks _).mono ?_; rintro e w1 ⟨rfl, hw⟩; rw [hw]; clear hw w1))
              go_round
              case rel => exact ⟨k + 1, hlt, by simp, unhide HF⟩
              case measure => simp [intOf]; omega
            | false =>
              have HV : Hid (validIdB l = false) := by
                show validIdB l = false
                have hn : l.all identB = false := all_no8 hlt (by rw [hip, hd, hlo, hu, h45]; rfl)
                unfold validIdB
                cases hg : digitsB l with
                | true => rw [digits_ident hg] at hn; cases hn
                | false => rw [hn]; simp
              have q : ((l[k].toNat : Int) != 45) = true := by rw [bne, h45]; rfl
              have HD := hide hd
              have HL := hide hlo
              have HU := hide hu
              clear hd hlo hu hip HA h45
              go_wp2_with (first | (go_at_call 195; refine (asks_is (unhide HD) refDigit_asks _).mono ?_; rintro e w1 ⟨rfl, hw⟩; rw [hw]; clear hw w1) | (go_at_call 196; refine (asks_is (unhide HL) refLower_asks _).mono ?_; rintro e w1 ⟨rfl, hw⟩; rw [hw]; clear hw w1) | (go_at_call 197; refine (asks_is (unhide HU) refUpper_asks _).mono ?_; rintro e w1 ⟨rfl, hw⟩; rw [hw]; clear hw w1))
              go_ret
              exact ⟨ret_bool (unhide HV).symm, rfl⟩
    · have hke : k = l.length := by omega
      subst hke
      have HAL : Hid (l.all identB = true) := by
        have := unhide HA
        rw [List.take_length] at this
        exact this
      clear HA
      cases he : l.isEmpty with
      | true =>
        have HV : Hid (validIdB l = false) := by
          show validIdB l = false
          have : l = [] := by simpa using he
          rw [this]; decide
        go_wp2
        go_ret
        exact ⟨ret_bool (unhide HV).symm, rfl⟩
      | false =>
        have h0 : 0 < l.length := by
          cases l with
          | nil => simp at he
          | cons a t => simp
        have hg0 := ba_get l 0 h0
        cases hgd : digitsB l with
        | false =>
          have HV : Hid (validIdB l = true) := by show validIdB l = true; unfold validIdB; rw [hgd, he, unhide HAL]; rfl
          have HG := hide hgd
          clear hgd
          go_wp2_with (first | (go_at_call 192; refine (refDigits_is (unhide HG) hl _).mono ?_; rintro e w1 ⟨rfl, hw⟩; rw [hw]; clear hw w1))
          go_ret
          exact ⟨ret_bool (unhide HV).symm, rfl⟩
        | true =>
          have hz := zero_form h0
          cases hq : (l == [48]) with
          | true =>
            have HV : Hid (validIdB l = true) := by show validIdB l = true; unfold validIdB; rw [hgd, hz, hq]; rfl
            have HG := hide hgd
            clear hgd hz
            go_wp2_with (first | (go_at_call 192; refine (refDigits_is (unhide HG) hl _).mono ?_; rintro e w1 ⟨rfl, hw⟩; rw [hw]; clear hw w1))
            go_ret
            exact ⟨ret_bool (unhide HV).symm, rfl⟩
          | false =>
            have HV : Hid (validIdB l = ((l[0].toNat : Int) != 48)) := by show validIdB l = _; unfold validIdB; rw [hgd, hz, hq]; simp [bne]
            have HG := hide hgd
            clear hgd hz
            go_wp2_with (first | (go_at_call 192; refine (refDigits_is (unhide HG) hl _).mono ?_; rintro e w1 ⟨rfl, hw⟩; rw [hw]; clear hw w1))
            go_ret
            exact ⟨ret_bool (unhide HV).symm, rfl⟩
theorem refIdent_is {l : Str} {b : Bool} (h : validIdB l = b) (hl : l.length ≤ 4294967281) (w : World) : Calls Tryz.prog 243 #[.string (ba l)] w fun e w' => e = .returned (.bool b) ∧ w' = w := by rw [← h]; exact refIdent_any hl w

end Go.Proofs.YthcafeoamabkgaaGreatDoor
