/-
  The reference's element: the contract.
-/
import Derived.Test.YtcmafidnaojkiaaGreatDoorRefG
import Derived.Test.YtcmafidnaojkiaaGreatDoorPathB
import Derived.Test.YtcmafidnaojkiaaGreatDoorRefEsc
namespace Go.Proofs.YtcmafidnaojkiaaGreatDoor
open Go.RowKit

theorem eqI (c : UInt8) (k : Nat) : ((c.toNat : Int) == (k : Int)) = decide (c.toNat = k) := eqN c k

theorem path_parts (c : UInt8) : pathB c = (digitB c || lowerB c || upperB c || ((c.toNat : Int) == 45) || ((c.toNat : Int) == 46) || ((c.toNat : Int) == 95) || ((c.toNat : Int) == 126) || ((c.toNat : Int) == (46 : UInt8).toNat)) := by
  have e1 : ((c.toNat : Int) == 45) = decide (c.toNat = 45) := eqI c 45
  have e2 : ((c.toNat : Int) == 46) = decide (c.toNat = 46) := eqI c 46
  have e3 : ((c.toNat : Int) == 95) = decide (c.toNat = 95) := eqI c 95
  have e4 : ((c.toNat : Int) == 126) = decide (c.toNat = 126) := eqI c 126
  have e5 : ((c.toNat : Int) == (46 : UInt8).toNat) = decide (c.toNat = 46) := e2
  rw [e1, e2, e3, e4, e5]
  unfold pathB hostB
  cases digitB c <;> cases lowerB c <;> cases upperB c <;> cases decide (c.toNat = 45) <;> cases decide (c.toNat = 46) <;> cases decide (c.toNat = 95) <;> cases decide (c.toNat = 126) <;> rfl

theorem import_parts (c : UInt8) : importB c = (digitB c || lowerB c || upperB c || ((c.toNat : Int) == 45) || ((c.toNat : Int) == 46) || ((c.toNat : Int) == 95) || ((c.toNat : Int) == 126) || ((c.toNat : Int) == (43 : UInt8).toNat)) := by
  have e1 : ((c.toNat : Int) == 45) = decide (c.toNat = 45) := eqI c 45
  have e2 : ((c.toNat : Int) == 46) = decide (c.toNat = 46) := eqI c 46
  have e3 : ((c.toNat : Int) == 95) = decide (c.toNat = 95) := eqI c 95
  have e4 : ((c.toNat : Int) == 126) = decide (c.toNat = 126) := eqI c 126
  have e6 : ((c.toNat : Int) == 43) = decide (c.toNat = 43) := eqI c 43
  have e5 : ((c.toNat : Int) == (43 : UInt8).toNat) = decide (c.toNat = 43) := e6
  rw [e1, e2, e3, e4, e5]
  unfold importB pathB hostB
  cases digitB c <;> cases lowerB c <;> cases upperB c <;> cases decide (c.toNat = 45) <;> cases decide (c.toNat = 46) <;> cases decide (c.toNat = 95) <;> cases decide (c.toNat = 126) <;> cases decide (c.toNat = 43) <;> rfl

theorem u8_eq (a : UInt8) (b : UInt8) : (a == b) = ((a.toNat : Int) == (b.toNat : Int)) := by
  rw [Bool.eq_iff_iff]
  simp only [beq_iff_eq]
  constructor
  · rintro rfl; rfl
  · intro h; exact UInt8.toNat_inj.mp (by omega)

theorem prefix_at (c : UInt8) {l : Str} (h : 0 < l.length) : Lib.hasPrefix l [c] = ((l[0].toNat : Int) == (c.toNat : Int)) := by
  cases l with
  | nil => simp at h
  | cons a t =>
    rw [← u8_eq]
    simp [Lib.hasPrefix, List.isPrefixOf]
    rw [Bool.eq_iff_iff]; simp; exact eq_comm

theorem suffix_at (c : UInt8) {l : Str} {n : Nat} (h : l.length = n + 1) : Lib.hasSuffix l [c] = ((l[n].toNat : Int) == (c.toNat : Int)) := by
  rw [← u8_eq, ← Lib.hasSuffix_of_drop]
  have e : l.drop (l.length - [c].length) = [l[n]] := by
    have e0 : l.length - [c].length = n := by rw [h]; rfl
    rw [e0, List.drop_eq_getElem_cons (by omega), List.drop_of_length_le (by omega)]
  rw [e]
  simp [h]

theorem elem_of {p : UInt8 → Bool} {l : Str} {n : Nat} (h : l.length = n + 1) : elemB p l = (l.all p && !((l[0].toNat : Int) == 46) && !((l[n].toNat : Int) == 46)) := by
  have h0 : 0 < l.length := by omega
  have hp := prefix_at 46 h0
  have hs := suffix_at 46 h
  have e : l.isEmpty = false := by
    cases l with
    | nil => simp at h
    | cons a t => rfl
  unfold elemB
  rw [e, hp, hs]
  rfl

set_option maxHeartbeats 2000000 in
theorem refElem_any {p : UInt8 → Bool} {x : UInt8} (hp : ∀ c, p c = (digitB c || lowerB c || upperB c || ((c.toNat : Int) == 45) || ((c.toNat : Int) == 46) || ((c.toNat : Int) == 95) || ((c.toNat : Int) == 126) || ((c.toNat : Int) == (x.toNat : Int)))) {l : Str} (hl : l.length ≤ 4294967281) (w : World) : Calls Tryz.prog 82 #[.string (ba l), .int .u8 (x.toNat : Int)] w fun e w' => e = .returned (.bool (elemB p l)) ∧ w' = w := by
  have hsz : (ba l).size = l.length := ba_size l
  have hli := ba_list l
  have HPP := hide hp
  clear hp
  cases he : l.isEmpty with
  | true =>
    have HV : Hid (elemB p l = false) := by
      show elemB p l = false
      unfold elemB; rw [he]; rfl
    go_enter Tryz.func82, Tryz.ntmps82
    go_wp2
    go_ret
    exact ⟨ret_bool (unhide HV).symm, rfl⟩
  | false =>
    obtain ⟨n, hn⟩ : ∃ n, l.length = n + 1 := by
      cases l with
      | nil => simp at he
      | cons a t => exact ⟨t.length, rfl⟩
    have HE := hide (elem_of (p := p) hn)
    have h0 : 0 < l.length := by omega
    have hnl : n < l.length := by omega
    have hg0 := ba_get l 0 h0
    have hgn := ba_get l n hnl
    cases q0 : ((l[0].toNat : Int) == 46) with
    | true =>
      have HV : Hid (elemB p l = false) := by show elemB p l = false; rw [unhide HE, q0]; simp
      clear HE
      go_enter Tryz.func82, Tryz.ntmps82
      go_wp2
      go_ret
      exact ⟨ret_bool (unhide HV).symm, rfl⟩
    | false =>
      cases q1 : ((l[n].toNat : Int) == 46) with
      | true =>
        have HV : Hid (elemB p l = false) := by show elemB p l = false; rw [unhide HE, q1]; simp
        clear HE
        go_enter Tryz.func82, Tryz.ntmps82
        go_wp2
        go_ret
        exact ⟨ret_bool (unhide HV).symm, rfl⟩
      | false =>
        have HV : Hid (elemB p l = l.all p) := by show elemB p l = l.all p; rw [unhide HE, q0, q1]; simp
        clear HE
        go_enter Tryz.func82, Tryz.ntmps82
        go_wp2
        clear hg0 hgn q0 q1
        go_loop [5, 6] (fun i _ => ∃ k : Nat, k ≤ n + 1 ∧ i = .int .i64 k ∧ (l.take k).all p = true) (fun i _ => n + 1 - (intOf i).toNat)
        case atStart => exact ⟨0, Nat.zero_le _, rfl, rfl⟩
        case round =>
          obtain ⟨k, hk, rfl, hall⟩ := hrel
          have HA := hide hall
          clear hall
          by_cases hlt : k < n + 1
          · have hkl : k < l.length := by omega
            have hg := ba_get l k hkl
            have hip := (unhide HPP) l[k]
            cases hd : digitB l[k] with
            | true =>
              have HF := hide (all_take8 (unhide HA) hkl (by rw [hip, hd]; rfl))
              have Hhd := hide hd
              clear hip HA hd
              go_wp2_with (first | (go_at_call 104; refine (asks_is (unhide Hhd) refDigit_asks _).mono ?_; rintro e w1 ⟨rfl, hw⟩; rw [hw]; clear hw w1))
              go_round
              case rel => exact ⟨k + 1, hlt, by simp, unhide HF⟩
              case measure => simp [intOf]; omega
            | false =>
              cases hlo : lowerB l[k] with
              | true =>
                have HF := hide (all_take8 (unhide HA) hkl (by rw [hip, hd, hlo]; rfl))
                have Hhd := hide hd
                have Hhlo := hide hlo
                clear hip HA hd hlo
                go_wp2_with (first | (go_at_call 104; refine (asks_is (unhide Hhd) refDigit_asks _).mono ?_; rintro e w1 ⟨rfl, hw⟩; rw [hw]; clear hw w1) | (go_at_call 94; refine (asks_is (unhide Hhlo) refLower_asks _).mono ?_; rintro e w1 ⟨rfl, hw⟩; rw [hw]; clear hw w1))
                go_round
                case rel => exact ⟨k + 1, hlt, by simp, unhide HF⟩
                case measure => simp [intOf]; omega
              | false =>
                cases hup : upperB l[k] with
                | true =>
                  have HF := hide (all_take8 (unhide HA) hkl (by rw [hip, hd, hlo, hup]; rfl))
                  have Hhd := hide hd
                  have Hhlo := hide hlo
                  have Hhup := hide hup
                  clear hip HA hd hlo hup
                  go_wp2_with (first | (go_at_call 104; refine (asks_is (unhide Hhd) refDigit_asks _).mono ?_; rintro e w1 ⟨rfl, hw⟩; rw [hw]; clear hw w1) | (go_at_call 94; refine (asks_is (unhide Hhlo) refLower_asks _).mono ?_; rintro e w1 ⟨rfl, hw⟩; rw [hw]; clear hw w1) | (go_at_call 91; refine (asks_is (unhide Hhup) refUpper_asks _).mono ?_; rintro e w1 ⟨rfl, hw⟩; rw [hw]; clear hw w1))
                  go_round
                  case rel => exact ⟨k + 1, hlt, by simp, unhide HF⟩
                  case measure => simp [intOf]; omega
                | false =>
                  cases h45 : ((l[k].toNat : Int) == 45) with
                  | true =>
                    have HF := hide (all_take8 (unhide HA) hkl (by rw [hip, hd, hlo, hup, h45]; rfl))
                    have Hhd := hide hd
                    have Hhlo := hide hlo
                    have Hhup := hide hup
                    have qh45 : ((l[k].toNat : Int) != 45) = false := by rw [bne, h45]; rfl
                    clear hip HA hd hlo hup h45
                    go_wp2_with (first | (go_at_call 104; refine (asks_is (unhide Hhd) refDigit_asks _).mono ?_; rintro e w1 ⟨rfl, hw⟩; rw [hw]; clear hw w1) | (go_at_call 94; refine (asks_is (unhide Hhlo) refLower_asks _).mono ?_; rintro e w1 ⟨rfl, hw⟩; rw [hw]; clear hw w1) | (go_at_call 91; refine (asks_is (unhide Hhup) refUpper_asks _).mono ?_; rintro e w1 ⟨rfl, hw⟩; rw [hw]; clear hw w1))
                    go_round
                    case rel => exact ⟨k + 1, hlt, by simp, unhide HF⟩
                    case measure => simp [intOf]; omega
                  | false =>
                    cases h46 : ((l[k].toNat : Int) == 46) with
                    | true =>
                      have HF := hide (all_take8 (unhide HA) hkl (by rw [hip, hd, hlo, hup, h45, h46]; rfl))
                      have Hhd := hide hd
                      have Hhlo := hide hlo
                      have Hhup := hide hup
                      have qh45 : ((l[k].toNat : Int) != 45) = true := by rw [bne, h45]; rfl
                      have qh46 : ((l[k].toNat : Int) != 46) = false := by rw [bne, h46]; rfl
                      clear hip HA hd hlo hup h45 h46
                      go_wp2_with (first | (go_at_call 104; refine (asks_is (unhide Hhd) refDigit_asks _).mono ?_; rintro e w1 ⟨rfl, hw⟩; rw [hw]; clear hw w1) | (go_at_call 94; refine (asks_is (unhide Hhlo) refLower_asks _).mono ?_; rintro e w1 ⟨rfl, hw⟩; rw [hw]; clear hw w1) | (go_at_call 91; refine (asks_is (unhide Hhup) refUpper_asks _).mono ?_; rintro e w1 ⟨rfl, hw⟩; rw [hw]; clear hw w1))
                      go_round
                      case rel => exact ⟨k + 1, hlt, by simp, unhide HF⟩
                      case measure => simp [intOf]; omega
                    | false =>
                      cases h95 : ((l[k].toNat : Int) == 95) with
                      | true =>
                        have HF := hide (all_take8 (unhide HA) hkl (by rw [hip, hd, hlo, hup, h45, h46, h95]; rfl))
                        have Hhd := hide hd
                        have Hhlo := hide hlo
                        have Hhup := hide hup
                        have qh45 : ((l[k].toNat : Int) != 45) = true := by rw [bne, h45]; rfl
                        have qh46 : ((l[k].toNat : Int) != 46) = true := by rw [bne, h46]; rfl
                        have qh95 : ((l[k].toNat : Int) != 95) = false := by rw [bne, h95]; rfl
                        clear hip HA hd hlo hup h45 h46 h95
                        go_wp2_with (first | (go_at_call 104; refine (asks_is (unhide Hhd) refDigit_asks _).mono ?_; rintro e w1 ⟨rfl, hw⟩; rw [hw]; clear hw w1) | (go_at_call 94; refine (asks_is (unhide Hhlo) refLower_asks _).mono ?_; rintro e w1 ⟨rfl, hw⟩; rw [hw]; clear hw w1) | (go_at_call 91; refine (asks_is (unhide Hhup) refUpper_asks _).mono ?_; rintro e w1 ⟨rfl, hw⟩; rw [hw]; clear hw w1))
                        go_round
                        case rel => exact ⟨k + 1, hlt, by simp, unhide HF⟩
                        case measure => simp [intOf]; omega
                      | false =>
                        cases h126 : ((l[k].toNat : Int) == 126) with
                        | true =>
                          have HF := hide (all_take8 (unhide HA) hkl (by rw [hip, hd, hlo, hup, h45, h46, h95, h126]; rfl))
                          have Hhd := hide hd
                          have Hhlo := hide hlo
                          have Hhup := hide hup
                          have qh45 : ((l[k].toNat : Int) != 45) = true := by rw [bne, h45]; rfl
                          have qh46 : ((l[k].toNat : Int) != 46) = true := by rw [bne, h46]; rfl
                          have qh95 : ((l[k].toNat : Int) != 95) = true := by rw [bne, h95]; rfl
                          have qh126 : ((l[k].toNat : Int) != 126) = false := by rw [bne, h126]; rfl
                          clear hip HA hd hlo hup h45 h46 h95 h126
                          go_wp2_with (first | (go_at_call 104; refine (asks_is (unhide Hhd) refDigit_asks _).mono ?_; rintro e w1 ⟨rfl, hw⟩; rw [hw]; clear hw w1) | (go_at_call 94; refine (asks_is (unhide Hhlo) refLower_asks _).mono ?_; rintro e w1 ⟨rfl, hw⟩; rw [hw]; clear hw w1) | (go_at_call 91; refine (asks_is (unhide Hhup) refUpper_asks _).mono ?_; rintro e w1 ⟨rfl, hw⟩; rw [hw]; clear hw w1))
                          go_round
                          case rel => exact ⟨k + 1, hlt, by simp, unhide HF⟩
                          case measure => simp [intOf]; omega
                        | false =>
                          cases hx : ((l[k].toNat : Int) == (x.toNat : Int)) with
                          | true =>
                            have HF := hide (all_take8 (unhide HA) hkl (by rw [hip, hd, hlo, hup, h45, h46, h95, h126, hx]; rfl))
                            have Hhd := hide hd
                            have Hhlo := hide hlo
                            have Hhup := hide hup
                            have qh45 : ((l[k].toNat : Int) != 45) = true := by rw [bne, h45]; rfl
                            have qh46 : ((l[k].toNat : Int) != 46) = true := by rw [bne, h46]; rfl
                            have qh95 : ((l[k].toNat : Int) != 95) = true := by rw [bne, h95]; rfl
                            have qh126 : ((l[k].toNat : Int) != 126) = true := by rw [bne, h126]; rfl
                            have qhx : ((l[k].toNat : Int) != (x.toNat : Int)) = false := by rw [bne, hx]; rfl
                            clear hip HA hd hlo hup h45 h46 h95 h126 hx
                            go_wp2_with (first | (go_at_call 104; refine (asks_is (unhide Hhd) refDigit_asks _).mono ?_; rintro e w1 ⟨rfl, hw⟩; rw [hw]; clear hw w1) | (go_at_call 94; refine (asks_is (unhide Hhlo) refLower_asks _).mono ?_; rintro e w1 ⟨rfl, hw⟩; rw [hw]; clear hw w1) | (go_at_call 91; refine (asks_is (unhide Hhup) refUpper_asks _).mono ?_; rintro e w1 ⟨rfl, hw⟩; rw [hw]; clear hw w1))
                            go_round
                            case rel => exact ⟨k + 1, hlt, by simp, unhide HF⟩
                            case measure => simp [intOf]; omega
                          | false =>
                            have HN : Hid (elemB p l = false) := by show elemB p l = false; rw [unhide HV]; exact all_no8 hkl (by rw [hip, hd, hlo, hup, h45, h46, h95, h126, hx]; rfl)
                            have Hhd := hide hd
                            have Hhlo := hide hlo
                            have Hhup := hide hup
                            have qh45 : ((l[k].toNat : Int) != 45) = true := by rw [bne, h45]; rfl
                            have qh46 : ((l[k].toNat : Int) != 46) = true := by rw [bne, h46]; rfl
                            have qh95 : ((l[k].toNat : Int) != 95) = true := by rw [bne, h95]; rfl
                            have qh126 : ((l[k].toNat : Int) != 126) = true := by rw [bne, h126]; rfl
                            have qhx : ((l[k].toNat : Int) != (x.toNat : Int)) = true := by rw [bne, hx]; rfl
                            clear hip HA hd hlo hup h45 h46 h95 h126 hx
                            go_wp2_with (first | (go_at_call 104; refine (asks_is (unhide Hhd) refDigit_asks _).mono ?_; rintro e w1 ⟨rfl, hw⟩; rw [hw]; clear hw w1) | (go_at_call 94; refine (asks_is (unhide Hhlo) refLower_asks _).mono ?_; rintro e w1 ⟨rfl, hw⟩; rw [hw]; clear hw w1) | (go_at_call 91; refine (asks_is (unhide Hhup) refUpper_asks _).mono ?_; rintro e w1 ⟨rfl, hw⟩; rw [hw]; clear hw w1))
                            go_ret
                            exact ⟨ret_bool (unhide HN).symm, rfl⟩
          · have hke : k = n + 1 := by omega
            subst hke
            have HN : Hid (elemB p l = true) := by
              have := unhide HA
              rw [← hn, List.take_length] at this
              show elemB p l = true
              rw [unhide HV]; exact this
            clear HA
            go_wp2
            go_ret
            exact ⟨ret_bool (unhide HN).symm, rfl⟩
theorem refElem_is {p : UInt8 → Bool} {x : UInt8} {b : Bool} {l : Str} (h : elemB p l = b) (hp : ∀ c, p c = (digitB c || lowerB c || upperB c || ((c.toNat : Int) == 45) || ((c.toNat : Int) == 46) || ((c.toNat : Int) == 95) || ((c.toNat : Int) == 126) || ((c.toNat : Int) == (x.toNat : Int)))) (hl : l.length ≤ 4294967281) (w : World) : Calls Tryz.prog 82 #[.string (ba l), .int .u8 (x.toNat : Int)] w fun e w' => e = .returned (.bool b) ∧ w' = w := by rw [← h]; exact refElem_any hp hl w

end Go.Proofs.YtcmafidnaojkiaaGreatDoor
