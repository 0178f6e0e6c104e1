/-
  The reference's Matches; Check of both.
-/
import Derived.Test.YthcafeoamabkgaaGreatDoorRefP
import Derived.Test.YthcafeoamabkgaaGreatDoorPthX
namespace Go.Proofs.YthcafeoamabkgaaGreatDoor
open Go.RowKit

theorem eqI (c : UInt8) (k : Nat) : ((c.toNat : Int) == (k : Int)) = decide (c.toNat = k) := eqN c k

theorem path_parts (c : UInt8) : pathB c = (digitB c || lowerB c || upperB c || ((c.toNat : Int) == 45) || ((c.toNat : Int) == 46) || ((c.toNat : Int) == 95) || ((c.toNat : Int) == 126) || ((c.toNat : Int) == (46 : UInt8).toNat)) := by
  have e1 : ((c.toNat : Int) == 45) = decide (c.toNat = 45) := eqI c 45
  have e2 : ((c.toNat : Int) == 46) = decide (c.toNat = 46) := eqI c 46
  have e3 : ((c.toNat : Int) == 95) = decide (c.toNat = 95) := eqI c 95
  have e4 : ((c.toNat : Int) == 126) = decide (c.toNat = 126) := eqI c 126
  have e5 : ((c.toNat : Int) == (46 : UInt8).toNat) = decide (c.toNat = 46) := e2
  rw [e1, e2, e3, e4, e5]
  unfold pathB hostB
  cases digitB c <;> cases lowerB c <;> cases upperB c <;> cases decide (c.toNat = 45) <;> cases decide (c.toNat = 46) <;> cases decide (c.toNat = 95) <;> cases decide (c.toNat = 126) <;> rfl

theorem import_parts (c : UInt8) : importB c = (digitB c || lowerB c || upperB c || ((c.toNat : Int) == 45) || ((c.toNat : Int) == 46) || ((c.toNat : Int) == 95) || ((c.toNat : Int) == 126) || ((c.toNat : Int) == (43 : UInt8).toNat)) := by
  have e1 : ((c.toNat : Int) == 45) = decide (c.toNat = 45) := eqI c 45
  have e2 : ((c.toNat : Int) == 46) = decide (c.toNat = 46) := eqI c 46
  have e3 : ((c.toNat : Int) == 95) = decide (c.toNat = 95) := eqI c 95
  have e4 : ((c.toNat : Int) == 126) = decide (c.toNat = 126) := eqI c 126
  have e6 : ((c.toNat : Int) == 43) = decide (c.toNat = 43) := eqI c 43
  have e5 : ((c.toNat : Int) == (43 : UInt8).toNat) = decide (c.toNat = 43) := e6
  rw [e1, e2, e3, e4, e5]
  unfold importB pathB hostB
  cases digitB c <;> cases lowerB c <;> cases upperB c <;> cases decide (c.toNat = 45) <;> cases decide (c.toNat = 46) <;> cases decide (c.toNat = 95) <;> cases decide (c.toNat = 126) <;> cases decide (c.toNat = 43) <;> rfl

theorem u8_eq (a : UInt8) (b : UInt8) : (a == b) = ((a.toNat : Int) == (b.toNat : Int)) := by
  rw [Bool.eq_iff_iff]
  simp only [beq_iff_eq]
  constructor
  · rintro rfl; rfl
  · intro h; exact UInt8.toNat_inj.mp (by omega)

theorem prefix_at (c : UInt8) {l : Str} (h : 0 < l.length) : Lib.hasPrefix l [c] = ((l[0].toNat : Int) == (c.toNat : Int)) := by
  cases l with
  | nil => simp at h
  | cons a t =>
    rw [← u8_eq]
    simp [Lib.hasPrefix, List.isPrefixOf]
    rw [Bool.eq_iff_iff]; simp; exact eq_comm

theorem suffix_at (c : UInt8) {l : Str} {n : Nat} (h : l.length = n + 1) : Lib.hasSuffix l [c] = ((l[n].toNat : Int) == (c.toNat : Int)) := by
  rw [← u8_eq, ← Lib.hasSuffix_of_drop]
  have e : l.drop (l.length - [c].length) = [l[n]] := by
    have e0 : l.length - [c].length = n := by rw [h]; rfl
    rw [e0, List.drop_eq_getElem_cons (by omega), List.drop_of_length_le (by omega)]
  rw [e]
  simp [h]

theorem elem_of {p : UInt8 → Bool} {l : Str} {n : Nat} (h : l.length = n + 1) : elemB p l = (l.all p && !((l[0].toNat : Int) == 46) && !((l[n].toNat : Int) == 46)) := by
  have h0 : 0 < l.length := by omega
  have hp := prefix_at 46 h0
  have hs := suffix_at 46 h
  have e : l.isEmpty = false := by
    cases l with
    | nil => simp at h
    | cons a t => rfl
  unfold elemB
  rw [e, hp, hs]
  rfl

set_option maxHeartbeats 2000000 in
theorem refElem_any {p : UInt8 → Bool} {x : UInt8} (hp : ∀ c, p c = (digitB c || lowerB c || upperB c || ((c.toNat : Int) == 45) || ((c.toNat : Int) == 46) || ((c.toNat : Int) == 95) || ((c.toNat : Int) == 126) || ((c.toNat : Int) == (x.toNat : Int)))) {l : Str} (hl : l.length ≤ 4294967281) (w : World) : Calls Tryz.prog 157 #[.string (ba l), .int .u8 (x.toNat : Int)] w fun e w' => e = .returned (.bool (elemB p l)) ∧ w' = w := by
  have hsz : (ba l).size = l.length := ba_size l
  have hli := ba_list l
  have HPP := hide hp
  clear hp
  cases he : l.isEmpty with
  | true =>
    have HV : Hid (elemB p l = false) := by
      show elemB p l = false
      unfold elemB; rw [he]; rfl
    go_enter Tryz.func157, Tryz.ntmps157
    go_wp2
    go_ret
    exact ⟨ret_bool (unhide HV).symm, rfl⟩
  | false =>
    obtain ⟨n, hn⟩ : ∃ n, l.length = n + 1 := by
      cases l with
      | nil => simp at he
      | cons a t => exact ⟨t.length, rfl⟩
    have HE := hide (elem_of (p := p) hn)
    have h0 : 0 < l.length := by omega
    have hnl : n < l.length := by omega
    have hg0 := ba_get l 0 h0
    have hgn := ba_get l n hnl
    cases q0 : ((l[0].toNat : Int) == 46) with
    | true =>
      have HV : Hid (elemB p l = false) := by show elemB p l = false; rw [unhide HE, q0]; simp
      clear HE
      go_enter Tryz.func157, Tryz.ntmps157
      go_wp2
      go_ret
      exact ⟨ret_bool (unhide HV).symm, rfl⟩
    | false =>
      cases q1 : ((l[n].toNat : Int) == 46) with
      | true =>
        have HV : Hid (elemB p l = false) := by show elemB p l = false; rw [unhide HE, q1]; simp
        clear HE
        go_enter Tryz.func157, Tryz.ntmps157
        go_wp2
        go_ret
        exact ⟨ret_bool (unhide HV).symm, rfl⟩
      | false =>
        have HV : Hid (elemB p l = l.all p) := by show elemB p l = l.all p; rw [unhide HE, q0, q1]; simp
        clear HE
        go_enter Tryz.func157, Tryz.ntmps157
        go_wp2
        clear hg0 hgn q0 q1
        go_loop [5, 6] (fun i _ => ∃ k : Nat, k ≤ n + 1 ∧ i = .int .i64 k ∧ (l.take k).all p = true) (fun i _ => n + 1 - (intOf i).toNat)
        case atStart => exact ⟨0, Nat.zero_le _, rfl, rfl⟩
        case round =>
          obtain ⟨k, hk, rfl, hall⟩ := hrel
          have HA := hide hall
          clear hall
          by_cases hlt : k < n + 1
          · have hkl : k < l.length := by omega
            have hg := ba_get l k hkl
            have hip := (unhide HPP) l[k]
            cases hd : digitB l[k] with
            | true =>
              have HF := hide (all_take8 (unhide HA) hkl (by rw [hip, hd]; rfl))
              have Hhd := hide hd
              clear hip HA hd
              go_wp2_with (first | (go_at_call 195; refine (asks_is (unhide Hhd) refDigit_asks _).mono ?_; rintro e w1 ⟨rfl, hw⟩; rw [hw]; clear hw w1))
              go_round
              case rel => exact ⟨k + 1, hlt, by simp, unhide HF⟩
              case measure => simp [intOf]; omega
            | false =>
              cases hlo : lowerB l[k] with
              | true =>
                have HF := hide (all_take8 (unhide HA) hkl (by rw [hip, hd, hlo]; rfl))
                have Hhd := hide hd
                have Hhlo := hide hlo
                clear hip HA hd hlo
                go_wp2_with (first | (go_at_call 195; refine (asks_is (unhide Hhd) refDigit_asks _).mono ?_; rintro e w1 ⟨rfl, hw⟩; rw [hw]; clear hw w1) | (go_at_call 196; refine (asks_is (unhide Hhlo) refLower_asks _).mono ?_; rintro e w1 ⟨rfl, hw⟩; rw [hw]; clear hw w1))
                go_round
                case rel => exact ⟨k + 1, hlt, by simp, unhide HF⟩
                case measure => simp [intOf]; omega
              | false =>
                cases hup : upperB l[k] with
                | true =>
                  have HF := hide (all_take8 (unhide HA) hkl (by rw [hip, hd, hlo, hup]; rfl))
                  have Hhd := hide hd
                  have Hhlo := hide hlo
                  have Hhup := hide hup
                  clear hip HA hd hlo hup
                  go_wp2_with (first | (go_at_call 195; refine (asks_is (unhide Hhd) refDigit_asks _).mono ?_; rintro e w1 ⟨rfl, hw⟩; rw [hw]; clear hw w1) | (go_at_call 196; refine (asks_is (unhide Hhlo) refLower_asks _).mono ?_; rintro e w1 ⟨rfl, hw⟩; rw [hw]; clear hw w1) | (go_at_call 197; refine (asks_is (unhide Hhup) refUpper_asks _).mono ?_; rintro e w1 ⟨rfl, hw⟩; rw [hw]; clear hw w1))
                  go_round
                  case rel => exact ⟨k + 1, hlt, by simp, unhide HF⟩
                  case measure => simp [intOf]; omega
                | false =>
                  cases h45 : ((l[k].toNat : Int) == 45) with
                  | true =>
                    have HF := hide (all_take8 (unhide HA) hkl (by rw [hip, hd, hlo, hup, h45]; rfl))
                    have Hhd := hide hd
                    have Hhlo := hide hlo
                    have Hhup := hide hup
                    have qh45 : ((l[k].toNat : Int) != 45) = false := by rw [bne, h45]; rfl
                    clear hip HA hd hlo hup h45
                    go_wp2_with (first | (go_at_call 195; refine (asks_is (unhide Hhd) refDigit_asks _).mono ?_; rintro e w1 ⟨rfl, hw⟩; rw [hw]; clear hw w1) | (go_at_call 196; refine (asks_is (unhide Hhlo) refLower_asks _).mono ?_; rintro e w1 ⟨rfl, hw⟩; rw [hw]; clear hw w1) | (go_at_call 197; refine (asks_is (unhide Hhup) refUpper_asks _).mono ?_; rintro e w1 ⟨rfl, hw⟩; rw [hw]; clear hw w1))
                    go_round
                    case rel => exact ⟨k + 1, hlt, by simp, unhide HF⟩
                    case measure => simp [intOf]; omega
                  | false =>
                    cases h46 : ((l[k].toNat : Int) == 46) with
                    | true =>
                      have HF := hide (all_take8 (unhide HA) hkl (by rw [hip, hd, hlo, hup, h45, h46]; rfl))
                      have Hhd := hide hd
                      have Hhlo := hide hlo
                      have Hhup := hide hup
                      have qh45 : ((l[k].toNat : Int) != 45) = true := by rw [bne, h45]; rfl
                      have qh46 : ((l[k].toNat : Int) != 46) = false := by rw [bne, h46]; rfl
                      clear hip HA hd hlo hup h45 h46
                      go_wp2_with (first | (go_at_call 195; refine (asks_is (unhide Hhd) refDigit_asks _).mono ?_; rintro e w1 ⟨rfl, hw⟩; rw [hw]; clear hw w1) | (go_at_call 196; refine (asks_is (unhide Hhlo) refLower_asks _).mono ?_; rintro e w1 ⟨rfl, hw⟩; rw [hw]; clear hw w1) | (go_at_call 197; refine (asks_is (unhide Hhup) refUpper_asks _).mono ?_; rintro e w1 ⟨rfl, hw⟩; rw [hw]; clear hw w1))
                      go_round
                      case rel => exact ⟨k + 1, hlt, by simp, unhide HF⟩
                      case measure => simp [intOf]; omega
                    | false =>
                      cases h95 : ((l[k].toNat : Int) == 95) with
                      | true =>
                        have HF := hide (all_take8 (unhide HA) hkl (by rw [hip, hd, hlo, hup, h45, h46, h95]; rfl))
                        have Hhd := hide hd
                        have Hhlo := hide hlo
                        have Hhup := hide hup
                        have qh45 : ((l[k].toNat : Int) != 45) = true := by rw [bne, h45]; rfl
                        have qh46 : ((l[k].toNat : Int) != 46) = true := by rw [bne, h46]; rfl
                        have qh95 : ((l[k].toNat : Int) != 95) = false := by rw [bne, h95]; rfl
                        clear hip HA hd hlo hup h45 h46 h95
                        go_wp2_with (first | (go_at_call 195; refine (asks_is (unhide Hhd) refDigit_asks _).mono ?_; rintro e w1 ⟨rfl, hw⟩; rw [hw]; clear hw w1) | (go_at_call 196; refine (asks_is (unhide Hhlo) refLower_asks _).mono ?_; rintro e w1 ⟨rfl, hw⟩; rw [hw]; clear hw w1) | (go_at_call 197; refine (asks_is (unhide Hhup) refUpper_asks _).mono ?_; rintro e w1 ⟨rfl, hw⟩; rw [hw]; clear hw w1))
                        go_round
                        case rel => exact ⟨k + 1, hlt, by simp, unhide HF⟩
                        case measure => simp [intOf]; omega
                      | false =>
                        cases h126 : ((l[k].toNat : Int) == 126) with
                        | true =>
                          have HF := hide (all_take8 (unhide HA) hkl (by rw [hip, hd, hlo, hup, h45, h46, h95, h126]; rfl))
                          have Hhd := hide hd
                          have Hhlo := hide hlo
                          have Hhup := hide hup
                          have qh45 : ((l[k].toNat : Int) != 45) = true := by rw [bne, h45]; rfl
                          have qh46 : ((l[k].toNat : Int) != 46) = true := by rw [bne, h46]; rfl
                          have qh95 : ((l[k].toNat : Int) != 95) = true := by rw [bne, h95]; rfl
                          have qh126 : ((l[k].toNat : Int) != 126) = false := by rw [bne, h126]; rfl
                          clear hip HA hd hlo hup h45 h46 h95 h126
                          go_wp2_with (first | (go_at_call 195; refine (asks_is (unhide Hhd) refDigit_asks _).mono ?_; rintro e w1 ⟨rfl, hw⟩; rw [hw]; clear hw w1) | (go_at_call 196; refine (asks_is (unhide Hhlo) refLower_asks _).mono ?_; rintro e w1 ⟨rfl, hw⟩; rw [hw]; clear hw w1) | (go_at_call 197; refine (asks_is (unhide Hhup) refUpper_asks _).mono ?_; rintro e w1 ⟨rfl, hw⟩; rw [hw]; clear hw w1))
                          go_round
                          case rel => exact ⟨k + 1, hlt, by simp, unhide HF⟩
                          case measure => simp [intOf]; omega
                        | false =>
                          cases hx : ((l[k].toNat : Int) == (x.toNat : Int)) with
                          | true =>
                            have HF := hide (all_take8 (unhide HA) hkl (by rw [hip, hd, hlo, hup, h45, h46, h95, h126, hx]; rfl))
                            have Hhd := hide hd
                            have Hhlo := hide hlo
                            have Hhup := hide hup
                            have qh45 : ((l[k].toNat : Int) != 45) = true := by rw [bne, h45]; rfl
                            have qh46 : ((l[k].toNat : Int) != 46) = true := by rw [bne, h46]; rfl
                            have qh95 : ((l[k].toNat : Int) != 95) = true := by rw [bne, h95]; rfl
                            have qh126 : ((l[k].toNat : Int) != 126) = true := by rw [bne, h126]; rfl
                            have qhx : ((l[k].toNat : Int) != (x.toNat : Int)) = false := by rw [bne, hx]; rfl
                            clear hip HA hd hlo hup h45 h46 h95 h126 hx
                            go_wp2_with (first | (go_at_call 195; refine (asks_is (unhide Hhd) refDigit_asks _).mono ?_; rintro e w1 ⟨rfl, hw⟩; rw [hw]; clear hw w1) | (go_at_call 196; refine (asks_is (unhide Hhlo) refLower_asks _).mono ?_; rintro e w1 ⟨rfl, hw⟩; rw [hw]; clear hw w1) | (go_at_call 197; refine (asks_is (unhide Hhup) refUpper_asks _).mono ?_; rintro e w1 ⟨rfl, hw⟩; rw [hw]; clear hw w1))
                            go_round
                            case rel => exact ⟨k + 1, hlt, by simp, unhide HF⟩
                            case measure => simp [intOf]; omega
                          | false =>
                            have HN : Hid (elemB p l = false) := by show elemB p l = false; rw [unhide HV]; exact all_no8 hkl (by rw [hip, hd, hlo, hup, h45, h46, h95, h126, hx]; rfl)
                            have Hhd := hide hd
                            have Hhlo := hide hlo
                            have Hhup := hide hup
                            have qh45 : ((l[k].toNat : Int) != 45) = true := by rw [bne, h45]; rfl
                            have qh46 : ((l[k].toNat : Int) != 46) = true := by rw [bne, h46]; rfl
                            have qh95 : ((l[k].toNat : Int) != 95) = true := by rw [bne, h95]; rfl
                            have qh126 : ((l[k].toNat : Int) != 126) = true := by rw [bne, h126]; rfl
                            have qhx : ((l[k].toNat : Int) != (x.toNat : Int)) = true := by rw [bne, hx]; rfl
                            clear hip HA hd hlo hup h45 h46 h95 h126 hx
                            go_wp2_with (first | (go_at_call 195; refine (asks_is (unhide Hhd) refDigit_asks _).mono ?_; rintro e w1 ⟨rfl, hw⟩; rw [hw]; clear hw w1) | (go_at_call 196; refine (asks_is (unhide Hhlo) refLower_asks _).mono ?_; rintro e w1 ⟨rfl, hw⟩; rw [hw]; clear hw w1) | (go_at_call 197; refine (asks_is (unhide Hhup) refUpper_asks _).mono ?_; rintro e w1 ⟨rfl, hw⟩; rw [hw]; clear hw w1))
                            go_ret
                            exact ⟨ret_bool (unhide HN).symm, rfl⟩
          · have hke : k = n + 1 := by omega
            subst hke
            have HN : Hid (elemB p l = true) := by
              have := unhide HA
              rw [← hn, List.take_length] at this
              show elemB p l = true
              rw [unhide HV]; exact this
            clear HA
            go_wp2
            go_ret
            exact ⟨ret_bool (unhide HN).symm, rfl⟩
theorem refElem_is {p : UInt8 → Bool} {x : UInt8} {b : Bool} {l : Str} (h : elemB p l = b) (hp : ∀ c, p c = (digitB c || lowerB c || upperB c || ((c.toNat : Int) == 45) || ((c.toNat : Int) == 46) || ((c.toNat : Int) == 95) || ((c.toNat : Int) == 126) || ((c.toNat : Int) == (x.toNat : Int)))) (hl : l.length ≤ 4294967281) (w : World) : Calls Tryz.prog 157 #[.string (ba l), .int .u8 (x.toNat : Int)] w fun e w' => e = .returned (.bool b) ∧ w' = w := by rw [← h]; exact refElem_any hp hl w

end Go.Proofs.YthcafeoamabkgaaGreatDoor

namespace Go.Proofs.YthcafeoamabkgaaGreatDoor
open Go.RowKit

theorem host_of {c : UInt8} (h : pathB c = true) : hostB c = !(upperB c || ((c.toNat : Int) == 95) || ((c.toNat : Int) == 126)) := by
  have e3 : ((c.toNat : Int) == 95) = decide (c.toNat = 95) := eqI c 95
  have e4 : ((c.toNat : Int) == 126) = decide (c.toNat = 126) := eqI c 126
  rw [e3, e4]
  unfold pathB hostB at h
  unfold hostB
  unfold upperB lowerB digitB at *
  rw [Bool.eq_iff_iff]
  simp only [Bool.or_eq_true, Bool.and_eq_true, decide_eq_true_eq, Bool.not_eq_true', Bool.or_eq_false_iff, Bool.and_eq_false_iff, decide_eq_false_iff_not] at *
  omega

theorem take_dot {l : Str} {k : Nat} (h : k < l.length) : (l.take (k + 1)).contains 46 = ((l.take k).contains 46 || ((l[k].toNat : Int) == 46)) := by
  rw [List.take_add_one, List.getElem?_eq_getElem h]
  have e : ((l[k].toNat : Int) == 46) = (l[k] == 46) := (u8_eq l[k] 46).symm
  have e2 : [l[k]].contains 46 = (l[k] == 46) := by
    simp only [List.contains_cons, List.contains_nil, Bool.or_false]
    exact BEq.comm
  rw [e, ← e2]
  exact contains_append _ _ _

theorem hostOk_at {l : Str} (h : 0 < l.length) : hostOk l = (l.contains 46 && ((l[0].toNat : Int) != 45) && l.all hostB) := by
  unfold hostOk
  rw [prefix_at 45 h]; rfl

set_option maxHeartbeats 2000000 in
theorem refHost_any {l : Str} (h0 : 0 < l.length) (hpath : l.all pathB = true) (hl : l.length ≤ 4294967281) (w : World) : Calls Tryz.prog 190 #[.string (ba l)] w fun e w' => e = .returned (.bool (hostOk l)) ∧ w' = w := by
  have hsz : (ba l).size = l.length := ba_size l
  have HP := hide hpath
  have HO := hide (hostOk_at h0)
  clear hpath
  go_enter Tryz.func190, Tryz.ntmps190
  go_wp2
  go_loop [3, 4] (fun d i => ∃ k : Nat, k ≤ l.length ∧ d = .bool ((l.take k).contains 46) ∧ i = .int .i64 k ∧ (l.take k).all hostB = true) (fun _ i => l.length - (intOf i).toNat)
  case atStart => exact ⟨0, Nat.zero_le _, rfl, rfl, rfl⟩
  case round =>
    obtain ⟨k, hk, hd, rfl, hall⟩ := hrel
    obtain ⟨D, hD⟩ : ∃ D, (l.take k).contains 46 = D := ⟨_, rfl⟩
    rw [hD] at hd
    subst hd
    have HD := hide hD
    have HA := hide hall
    clear hall hD
    by_cases hlt : k < l.length
    · have hg := ba_get l k hlt
      have hpk : pathB l[k] = true := List.all_eq_true.1 (unhide HP) _ (List.getElem_mem hlt)
      have hho := host_of hpk
      have htd := take_dot hlt
      clear hpk
      cases hu : upperB l[k] with
      | true =>
        have HN : Hid (hostOk l = false) := by
          show hostOk l = false
          rw [unhide HO, all_no8 hlt (by rw [hho, hu]; rfl)]; simp
        have HU := hide hu
        clear hho htd hu HA
        go_wp2_with (go_at_call 197; refine (asks_is (unhide HU) refUpper_asks _).mono ?_; rintro e w1 ⟨rfl, hw⟩; rw [hw]; clear hw w1)
        go_ret
        exact ⟨ret_bool (unhide HN).symm, rfl⟩
      | false =>
        cases h95 : ((l[k].toNat : Int) == 95) with
        | true =>
          have HN : Hid (hostOk l = false) := by
            show hostOk l = false
            rw [unhide HO, all_no8 hlt (by rw [hho, hu, h95]; rfl)]; simp
          have HU := hide hu
          clear hho htd hu HA
          go_wp2_with (go_at_call 197; refine (asks_is (unhide HU) refUpper_asks _).mono ?_; rintro e w1 ⟨rfl, hw⟩; rw [hw]; clear hw w1)
          go_ret
          exact ⟨ret_bool (unhide HN).symm, rfl⟩
        | false =>
          cases h126 : ((l[k].toNat : Int) == 126) with
          | true =>
            have HN : Hid (hostOk l = false) := by
              show hostOk l = false
              rw [unhide HO, all_no8 hlt (by rw [hho, hu, h95, h126]; rfl)]; simp
            have HU := hide hu
            clear hho htd hu HA
            go_wp2_with (go_at_call 197; refine (asks_is (unhide HU) refUpper_asks _).mono ?_; rintro e w1 ⟨rfl, hw⟩; rw [hw]; clear hw w1)
            go_ret
            exact ⟨ret_bool (unhide HN).symm, rfl⟩
          | false =>
            have HF := hide (all_take8 (unhide HA) hlt (by rw [hho, hu, h95, h126]; rfl))
            have HU := hide hu
            rw [unhide HD] at htd
            have HT := hide htd
            clear hho htd hu HA
            cases D with
            | true =>
              go_wp2_with (go_at_call 197; refine (asks_is (unhide HU) refUpper_asks _).mono ?_; rintro e w1 ⟨rfl, hw⟩; rw [hw]; clear hw w1)
              go_round
              case rel => exact ⟨k + 1, hlt, by rw [unhide HT]; rfl, by simp, unhide HF⟩
              case measure => simp [intOf]; omega
            | false =>
              go_wp2_with (go_at_call 197; refine (asks_is (unhide HU) refUpper_asks _).mono ?_; rintro e w1 ⟨rfl, hw⟩; rw [hw]; clear hw w1)
              go_round
              case rel => exact ⟨k + 1, hlt, by rw [unhide HT]; rfl, by simp, unhide HF⟩
              case measure => simp [intOf]; omega
    · have hke : k = l.length := by omega
      subst hke
      have HN : Hid (hostOk l = (D && ((l[0].toNat : Int) != 45))) := by
        have h1 := unhide HA
        have h2 := unhide HD
        rw [List.take_length] at h1 h2
        show hostOk l = _
        rw [unhide HO, h1, h2, Bool.and_true]
      have hg0 := ba_get l 0 h0
      clear HA HD
      cases D with
      | true =>
        go_wp2
        go_ret
        exact ⟨ret_bool (unhide HN).symm, rfl⟩
      | false =>
        go_wp2
        go_ret
        exact ⟨ret_bool (unhide HN).symm, rfl⟩
theorem refHost_is {l : Str} {b : Bool} (h : hostOk l = b) (h0 : 0 < l.length) (hpath : l.all pathB = true) (hl : l.length ≤ 4294967281) (w : World) : Calls Tryz.prog 190 #[.string (ba l)] w fun e w' => e = .returned (.bool b) ∧ w' = w := by rw [← h]; exact refHost_any h0 hpath hl w

/-- A last element that names a major version. -/
def sufR (s : Str) : Nat × Bool := if Lib.hasPrefix s [118] && numOk (s.drop 1) then (numVal (s.drop 1), decide (2 ≤ numVal (s.drop 1))) else (0, false)
def sufV (r : Nat × Bool) : Value := .tuple #[.int .i64 (r.1 : Int), .bool r.2]

theorem numOk_nil : numOk [] = false := by decide

theorem sufR_short {s : Str} (h : s.length < 2) : sufR s = (0, false) := by
  unfold sufR
  have e : s.drop 1 = [] := List.drop_of_length_le (by omega)
  rw [e, numOk_nil]; simp

theorem suf_any {s : Str} (hl : s.length ≤ 4294967281) (w : World) : Calls Tryz.prog 191 #[.string (ba s)] w fun e w' => e = .returned (sufV (sufR s)) ∧ w' = w := by
  have hsz : (ba s).size = s.length := ba_size s
  by_cases h2 : s.length < 2
  · have HN := hide (sufR_short h2)
    go_enter Tryz.func191, Tryz.ntmps191
    go_wp2
    go_ret2
    rw [unhide HN]
    exact ⟨rfl, rfl⟩
  · have h0 : 0 < s.length := by omega
    have h2' : ¬ (s.length : Int) < 2 := by omega
    have hpx := prefix_at 118 h0
    have hg0 := ba_get s 0 h0
    have hx : (ba s).extract 1 s.length = ba (s.drop 1) := by rw [sub_of, List.take_of_length_le (by simp)]
    obtain ⟨u, hu⟩ : ∃ u, s.drop 1 = u := ⟨_, rfl⟩
    have lu : u.length < s.length := by rw [← hu]; simp; omega
    have hsr : sufR s = if Lib.hasPrefix s [118] && numOk u then (numVal u, decide (2 ≤ numVal u)) else (0, false) := by unfold sufR; rw [hu]
    rw [hu] at hx
    cases hp : ((s[0].toNat : Int) == 118) with
    | false =>
      have hp2 : Lib.hasPrefix s [118] = false := hpx.trans hp
      have HN : Hid (sufR s = (0, false)) := by show sufR s = _; rw [hsr, hp2]; simp
      have hq : ((s[0].toNat : Int) != 118) = true := by rw [bne, hp]; rfl
      clear hsr hp2 hpx hp hu
      go_enter Tryz.func191, Tryz.ntmps191
      go_wp2
      go_ret2
      rw [unhide HN]
      exact ⟨rfl, rfl⟩
    | true =>
      have hp2 : Lib.hasPrefix s [118] = true := hpx.trans hp
      have hq : ((s[0].toNat : Int) != 118) = false := by rw [bne, hp]; rfl
      cases hn : numOk u with
      | false =>
        have HN : Hid (sufR s = (0, false)) := by show sufR s = _; rw [hsr, hn]; simp
        have HU := hide hn
        clear hsr hp2 hpx hp hu hn
        go_enter Tryz.func191, Tryz.ntmps191
        go_wp2_with (go_at_call 241; refine (refNumber_is (unhide HU) (by omega) _).mono ?_; rintro e w1 ⟨rfl, hw⟩; rw [hw]; clear hw w1)
        go_ret2
        rw [unhide HN]
        exact ⟨rfl, rfl⟩
      | true =>
        have hdd : decide (2 ≤ numVal u) = decide ((2 : Int) ≤ (numVal u : Int)) := by rw [Bool.eq_iff_iff]; simp; omega
        have HN : Hid (sufR s = (numVal u, decide ((2 : Int) ≤ (numVal u : Int)))) := by show sufR s = _; rw [hsr, hp2, hn, hdd]; rfl
        have HU := hide hn
        clear hsr hp2 hpx hp hu hn hdd
        go_enter Tryz.func191, Tryz.ntmps191
        go_wp2_with (first | (go_at_call 241; refine (refNumber_is (unhide HU) (by omega) _).mono ?_; rintro e w1 ⟨rfl, hw⟩; rw [hw]; clear hw w1) | (go_at_call 242; fail))
        refine (refAtoi_ok (unhide HU) _).mono ?_
        rintro e w1 ⟨rfl, hw⟩
        rw [hw]
        clear hw w1
        go_wp2
        go_ret2
        rw [unhide HN]
        exact ⟨rfl, rfl⟩
theorem suf_is {s : Str} {r : Nat × Bool} (h : sufR s = r) (hl : s.length ≤ 4294967281) (w : World) : Calls Tryz.prog 191 #[.string (ba s)] w fun e w' => e = .returned (sufV r) ∧ w' = w := by rw [← h]; exact suf_any hl w

theorem lastR_none {l : Str} (h : l.contains 47 = false) (hl : l.length ≤ 4294967281) (w : World) : Calls Tryz.prog 244 #[.string (ba l)] w fun e w' => e = .returned (.int .i64 (-1)) ∧ w' = w := by
  have hsz : (ba l).size = l.length := ba_size l
  have HC : Hid (∀ k (hk : k < l.length), ((l[k].toNat : Int) == 47) = false) := by
    intro k hk
    rw [show (47 : Int) = ((47 : UInt8).toNat : Int) from rfl, ← u8_eq]
    cases hh : (l[k] == 47) with
    | false => rfl
    | true =>
      have : l.contains 47 = true := by
        rw [List.contains_iff_mem]
        have e : l[k] = 47 := by simpa using hh
        rw [← e]; exact List.getElem_mem hk
      rw [this] at h; cases h
  clear h
  go_enter Tryz.func244, Tryz.ntmps244
  go_wp2
  go_loop [3] (fun i => ∃ k : Nat, k ≤ l.length ∧ i = .int .i64 ((k : Int) - 1)) (fun i => (intOf i + 1).toNat)
  case atStart => exact ⟨l.length, Nat.le_refl _, rfl⟩
  case round =>
    obtain ⟨k, hk, rfl⟩ := hrel
    cases k with
    | zero =>
      go_wp2
      go_ret
      exact ⟨rfl, rfl⟩
    | succ j =>
      have hj : j < l.length := by omega
      have hg := ba_get l j hj
      have hne := (unhide HC) j hj
      have e1 : ((j + 1 : Nat) : Int) - 1 = (j : Int) := by omega
      rw [e1]
      go_wp2
      go_round
      case rel => exact ⟨j, by omega, rfl⟩
      case measure => simp [intOf]

theorem lastR_some {l f t : Str} (h : l = f ++ 47 :: t) (ht : t.contains 47 = false) (hl : l.length ≤ 4294967281) (w : World) : Calls Tryz.prog 244 #[.string (ba l)] w fun e w' => e = .returned (.int .i64 (f.length : Int)) ∧ w' = w := by
  have hsz : (ba l).size = l.length := ba_size l
  have lf : f.length < l.length := by rw [h]; simp
  have HC : Hid (∀ k (hk : k < l.length), f.length < k → ((l[k].toNat : Int) == 47) = false) := by
    intro k hk hf
    rw [show (47 : Int) = ((47 : UInt8).toNat : Int) from rfl, ← u8_eq]
    cases hh : (l[k] == 47) with
    | false => rfl
    | true =>
      have : t.contains 47 = true := by
        rw [List.contains_iff_mem]
        have e : l[k] = 47 := by simpa using hh
        have e2 : l[k]? = t[k - f.length - 1]? := by
          rw [h, List.getElem?_append_right (by omega)]
          obtain ⟨m, hm⟩ : ∃ m, k - f.length = m + 1 := ⟨k - f.length - 1, by omega⟩
          rw [hm]; rfl
        rw [List.getElem?_eq_getElem hk, e] at e2
        exact List.mem_of_getElem? e2.symm
      rw [this] at ht; cases ht
  have HH : Hid (∀ (hk : f.length < l.length), ((l[f.length].toNat : Int) == 47) = true) := by
    intro hk
    have e : l[f.length] = 47 := by
      have : l[f.length]? = some 47 := by rw [h]; simp
      rw [List.getElem?_eq_getElem hk] at this
      exact Option.some.inj this
    rw [e]; rfl
  clear h ht
  go_enter Tryz.func244, Tryz.ntmps244
  go_wp2
  go_loop [3] (fun i => ∃ k : Nat, k ≤ l.length ∧ f.length < k ∧ i = .int .i64 ((k : Int) - 1)) (fun i => (intOf i + 1).toNat)
  case atStart => exact ⟨l.length, Nat.le_refl _, lf, rfl⟩
  case round =>
    obtain ⟨k, hk, hfk, rfl⟩ := hrel
    cases k with
    | zero => omega
    | succ j =>
      have hj : j < l.length := by omega
      have hg := ba_get l j hj
      have e1 : ((j + 1 : Nat) : Int) - 1 = (j : Int) := by omega
      rw [e1]
      by_cases hjf : f.length < j
      · have hne := (unhide HC) j hj hjf
        go_wp2
        go_round
        case rel => exact ⟨j, by omega, hjf, rfl⟩
        case measure => simp [intOf]
      · have hje : j = f.length := by omega
        subst hje
        have hyes := (unhide HH) hj
        go_wp2
        go_ret
        exact ⟨rfl, rfl⟩

theorem majorR_alt (p : Str) : majorR p = match splitLast 47 p with | none => (p, 0) | some (f, t) => if (sufR t).2 then (f, (sufR t).1) else (p, 0) := by
  unfold majorR looksB sufR
  cases hs : splitLast 47 p with
  | none => simp
  | some ft =>
    obtain ⟨f, t⟩ := ft
    simp only
    have hnd : numOk (t.drop 1) = true → digitsB (t.drop 1) = true := by
      intro h
      unfold numOk at h
      simp only [Bool.and_eq_true] at h
      exact h.1.2
    cases h1 : Lib.hasPrefix t [118] with
    | false => simp
    | true =>
      cases h2 : numOk (t.drop 1) with
      | false => simp
      | true =>
        rw [hnd h2]
        simp

set_option maxHeartbeats 1000000 in
theorem refMajor_any {p : Str} (hl : p.length < 4294967281) (w : World) : Calls Tryz.prog 194 #[.string (ba p)] w fun e w' => e = .returned (.tuple #[.string (ba (majorR p).1), .int .i64 ((majorR p).2 : Int)]) ∧ w' = w := by
  have hsz : (ba p).size = p.length := ba_size p
  have hma := majorR_alt p
  cases hs : splitLast 47 p with
  | none =>
    rw [hs] at hma
    have HM := hide hma
    have HN := hide (splitLast_none.1 hs)
    rw [unhide HM]
    clear hma hs
    go_enter Tryz.func194, Tryz.ntmps194
    go_wp2_with (go_at_call 244; refine (lastR_none (unhide HN) (by omega) _).mono ?_; rintro e w1 ⟨rfl, hw⟩; rw [hw]; clear hw w1)
    go_ret2
    exact ⟨rfl, rfl⟩
  | some ft =>
    obtain ⟨f, t⟩ := ft
    obtain ⟨he, hf⟩ := splitLast_some.1 hs
    rw [hs] at hma
    simp only at hma
    have lp : p.length = f.length + (t.length + 1) := by rw [he]; simp
    have hx1 : (ba p).extract (f.length + 1) (f.length + (t.length + 1)) = ba t := by rw [← lp, he]; exact drop_from f t 47
    have hx2 : (ba p).extract 0 f.length = ba f := by rw [he]; exact take_to f t 47
    obtain ⟨n, ok, hr⟩ : ∃ n ok, sufR t = (n, ok) := ⟨_, _, rfl⟩
    rw [hr] at hma
    have HE := hide he
    have HF := hide hf
    have HR := hide hr
    cases hok : ok with
    | false =>
      rw [hok] at hma HR
      have HM := hide hma
      rw [unhide HM]
      clear hma hs he hf hr
      go_enter Tryz.func194, Tryz.ntmps194
      go_wp2_with (first | (go_at_call 244; refine (lastR_some (unhide HE) (unhide HF) (by omega) _).mono ?_; rintro e w1 ⟨rfl, hw⟩; rw [hw]; clear hw w1) | (go_at_call 191; fail))
      refine (suf_is (unhide HR) (by omega) _).mono ?_
      rintro e w1 ⟨rfl, hw⟩
      rw [hw]
      clear hw w1
      unfold sufV
      go_wp2
      go_ret2
      exact ⟨rfl, rfl⟩
    | true =>
      rw [hok] at hma HR
      have HM := hide hma
      rw [unhide HM]
      clear hma hs he hf hr
      go_enter Tryz.func194, Tryz.ntmps194
      go_wp2_with (first | (go_at_call 244; refine (lastR_some (unhide HE) (unhide HF) (by omega) _).mono ?_; rintro e w1 ⟨rfl, hw⟩; rw [hw]; clear hw w1) | (go_at_call 191; fail))
      refine (suf_is (unhide HR) (by omega) _).mono ?_
      rintro e w1 ⟨rfl, hw⟩
      rw [hw]
      clear hw w1
      unfold sufV
      go_wp2
      go_ret2
      exact ⟨rfl, rfl⟩

end Go.Proofs.YthcafeoamabkgaaGreatDoor

namespace Go.Proofs.YthcafeoamabkgaaGreatDoor
open Go.RowKit

theorem ret_num {a b : Nat} (h : a = b) : Ending.returned (.int .i64 (a : Int)) = .returned (.int .i64 (b : Int)) := by rw [h]

theorem refImport_any (p : Str) (w : World) : Tells 115 #[.string (ba p)] w (.int .i64 (importR p : Int)) := by
  unfold Tells
  have hsz : (ba p).size = p.length := ba_size p
  by_cases hl : 100 < p.length
  · have HN : Hid (13 = importR p) := by show 13 = importR p; unfold importR; rw [if_pos hl]
    go_enter Tryz.func115, Tryz.ntmps115
    go_wp2
    go_ret
    exact ⟨ret_num (unhide HN), Below.refl _ _⟩
  · have HN : Hid (importR p = if (pieces 47 p).all (elemB importB) then 0 else 9) := by show importR p = _; unfold importR; rw [if_neg hl]; rfl
    have hpb := pieces_bound (c := 47) (l := p) (by omega)
    obtain ⟨ps, hps⟩ : ∃ ps, pieces 47 p = ps := ⟨_, rfl⟩
    rw [hps] at hpb HN
    have hpn := hpb.1
    have HSM := hide hpb.2
    have HPC := hide hps
    clear hpb hps
    go_enter Tryz.func115, Tryz.ntmps115
    go_wp2_with (go_at_call 44; fail)
    refine (refCut_any 47 (l := p) (by omega) _).mono ?_
    rintro e w1 ⟨B, cp, rfl, tx, hB, b1⟩
    rw [unhide HPC] at tx ⊢
    have HT := hide tx
    clear tx
    go_wp2
    go_loop [4, 5] (fun i _ => ∃ k : Nat, k ≤ ps.length ∧ i = .int .i64 k ∧ (ps.take k).all (elemB importB) = true) (fun i _ => ps.length - (intOf i).toNat)
    case atStart => exact ⟨0, Nat.zero_le _, rfl, rfl⟩
    case round =>
      obtain ⟨k, hk, rfl, hall⟩ := hrel
      have HA := hide hall
      clear hall
      by_cases hlt : k < ps.length
      · have hc := (unhide HT) k hlt
        cases hv : elemB importB ps[k] with
        | false =>
          have HF : Hid (9 = importR p) := by show 9 = importR p; rw [unhide HN, all_no hlt hv]; rfl
          have HV := hide hv
          clear hv
          go_wp2_with (go_at_call 157; refine (refElem_is (x := 43) (unhide HV) import_parts ((unhide HSM) _ (List.getElem_mem hlt)) _).mono ?_; rintro e w4 ⟨rfl, hw⟩; rw [hw]; clear hw w4)
          go_ret
          exact ⟨ret_num (unhide HF), b1⟩
        | true =>
          have HF := hide (all_take (unhide HA) hlt hv)
          have HV := hide hv
          clear HA hv
          go_wp2_with (go_at_call 157; refine (refElem_is (x := 43) (unhide HV) import_parts ((unhide HSM) _ (List.getElem_mem hlt)) _).mono ?_; rintro e w4 ⟨rfl, hw⟩; rw [hw]; clear hw w4)
          go_round
          case rel => exact ⟨k + 1, hlt, by simp, unhide HF⟩
          case measure => simp [intOf]; omega
      · have hke : k = ps.length := by omega
        subst hke
        have HF : Hid (0 = importR p) := by
          have := unhide HA
          rw [List.take_length] at this
          show 0 = importR p
          rw [unhide HN, this]; rfl
        clear HA
        go_wp2
        go_ret
        exact ⟨ret_num (unhide HF), b1⟩

theorem sufR_big {t : Str} (h : (sufR t).2 = true) : (sufR t).1 ≠ 0 := by
  unfold sufR at h ⊢
  split
  · rename_i h1
    rw [if_pos h1] at h
    simp only [decide_eq_true_eq] at h
    simp only
    omega
  · rename_i h1
    rw [if_neg h1] at h
    cases h

theorem path_ten {p : Str} {n : Nat} (hn : (pieces 47 p).length = n + 1) : (decide ((majorR p).2 = 0) && looksB p) = (decide (0 < n) && Lib.hasPrefix ((pieces 47 p)[n]) [118] && digitsB (((pieces 47 p)[n]).drop 1) && !(sufR ((pieces 47 p)[n])).2) := by
  have hma := majorR_alt p
  unfold looksB
  cases hs : splitLast 47 p with
  | none =>
    have hp := pieces_one 47 p (splitLast_none.1 hs)
    have h0 : n = 0 := by rw [hp] at hn; simpa using hn.symm
    subst h0
    simp
  | some ft =>
    obtain ⟨f, t⟩ := ft
    obtain ⟨he, hf⟩ := splitLast_some.1 hs
    have hp : pieces 47 p = pieces 47 f ++ [t] := by rw [he, pieces_join, pieces_one 47 t hf]
    have hl : (pieces 47 f).length = n := by rw [hp] at hn; simpa using hn
    have h0 : 0 < n := by
      have := List.length_pos_iff.2 (pieces_ne 47 f)
      omega
    have ht : (pieces 47 p)[n] = t := by
      have : (pieces 47 p)[n]? = some t := by rw [hp, List.getElem?_append_right (by omega), hl]; simp
      rw [List.getElem?_eq_getElem (by omega)] at this
      exact Option.some.inj this
    rw [ht]
    rw [hs] at hma
    simp only at hma
    have e : decide ((majorR p).2 = 0) = !(sufR t).2 := by
      rw [hma]
      cases h2 : (sufR t).2 with
      | false => simp
      | true =>
        have := sufR_big h2
        simp [this]
    rw [e]
    simp only [h0, decide_true, Bool.true_and]
    cases (sufR t).2 <;> simp

theorem pieces_first (c : UInt8) (p : Str) (h : 0 < (pieces c p).length) : (pieces c p)[0] = ahead c p := by
  cases hc : p.contains c with
  | false =>
    have e := pieces_one c p hc
    have : (pieces c p)[0]? = some p := by rw [e]; rfl
    rw [List.getElem?_eq_getElem h] at this
    rw [Option.some.inj this, (ahead_none c p hc).1]
  | true =>
    have e := ahead_behind c p hc
    have hf : (ahead c p).contains c = false := not_mem_ahead c p
    have e2 : pieces c p = ahead c p :: pieces c (behind c p) := by
      have := pieces_join c (ahead c p) (behind c p)
      rw [← e, pieces_one c _ hf] at this
      exact this
    have : (pieces c p)[0]? = some (ahead c p) := by rw [e2]; rfl
    rw [List.getElem?_eq_getElem h] at this
    exact Option.some.inj this

end Go.Proofs.YthcafeoamabkgaaGreatDoor

namespace Go.Proofs.YthcafeoamabkgaaGreatDoor
open Go.RowKit

theorem getD_at {ps : List Str} {k : Nat} (h : k < ps.length) : ps.getD k [] = ps[k] := by simp [List.getD, h]

theorem pathR_in {p : Str} (h : ¬ 100 < p.length) : pathR p = if !(pieces 47 p).all (elemB pathB) || !hostOk (ahead 47 p) then 9 else if decide ((majorR p).2 = 0) && looksB p then 10 else 0 := by
  unfold pathR
  rw [if_neg h]; rfl

theorem elem_some {q : UInt8 → Bool} {l : Str} (h : elemB q l = true) : 0 < l.length ∧ l.all q = true := by
  unfold elemB at h
  simp only [Bool.and_eq_true, Bool.not_eq_true'] at h
  refine ⟨?_, h.1.1.2⟩
  cases l with
  | nil => simp at h
  | cons a t => simp

set_option maxHeartbeats 4000000 in
theorem refPath_any (p : Str) (w : World) : Tells 152 #[.string (ba p)] w (.int .i64 (pathR p : Int)) := by
  unfold Tells
  have hsz : (ba p).size = p.length := ba_size p
  by_cases hl : 100 < p.length
  · have HN : Hid (13 = pathR p) := by show 13 = pathR p; unfold pathR; rw [if_pos hl]
    go_enter Tryz.func152, Tryz.ntmps152
    go_wp2
    go_ret
    exact ⟨ret_num (unhide HN), Below.refl _ _⟩
  · have HN := hide (pathR_in hl)
    have hpb := pieces_bound (c := 47) (l := p) (by omega)
    obtain ⟨n, hn⟩ : ∃ n, (pieces 47 p).length = n + 1 := ⟨(pieces 47 p).length - 1, by have := List.length_pos_iff.2 (pieces_ne 47 p); omega⟩
    have hten := path_ten hn
    have hfst := pieces_first 47 p (by omega)
    rw [← hfst] at HN
    obtain ⟨ps, hps⟩ : ∃ ps, pieces 47 p = ps := ⟨_, rfl⟩
    have HN : Hid (pathR p = if !ps.all (elemB pathB) || !hostOk (ps.getD 0 []) then 9 else if decide (0 < n) && Lib.hasPrefix (ps.getD n []) [118] && digitsB ((ps.getD n []).drop 1) && !(sufR (ps.getD n [])).2 then 10 else 0) := by
      have e0 : ps.getD 0 [] = (pieces 47 p)[0] := by rw [← hps, getD_at (by omega)]
      have e1 : ps.getD n [] = (pieces 47 p)[n] := by rw [← hps, getD_at (by omega)]
      show pathR p = _
      rw [e0, e1, ← hten, ← hps]
      exact unhide HN
    rw [hps] at hpb hn
    have hpn := hpb.1
    have HSM := hide hpb.2
    have HPC := hide hps
    clear hpb hps hten hfst
    have l0 : 0 < ps.length := by omega
    have ln : n < ps.length := by omega
    obtain ⟨F, hF⟩ : ∃ F, ps[0] = F := ⟨_, rfl⟩
    obtain ⟨L, hL⟩ : ∃ L, ps[n] = L := ⟨_, rfl⟩
    have HN : Hid (pathR p = if !ps.all (elemB pathB) || !hostOk F then 9 else if decide (0 < n) && Lib.hasPrefix L [118] && digitsB (L.drop 1) && !(sufR L).2 then 10 else 0) := by
      have e0 : ps.getD 0 [] = F := by rw [getD_at l0, hF]
      have e1 : ps.getD n [] = L := by rw [getD_at ln, hL]
      rw [← e0, ← e1]; exact HN
    have lF : F.length ≤ 4294967281 := by rw [← hF]; exact (unhide HSM) _ (List.getElem_mem l0)
    have lL : L.length ≤ 4294967281 := by rw [← hL]; exact (unhide HSM) _ (List.getElem_mem ln)
    have HF0 := hide hF
    have HLn := hide hL
    clear hF hL
    go_enter Tryz.func152, Tryz.ntmps152
    go_wp2_with (go_at_call 44; fail)
    refine (refCut_any 47 (l := p) (by omega) _).mono ?_
    rintro e w1 ⟨B, cp, rfl, tx, hB, b1⟩
    rw [unhide HPC] at tx ⊢
    have HT := hide tx
    clear tx
    go_wp2
    go_loop [4, 5] (fun i _ => ∃ k : Nat, k ≤ n + 1 ∧ i = .int .i64 k ∧ (ps.take k).all (elemB pathB) = true) (fun i _ => n + 1 - (intOf i).toNat)
    case atStart => exact ⟨0, Nat.zero_le _, rfl, rfl⟩
    case round =>
      obtain ⟨k, hk, rfl, hall⟩ := hrel
      have HA := hide hall
      clear hall
      by_cases hltn : k < n + 1
      · have hlt : k < ps.length := by omega
        have hc := (unhide HT) k hlt
        cases hv : elemB pathB ps[k] with
        | false =>
          have HF : Hid (9 = pathR p) := by show 9 = pathR p; rw [unhide HN, all_no hlt hv]; rfl
          have HV := hide hv
          clear hv
          go_wp2_with (go_at_call 157; refine (refElem_is (x := 46) (unhide HV) path_parts ((unhide HSM) _ (List.getElem_mem hlt)) _).mono ?_; rintro e w4 ⟨rfl, hw⟩; rw [hw]; clear hw w4)
          go_ret
          exact ⟨ret_num (unhide HF), b1⟩
        | true =>
          have HF := hide (all_take (unhide HA) hlt hv)
          have HV := hide hv
          clear HA hv
          go_wp2_with (go_at_call 157; refine (refElem_is (x := 46) (unhide HV) path_parts ((unhide HSM) _ (List.getElem_mem hlt)) _).mono ?_; rintro e w4 ⟨rfl, hw⟩; rw [hw]; clear hw w4)
          go_round
          case rel => exact ⟨k + 1, hltn, by simp, unhide HF⟩
          case measure => simp [intOf]; omega
      · have hke : k = n + 1 := by omega
        subst hke
        have hall : ps.all (elemB pathB) = true := by
          have := unhide HA
          rw [← hn, List.take_length] at this
          exact this
        rw [hall] at HN
        have hF1 : elemB pathB F = true := by rw [← unhide HF0]; exact List.all_eq_true.1 hall _ (List.getElem_mem l0)
        have hL1 : elemB pathB L = true := by rw [← unhide HLn]; exact List.all_eq_true.1 hall _ (List.getElem_mem ln)
        have HF1 := hide (elem_some hF1)
        have hL2 := (elem_some hL1).1
        have c0 := (unhide HT) 0 l0
        have cn := (unhide HT) n ln
        rw [unhide HF0] at c0
        rw [unhide HLn] at cn
        clear HA hall hF1 hL1
        cases hh : hostOk F with
        | false =>
          have HF : Hid (9 = pathR p) := by show 9 = pathR p; rw [unhide HN, hh]; rfl
          have HH := hide hh
          clear hh HN
          go_wp2_with (go_at_call 190; refine (refHost_is (unhide HH) (unhide HF1).1 (unhide HF1).2 lF _).mono ?_; rintro e w4 ⟨rfl, hw⟩; rw [hw]; clear hw w4)
          go_ret
          exact ⟨ret_num (unhide HF), b1⟩
        | true =>
          rw [hh] at HN
          have HH := hide hh
          clear hh
          obtain ⟨m, hm⟩ : ∃ m, L.length = m + 1 := ⟨L.length - 1, by omega⟩
          have hsL := ba_size L
          have hg0 := ba_get L 0 hL2
          have hpx : Lib.hasPrefix L [118] = ((L[0].toNat : Int) == 118) := prefix_at 118 hL2
          obtain ⟨u, hu⟩ : ∃ u, L.drop 1 = u := ⟨_, rfl⟩
          have lu : u.length ≤ 4294967281 := by rw [← hu]; simp; omega
          have hx : (ba L).extract 1 (m + 1) = ba u := by rw [sub_of, hu, List.take_of_length_le (by rw [← hu]; simp; omega)]
          obtain ⟨y, ok, hr⟩ : ∃ y ok, sufR L = (y, ok) := ⟨_, _, rfl⟩
          rw [hpx, hu, hr] at HN
          have HR := hide hr
          clear hpx hu hr
          by_cases h1 : 0 < n
          · have h1' : (1 : Int) < (n : Int) + 1 := by omega
            have h1d : decide (0 < n) = true := by simp [h1]
            rw [h1d] at HN
            cases h2 : ((L[0].toNat : Int) == 118) with
            | false =>
              have HF : Hid (0 = pathR p) := by show 0 = pathR p; rw [unhide HN, h2]; simp
              clear HN
              go_wp2_with (first | (go_at_call 190; refine (refHost_is (unhide HH) (unhide HF1).1 (unhide HF1).2 lF _).mono ?_; rintro e w4 ⟨rfl, hw⟩; rw [hw]; clear hw w4) | (go_at_call 191; fail))
              refine (suf_is (unhide HR) (by omega) _).mono ?_
              rintro e w4 ⟨rfl, hw⟩
              rw [hw]
              clear hw w4
              unfold sufV
              go_wp2
              go_ret
              exact ⟨ret_num (unhide HF), b1⟩
            | true =>
              rw [h2] at HN
              cases h3 : digitsB u with
              | false =>
                rw [h3] at HN
                have HG := hide h3
                clear h3
                have HF : Hid (0 = pathR p) := by show 0 = pathR p; rw [unhide HN]; simp
                clear HN
                go_wp2_with (first | (go_at_call 190; refine (refHost_is (unhide HH) (unhide HF1).1 (unhide HF1).2 lF _).mono ?_; rintro e w4 ⟨rfl, hw⟩; rw [hw]; clear hw w4) | (go_at_call 191; fail))
                refine (suf_is (unhide HR) (by omega) _).mono ?_
                rintro e w4 ⟨rfl, hw⟩
                rw [hw]
                clear hw w4
                unfold sufV
                go_wp2_with (go_at_call 192; refine (refDigits_is (unhide HG) lu _).mono ?_; rintro e w4 ⟨rfl, hw⟩; rw [hw]; clear hw w4)
                go_ret
                exact ⟨ret_num (unhide HF), b1⟩
              | true =>
                rw [h3] at HN
                have HG := hide h3
                clear h3
                cases ok with
                | false =>
                  have HF : Hid (10 = pathR p) := by show 10 = pathR p; rw [unhide HN]; simp
                  clear HN
                  go_wp2_with (first | (go_at_call 190; refine (refHost_is (unhide HH) (unhide HF1).1 (unhide HF1).2 lF _).mono ?_; rintro e w4 ⟨rfl, hw⟩; rw [hw]; clear hw w4) | (go_at_call 191; fail))
                  refine (suf_is (unhide HR) (by omega) _).mono ?_
                  rintro e w4 ⟨rfl, hw⟩
                  rw [hw]
                  clear hw w4
                  unfold sufV
                  go_wp2_with (go_at_call 192; refine (refDigits_is (unhide HG) lu _).mono ?_; rintro e w4 ⟨rfl, hw⟩; rw [hw]; clear hw w4)
                  go_ret
                  exact ⟨ret_num (unhide HF), b1⟩
                | true =>
                  have HF : Hid (0 = pathR p) := by show 0 = pathR p; rw [unhide HN]; simp
                  clear HN
                  go_wp2_with (first | (go_at_call 190; refine (refHost_is (unhide HH) (unhide HF1).1 (unhide HF1).2 lF _).mono ?_; rintro e w4 ⟨rfl, hw⟩; rw [hw]; clear hw w4) | (go_at_call 191; fail))
                  refine (suf_is (unhide HR) (by omega) _).mono ?_
                  rintro e w4 ⟨rfl, hw⟩
                  rw [hw]
                  clear hw w4
                  unfold sufV
                  go_wp2_with (go_at_call 192; refine (refDigits_is (unhide HG) lu _).mono ?_; rintro e w4 ⟨rfl, hw⟩; rw [hw]; clear hw w4)
                  go_ret
                  exact ⟨ret_num (unhide HF), b1⟩
          · have h1' : ¬ (1 : Int) < (n : Int) + 1 := by omega
            have h1d : decide (0 < n) = false := by simp [h1]
            rw [h1d] at HN
            have HF : Hid (0 = pathR p) := by show 0 = pathR p; rw [unhide HN]; simp
            clear HN
            go_wp2_with (first | (go_at_call 190; refine (refHost_is (unhide HH) (unhide HF1).1 (unhide HF1).2 lF _).mono ?_; rintro e w4 ⟨rfl, hw⟩; rw [hw]; clear hw w4) | (go_at_call 191; fail))
            refine (suf_is (unhide HR) (by omega) _).mono ?_
            rintro e w4 ⟨rfl, hw⟩
            rw [hw]
            clear hw w4
            unfold sufV
            go_wp2
            go_ret
            exact ⟨ret_num (unhide HF), b1⟩

end Go.Proofs.YthcafeoamabkgaaGreatDoor

namespace Go.Proofs.YthcafeoamabkgaaGreatDoor
open Go.RowKit

theorem refMajor_is {p f : Str} {n : Nat} (h : majorR p = (f, n)) (hl : p.length < 4294967281) (w : World) : Calls Tryz.prog 194 #[.string (ba p)] w fun e w' => e = .returned (.tuple #[.string (ba f), .int .i64 (n : Int)]) ∧ w' = w := by
  have e := refMajor_any hl w
  rw [h] at e
  exact e

theorem refMatches_none {v p : Str} (h : parseV v = none) (hl : p.length < 4294967281) (w : World) : Tells 154 #[.string (ba v), .string (ba p)] w (.bool (matchesR v p)) := by
  unfold Tells
  have HM : Hid (matchesR v p = false) := by show matchesR v p = false; unfold matchesR; rw [h]
  obtain ⟨f, n, hj⟩ : ∃ f n, majorR p = (f, n) := ⟨_, _, rfl⟩
  have HP := hide h
  have HJ := hide hj
  rw [unhide HM]
  clear h hj
  go_enter Tryz.func154, Tryz.ntmps154
  go_wp2_with (go_at_call 193; fail)
  refine (refParts_none (unhide HP) _).mono ?_
  rintro e w1 ⟨rfl, b1⟩
  go_wp2_with (go_at_call 194; refine (refMajor_is (unhide HJ) hl _).mono ?_; rintro e w4 ⟨rfl, hw⟩; rw [hw]; clear hw w4)
  go_ret
  exact ⟨rfl, b1⟩

theorem refMatches_some {v p : Str} {x : Ver} (h : parseV v = some x) (hl : p.length < 4294967281) (w : World) : Tells 154 #[.string (ba v), .string (ba p)] w (.bool (matchesR v p)) := by
  unfold Tells
  obtain ⟨f, n, hj⟩ : ∃ f n, majorR p = (f, n) := ⟨_, _, rfl⟩
  have hm : matchesR v p = if n = 0 then decide (x.a ≤ 1) else decide (x.a = n) := by unfold matchesR; rw [h, hj]
  have HP := hide h
  have HJ := hide hj
  clear h hj
  by_cases h0 : n = 0
  · subst h0
    have HM : Hid (matchesR v p = decide ((x.a : Int) ≤ 1)) := by
      show matchesR v p = _
      rw [hm, if_pos rfl, Bool.eq_iff_iff]; simp; omega
    clear hm
    cases ha : ((0 : Int) == (x.a : Int)) with
    | true =>
      have HM : Hid (matchesR v p = true) := by
        show matchesR v p = true
        rw [unhide HM]
        simp only [beq_iff_eq] at ha
        simp; omega
      rw [unhide HM]
      go_enter Tryz.func154, Tryz.ntmps154
      go_wp2_with (go_at_call 193; fail)
      refine (refParts_some (unhide HP) _).mono ?_
      rintro e w1 ⟨rfl, b1⟩
      go_wp2_with (go_at_call 194; refine (refMajor_is (unhide HJ) hl _).mono ?_; rintro e w4 ⟨rfl, hw⟩; rw [hw]; clear hw w4)
      go_ret
      exact ⟨rfl, b1⟩
    | false =>
      rw [unhide HM]
      go_enter Tryz.func154, Tryz.ntmps154
      go_wp2_with (go_at_call 193; fail)
      refine (refParts_some (unhide HP) _).mono ?_
      rintro e w1 ⟨rfl, b1⟩
      go_wp2_with (go_at_call 194; refine (refMajor_is (unhide HJ) hl _).mono ?_; rintro e w4 ⟨rfl, hw⟩; rw [hw]; clear hw w4)
      go_ret
      exact ⟨rfl, b1⟩
  · have h0' : ((n : Int) == 0) = false := by simp; omega
    rw [if_neg h0] at hm
    cases ha : ((n : Int) == (x.a : Int)) with
    | true =>
      have HM : Hid (matchesR v p = true) := by
        show matchesR v p = true
        simp only [beq_iff_eq] at ha
        rw [hm]; simp; omega
      rw [unhide HM]
      clear hm
      go_enter Tryz.func154, Tryz.ntmps154
      go_wp2_with (go_at_call 193; fail)
      refine (refParts_some (unhide HP) _).mono ?_
      rintro e w1 ⟨rfl, b1⟩
      go_wp2_with (go_at_call 194; refine (refMajor_is (unhide HJ) hl _).mono ?_; rintro e w4 ⟨rfl, hw⟩; rw [hw]; clear hw w4)
      go_ret
      exact ⟨rfl, b1⟩
    | false =>
      have HM : Hid (matchesR v p = false) := by
        show matchesR v p = false
        simp only [beq_eq_false_iff_ne] at ha
        rw [hm]; simp; omega
      rw [unhide HM]
      clear hm
      go_enter Tryz.func154, Tryz.ntmps154
      go_wp2_with (go_at_call 193; fail)
      refine (refParts_some (unhide HP) _).mono ?_
      rintro e w1 ⟨rfl, b1⟩
      go_wp2_with (go_at_call 194; refine (refMajor_is (unhide HJ) hl _).mono ?_; rintro e w4 ⟨rfl, hw⟩; rw [hw]; clear hw w4)
      go_ret
      exact ⟨rfl, b1⟩

theorem refMatches_is {v p : Str} {b : Bool} (h : matchesR v p = b) (hl : p.length < 4294967281) (w : World) : Tells 154 #[.string (ba v), .string (ba p)] w (.bool b) := by
  rw [← h]
  cases hp : parseV v with
  | none => exact refMatches_none hp hl w
  | some x => exact refMatches_some hp hl w

theorem refPath_is {p : Str} {n : Nat} (h : pathR p = n) (w : World) : Tells 152 #[.string (ba p)] w (.int .i64 (n : Int)) := by rw [← h]; exact refPath_any p w
theorem refImport_is {p : Str} {n : Nat} (h : importR p = n) (w : World) : Tells 115 #[.string (ba p)] w (.int .i64 (n : Int)) := by rw [← h]; exact refImport_any p w

theorem boxedR {w w1 : World} {a b : Value} {t : TypeId} (h : Below (w.alloc (.cells #[a, b] t)).heap.size (w.alloc (.cells #[a, b] t)) w1) : w1.cell? ⟨w.heap.size, 0, none⟩ = some a ∧ w1.cell? ⟨w.heap.size, 1, none⟩ = some b ∧ Below w.heap.size w w1 := by
  have hlt : w.heap.size < (w.alloc (.cells #[a, b] t)).heap.size := by
    show w.heap.size < (w.heap.push _).size
    simp
  have h0 := heap_new w (.cells #[a, b] t)
  refine ⟨?_, ?_, ?_⟩
  · rw [h.cell (p := ⟨w.heap.size, 0, none⟩) hlt, Lib.cell_of_heap h0]; rfl
  · rw [h.cell (p := ⟨w.heap.size, 1, none⟩) hlt, Lib.cell_of_heap h0]; rfl
  · have b0 : Below w.heap.size w (w.alloc (.cells #[a, b] t)) := (Below.refl _ _).alloc (Nat.le_refl _) _
    exact low_trans b0 h

theorem keptR {w1 w2 : World} {B k : Nat} {a : Value} (h : w1.cell? ⟨B, k, none⟩ = some a) (hB : B < w1.heap.size) (hb : Below w1.heap.size w1 w2) : w2.cell? ⟨B, k, none⟩ = some a := (hb.cell (p := ⟨B, k, none⟩) hB).trans h

theorem boxed_inR {w w1 : World} {a b : Value} {t : TypeId} (h : Below (w.alloc (.cells #[a, b] t)).heap.size (w.alloc (.cells #[a, b] t)) w1) : w.heap.size < w1.heap.size := by
  have := h.size
  have hlt : w.heap.size < (w.alloc (.cells #[a, b] t)).heap.size := by
    show w.heap.size < (w.heap.push _).size
    simp
  omega


theorem refCheck_path {p v : Str} (h : pathR p ≠ 0) (w : World) : Tells 107 #[.agg #[.string (ba p), .string (ba v)]] w (.int .i64 (checkR p v : Int)) := by
  unfold Tells
  have HM : Hid (checkR p v = pathR p) := by show checkR p v = pathR p; unfold checkR; rw [if_pos h]
  rw [unhide HM]
  obtain ⟨n, hn⟩ : ∃ n, pathR p = n := ⟨_, rfl⟩
  rw [hn] at h ⊢
  have hnn : ¬ (n : Int) = 0 := by omega
  have HN := hide hn
  clear hn h HM
  go_enter Tryz.func107, Tryz.ntmps107
  go_wp2_with (go_at_call 152; fail)
  refine (refPath_is (unhide HN) _).mono ?_
  rintro e w1 ⟨rfl, b1⟩
  obtain ⟨c0, c1, b2⟩ := boxedR b1
  clear b1
  go_wp2
  go_ret
  exact ⟨rfl, b2⟩

theorem refCheck_version {p v : Str} (h : pathR p = 0) (hv : parseV v = none) (w : World) : Tells 107 #[.agg #[.string (ba p), .string (ba v)]] w (.int .i64 (checkR p v : Int)) := by
  unfold Tells
  have HM : Hid (checkR p v = 8) := by show checkR p v = 8; unfold checkR; rw [if_neg (by simp [h]), hv]; rfl
  rw [unhide HM]
  have hv2 : (parseV v).isSome = false := by rw [hv]; rfl
  have HN := hide h
  have HV := hide hv2
  clear h hv hv2 HM
  go_enter Tryz.func107, Tryz.ntmps107
  go_wp2_with (go_at_call 152; fail)
  refine (refPath_is (unhide HN) _).mono ?_
  rintro e w1 ⟨rfl, b1⟩
  obtain ⟨c0, c1, b2⟩ := boxedR b1
  clear b1
  go_wp2_with (go_at_call 153; fail)
  refine (refValid_is (unhide HV) _).mono ?_
  rintro e w2 ⟨rfl, b3⟩
  have b3 := low_trans b2 b3
  clear b2
  go_wp2
  go_ret
  exact ⟨rfl, b3⟩

theorem refCheck_match {p v : Str} (h : pathR p = 0) (hv : (parseV v).isSome = true) (hl : p.length < 4294967281) (w : World) : Tells 107 #[.agg #[.string (ba p), .string (ba v)]] w (.int .i64 (checkR p v : Int)) := by
  unfold Tells
  have hn : (parseV v).isNone = false := by
    cases hh : parseV v with
    | none => rw [hh] at hv; cases hv
    | some x => rfl
  have hm : checkR p v = if matchesR v p then 0 else 10 := by unfold checkR; rw [if_neg (by simp [h]), hn]; rfl
  rw [hm]
  have HN := hide h
  have HV := hide hv
  cases hmm : matchesR v p with
  | false =>
    have HM := hide hmm
    clear h hv hm hn hmm
    go_enter Tryz.func107, Tryz.ntmps107
    go_wp2_with (go_at_call 152; fail)
    refine (refPath_is (unhide HN) _).mono ?_
    rintro e w1 ⟨rfl, b1⟩
    obtain ⟨c0, c1, b2⟩ := boxedR b1
    have hin := boxed_inR b1
    clear b1
    go_wp2_with (go_at_call 153; fail)
    refine (refValid_is (unhide HV) _).mono ?_
    rintro e w2 ⟨rfl, b3⟩
    have d0 := keptR c0 hin b3
    have d1 := keptR c1 hin b3
    have b3 := low_trans b2 b3
    clear b2 c0 c1
    go_wp2_with (go_at_call 154; fail)
    refine (refMatches_is (unhide HM) hl _).mono ?_
    rintro e w3 ⟨rfl, b4⟩
    have b4 := low_trans b3 b4
    clear b3
    go_wp2
    go_ret
    exact ⟨rfl, b4⟩
  | true =>
    have HM := hide hmm
    clear h hv hm hn hmm
    go_enter Tryz.func107, Tryz.ntmps107
    go_wp2_with (go_at_call 152; fail)
    refine (refPath_is (unhide HN) _).mono ?_
    rintro e w1 ⟨rfl, b1⟩
    obtain ⟨c0, c1, b2⟩ := boxedR b1
    have hin := boxed_inR b1
    clear b1
    go_wp2_with (go_at_call 153; fail)
    refine (refValid_is (unhide HV) _).mono ?_
    rintro e w2 ⟨rfl, b3⟩
    have d0 := keptR c0 hin b3
    have d1 := keptR c1 hin b3
    have b3 := low_trans b2 b3
    clear b2 c0 c1
    go_wp2_with (go_at_call 154; fail)
    refine (refMatches_is (unhide HM) hl _).mono ?_
    rintro e w3 ⟨rfl, b4⟩
    have b4 := low_trans b3 b4
    clear b3
    go_wp2
    go_ret
    exact ⟨rfl, b4⟩

theorem refCheck_is {p v : Str} {n : Nat} (h : checkR p v = n) (hl : p.length < 4294967281) (w : World) : Tells 107 #[.agg #[.string (ba p), .string (ba v)]] w (.int .i64 (n : Int)) := by
  rw [← h]
  by_cases h0 : pathR p = 0
  · cases hv : parseV v with
    | none => exact refCheck_version h0 hv w
    | some x => exact refCheck_match h0 (by rw [hv]; rfl) hl w
  · exact refCheck_path h0 w


end Go.Proofs.YthcafeoamabkgaaGreatDoor
