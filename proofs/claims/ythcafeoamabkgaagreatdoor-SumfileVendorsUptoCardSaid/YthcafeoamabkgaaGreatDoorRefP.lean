/-
  The reference's Valid.
-/
import Derived.Test.YthcafeoamabkgaaGreatDoorMatX
import Derived.Test.YthcafeoamabkgaaGreatDoorPthX
import Derived.Test.YthcafeoamabkgaaGreatDoorPure5
namespace Go.Proofs.YthcafeoamabkgaaGreatDoor
open Go.RowKit

theorem refUpper_asks : Asks 197 upperB := by
  intro c w
  go_enter Tryz.func197, Tryz.ntmps197
  go_wp2
  all_goals
    go_ret
    refine ⟨ret_bool ?_, rfl⟩
    rw [Bool.eq_iff_iff]
    first | (simp_all [upperB]; done) | (simp_all [upperB]; omega)
theorem refLower_asks : Asks 196 lowerB := by
  intro c w
  go_enter Tryz.func196, Tryz.ntmps196
  go_wp2
  all_goals
    go_ret
    refine ⟨ret_bool ?_, rfl⟩
    rw [Bool.eq_iff_iff]
    first | (simp_all [lowerB]; done) | (simp_all [lowerB]; omega)

theorem all_no8 {p : UInt8 → Bool} {ps : Str} {k : Nat} (hk : k < ps.length) (hp : p ps[k] = false) : ps.all p = false := by
  rw [List.all_eq_false]
  exact ⟨ps[k], List.getElem_mem hk, by rw [hp]; decide⟩
theorem all_take8 {p : UInt8 → Bool} {ps : Str} {k : Nat} (h : (ps.take k).all p = true) (hk : k < ps.length) (hp : p ps[k] = true) : (ps.take (k + 1)).all p = true := by
  rw [List.take_add_one, List.all_append, h, List.getElem?_eq_getElem hk]
  simp [hp]


/-- A call that answers v and leaves all that was. -/
def Tells (n : Nat) (args : Array Value) (w : World) (v : Value) : Prop := Calls Tryz.prog n args w fun e w' => e = .returned v ∧ Below w.heap.size w w'

end Go.Proofs.YthcafeoamabkgaaGreatDoor

namespace Go.Proofs.YthcafeoamabkgaaGreatDoor
open Go.RowKit

theorem refDigit_asks : Asks 195 digitB := by
  intro c w
  go_enter Tryz.func195, Tryz.ntmps195
  go_wp2
  all_goals
    go_ret
    refine ⟨ret_bool ?_, rfl⟩
    rw [Bool.eq_iff_iff]
    first | (simp_all [digitB]; done) | (simp_all [digitB]; omega)

theorem refDigits_any {l : Str} (hl : l.length ≤ 4294967281) (w : World) : Calls Tryz.prog 192 #[.string (ba l)] w fun e w' => e = .returned (.bool (digitsB l)) ∧ w' = w := by
  have hsz : (ba l).size = l.length := ba_size l
  have hli := ba_list l
  go_enter Tryz.func192, Tryz.ntmps192
  go_wp2
  go_loop [3] (fun i => ∃ k : Nat, k ≤ l.length ∧ i = .int .i64 k ∧ (l.take k).all digitB = true) (fun i => l.length - (intOf i).toNat)
  case atStart => exact ⟨0, Nat.zero_le _, rfl, rfl⟩
  case round =>
    obtain ⟨k, hk, rfl, hall⟩ := hrel
    have HA := hide hall
    clear hall
    by_cases hlt : k < l.length
    · have hg := ba_get l k hlt
      cases hp : digitB l[k] with
      | false =>
        have HV : Hid (digitsB l = false) := by show digitsB l = false; unfold digitsB; rw [all_no8 hlt hp]; simp
        have HP := hide hp
        clear hp
        go_wp2_with (go_at_call 195; refine (asks_is (unhide HP) refDigit_asks _).mono ?_; rintro e w1 ⟨rfl, hw⟩; rw [hw]; clear hw w1)
        go_ret
        exact ⟨ret_bool (unhide HV).symm, rfl⟩
      | true =>
        have HF := hide (all_take8 (unhide HA) hlt hp)
        have HP := hide hp
        clear HA hp
        go_wp2_with (go_at_call 195; refine (asks_is (unhide HP) refDigit_asks _).mono ?_; rintro e w1 ⟨rfl, hw⟩; rw [hw]; clear hw w1)
        go_round
        case rel => exact ⟨k + 1, hlt, by simp, unhide HF⟩
        case measure => simp [intOf]; omega
    · have hke : k = l.length := by omega
      subst hke
      have HV : Hid (digitsB l = !l.isEmpty) := by
        have := unhide HA
        rw [List.take_length] at this
        show digitsB l = _
        unfold digitsB; rw [this]; simp
      go_wp2
      go_ret
      exact ⟨ret_bool (unhide HV).symm, rfl⟩
theorem refDigits_is {l : Str} {b : Bool} (h : digitsB l = b) (hl : l.length ≤ 4294967281) (w : World) : Calls Tryz.prog 192 #[.string (ba l)] w fun e w' => e = .returned (.bool b) ∧ w' = w := by rw [← h]; exact refDigits_any hl w

theorem digits_cons {l : Str} (h : digitsB l = true) : 0 < l.length := by
  simp only [digitsB, Bool.and_eq_true, Bool.not_eq_true', List.isEmpty_eq_false_iff] at h
  exact List.length_pos_iff.2 h.1
theorem zero_form {l : Str} (h : 0 < l.length) : zeroAheadB l = (!(l == [48]) && ((l[0].toNat : Int) == 48)) := by
  unfold zeroAheadB
  cases l with
  | nil => simp at h
  | cons a t =>
    have e : ((a.toNat : Int) == 48) = decide (a = 48) := by
      rw [Bool.eq_iff_iff]; simp only [beq_iff_eq, decide_eq_true_eq]
      constructor
      · intro h; apply UInt8.toNat_inj.1; have : (48 : UInt8).toNat = 48 := rfl; omega
      · rintro rfl; rfl
    simp only [List.getD_cons_zero, List.getElem_cons_zero, e, List.length_cons]
    cases t with
    | nil => by_cases ha : a = 48 <;> simp [ha]
    | cons b t => by_cases ha : a = 48 <;> simp [ha]

theorem refNumber_any {l : Str} (hl : l.length ≤ 4294967281) (w : World) : Calls Tryz.prog 241 #[.string (ba l)] w fun e w' => e = .returned (.bool (numOk l)) ∧ w' = w := by
  have hsz : (ba l).size = l.length := ba_size l
  have hli := ba_list l
  cases hd : digitsB l with
  | false =>
    have HV : Hid (numOk l = false) := by show numOk l = false; unfold numOk; rw [hd]; simp
    have HD := hide hd
    clear hd
    go_enter Tryz.func241, Tryz.ntmps241
    go_wp2_with (go_at_call 192; refine (refDigits_is (unhide HD) hl _).mono ?_; rintro e w1 ⟨rfl, hw⟩; rw [hw]; clear hw w1)
    go_ret
    exact ⟨ret_bool (unhide HV).symm, rfl⟩
  | true =>
    have h0 := digits_cons hd
    have hg := ba_get l 0 h0
    by_cases h9 : l.length ≤ 9
    · have hz := zero_form h0
      have h9i : (l.length : Int) ≤ 9 := by omega
      have h9b : decide ((l.length : Int) ≤ 9) = true := by simpa using h9i
      cases hq : (l == [48]) with
      | true =>
        have HV : Hid (numOk l = true) := by show numOk l = true; unfold numOk; rw [hd, hz, hq]; simp [h9]
        have HD := hide hd
        clear hd hz
        go_enter Tryz.func241, Tryz.ntmps241
        go_wp2_with (go_at_call 192; refine (refDigits_is (unhide HD) hl _).mono ?_; rintro e w1 ⟨rfl, hw⟩; rw [hw]; clear hw w1)
        go_ret
        exact ⟨ret_bool (unhide HV).symm, rfl⟩
      | false =>
        have HV : Hid (numOk l = ((l[0].toNat : Int) != 48)) := by show numOk l = _; unfold numOk; rw [hd, hz, hq]; simp [h9, bne]
        have HD := hide hd
        clear hd hz
        go_enter Tryz.func241, Tryz.ntmps241
        go_wp2_with (go_at_call 192; refine (refDigits_is (unhide HD) hl _).mono ?_; rintro e w1 ⟨rfl, hw⟩; rw [hw]; clear hw w1)
        go_ret
        exact ⟨ret_bool (unhide HV).symm, rfl⟩
    · have HV : Hid (numOk l = false) := by show numOk l = false; unfold numOk; simp [h9]
      have h9b : decide ((l.length : Int) ≤ 9) = false := by simp; omega
      have HD := hide hd
      clear hd h9
      go_enter Tryz.func241, Tryz.ntmps241
      go_wp2_with (go_at_call 192; refine (refDigits_is (unhide HD) hl _).mono ?_; rintro e w1 ⟨rfl, hw⟩; rw [hw]; clear hw w1)
      go_ret
      exact ⟨ret_bool (unhide HV).symm, rfl⟩
theorem refNumber_is {l : Str} {b : Bool} (h : numOk l = b) (hl : l.length ≤ 4294967281) (w : World) : Calls Tryz.prog 241 #[.string (ba l)] w fun e w' => e = .returned (.bool b) ∧ w' = w := by rw [← h]; exact refNumber_any hl w

end Go.Proofs.YthcafeoamabkgaaGreatDoor

namespace Go.Proofs.YthcafeoamabkgaaGreatDoor
open Go.RowKit

theorem quo_small {x : Int} (h0 : 0 ≤ x) (h9 : x ≤ 9) : (-9223372036854775808 + x).tdiv 10 ≤ -922337203685477579 := by
  have : x = 0 ∨ x = 1 ∨ x = 2 ∨ x = 3 ∨ x = 4 ∨ x = 5 ∨ x = 6 ∨ x = 7 ∨ x = 8 ∨ x = 9 := by omega
  rcases this with rfl | rfl | rfl | rfl | rfl | rfl | rfl | rfl | rfl | rfl <;> decide

theorem numVal_take {l : Str} {k : Nat} (h : k < l.length) : numVal (l.take (k + 1)) = numVal (l.take k) * 10 + (l[k].toNat - 48) := by
  rw [List.take_add_one, List.getElem?_eq_getElem h]
  exact numVal_append _ _

theorem numVal_bound {l : Str} (h : l.all digitB = true) (h9 : l.length ≤ 9) (k : Nat) : numVal (l.take k) ≤ 999999999 := by
  have h1 := numVal_lt (l.take k).length (l.take k) (Nat.le_refl _) (by rw [List.all_eq_true] at h ⊢; intro c hc; exact h c (List.mem_of_mem_take hc))
  have h2 : 10 ^ (l.take k).length ≤ 10 ^ 9 := Nat.pow_le_pow_right (by decide) (by simp; omega)
  have h3 : (10 : Nat) ^ 9 = 1000000000 := by decide
  omega

set_option maxHeartbeats 1000000 in
theorem refAtoi_ok {l : Str} (h : numOk l = true) (w : World) : Calls Tryz.prog 242 #[.string (ba l)] w fun e w' => e = .returned (.tuple #[.int .i64 (numVal l : Int), .bool true]) ∧ w' = w := by
  have hsz : (ba l).size = l.length := ba_size l
  have hli := ba_list l
  have hn := h
  simp only [numOk, digitsB, Bool.and_eq_true, Bool.not_eq_true', decide_eq_true_eq, List.isEmpty_eq_false_iff] at hn
  obtain ⟨⟨h9, hne, hall⟩, hz⟩ := hn
  have h0 : 0 < l.length := List.length_pos_iff.2 hne
  have hg0 := ba_get l 0 h0
  have hie : l.isEmpty = false := by simpa using hne
  have hd0 : digitB l[0] = true := List.all_eq_true.1 hall _ (List.getElem_mem h0)
  rw [digitB_iff] at hd0
  have q45 : ((l[0].toNat : Int) == 45) = false := by simp; omega
  have HALL := hide hall
  have q19 : decide ((19 : Int) < l.length) = false := by simp; omega
  have hz48 : 1 < l.length → ((l[0].toNat : Int) == 48) = false := by
    intro h1
    rw [zero_form h0] at hz
    cases hq : (l == [48]) with
    | true => have : l = [48] := by simpa using hq
              rw [this] at h1; simp at h1
    | false => rw [hq] at hz; simpa using hz
  have HW : Hid (∀ a : World, ∀ act : Act, True) := fun _ _ => trivial
  by_cases h1 : 1 < l.length
  · have h1b : decide ((1 : Int) < l.length) = true := by simp; omega
    have hz' := hz48 h1
    clear hz48 hz hall hne h HW
    go_enter Tryz.func242, Tryz.ntmps242
    go_wp2
    go_loop [6, 7] (fun n i => ∃ k : Nat, k ≤ l.length ∧ n = .int .i64 (-(numVal (l.take k) : Int)) ∧ i = .int .i64 k) (fun _ i => l.length - (intOf i).toNat)
    case atStart => exact ⟨0, Nat.zero_le _, rfl, rfl⟩
    case round =>
      obtain ⟨k, hk, rfl, rfl⟩ := hrel
      have hb1 := numVal_bound (unhide HALL) h9 k
      by_cases hlt : k < l.length
      · have hg := ba_get l k hlt
        have hdk : digitB l[k] = true := List.all_eq_true.1 (unhide HALL) _ (List.getElem_mem hlt)
        rw [digitB_iff] at hdk
        have hb2 := numVal_bound (unhide HALL) h9 (k + 1)
        have htk := numVal_take hlt
        obtain ⟨m, hm⟩ : ∃ m, numVal (l.take k) = m := ⟨_, rfl⟩
        obtain ⟨m', hm'⟩ : ∃ m', numVal (l.take (k + 1)) = m' := ⟨_, rfl⟩
        obtain ⟨c, hcc⟩ : ∃ c : Int, (l[k].toNat : Int) = c := ⟨_, rfl⟩
        rw [hm'] at htk hb2
        rw [hm] at htk hb1 ⊢
        have c1 : 48 ≤ c := by omega
        have c2 : c ≤ 57 := by omega
        have hqt := quo_small (x := c - 48) (by omega) (by omega)
        have hnq : ¬ -(m : Int) < (-9223372036854775808 + (c - 48)).tdiv 10 := by omega
        have HE : Hid (10 * -(m : Int) - (c - 48) = -(numVal (l.take (k + 1)) : Int)) := by show _ = _; rw [hm']; omega
        have p1 : ¬ c < 48 := by omega
        have p2 : ¬ 57 < c := by omega
        clear hqt htk hdk hm' hb2
        go_wp2
        go_round
        case rel => exact ⟨k + 1, hlt, by rw [← unhide HE], by simp⟩
        case measure => simp [intOf]; omega
      · have hke : k = l.length := by omega
        subst hke
        rw [List.take_length] at hb1 ⊢
        have hnm : ¬ -(numVal l : Int) = -9223372036854775808 := by omega
        go_wp2
        go_ret2
        exact ⟨by simp, rfl⟩
  · have h1b : decide ((1 : Int) < l.length) = false := by simp; omega
    clear hz48 hz hall hne h HW
    go_enter Tryz.func242, Tryz.ntmps242
    go_wp2
    go_loop [6, 7] (fun n i => ∃ k : Nat, k ≤ l.length ∧ n = .int .i64 (-(numVal (l.take k) : Int)) ∧ i = .int .i64 k) (fun _ i => l.length - (intOf i).toNat)
    case atStart => exact ⟨0, Nat.zero_le _, rfl, rfl⟩
    case round =>
      obtain ⟨k, hk, rfl, rfl⟩ := hrel
      have hb1 := numVal_bound (unhide HALL) h9 k
      by_cases hlt : k < l.length
      · have hg := ba_get l k hlt
        have hdk : digitB l[k] = true := List.all_eq_true.1 (unhide HALL) _ (List.getElem_mem hlt)
        rw [digitB_iff] at hdk
        have hb2 := numVal_bound (unhide HALL) h9 (k + 1)
        have htk := numVal_take hlt
        obtain ⟨m, hm⟩ : ∃ m, numVal (l.take k) = m := ⟨_, rfl⟩
        obtain ⟨m', hm'⟩ : ∃ m', numVal (l.take (k + 1)) = m' := ⟨_, rfl⟩
        obtain ⟨c, hcc⟩ : ∃ c : Int, (l[k].toNat : Int) = c := ⟨_, rfl⟩
        rw [hm'] at htk hb2
        rw [hm] at htk hb1 ⊢
        have c1 : 48 ≤ c := by omega
        have c2 : c ≤ 57 := by omega
        have hqt := quo_small (x := c - 48) (by omega) (by omega)
        have hnq : ¬ -(m : Int) < (-9223372036854775808 + (c - 48)).tdiv 10 := by omega
        have HE : Hid (10 * -(m : Int) - (c - 48) = -(numVal (l.take (k + 1)) : Int)) := by show _ = _; rw [hm']; omega
        have p1 : ¬ c < 48 := by omega
        have p2 : ¬ 57 < c := by omega
        clear hqt htk hdk hm' hb2
        go_wp2
        go_round
        case rel => exact ⟨k + 1, hlt, by rw [← unhide HE], by simp⟩
        case measure => simp [intOf]; omega
      · have hke : k = l.length := by omega
        subst hke
        rw [List.take_length] at hb1 ⊢
        have hnm : ¬ -(numVal l : Int) = -9223372036854775808 := by omega
        go_wp2
        go_ret2
        exact ⟨by simp, rfl⟩

/-! ### Cut -/


/-! ### identifier -/

theorem ident_parts (c : UInt8) : identB c = (digitB c || lowerB c || upperB c || ((c.toNat : Int) == 45)) := by
  have e : ((c.toNat : Int) == 45) = decide (c.toNat = 45) := by rw [Bool.eq_iff_iff]; simp; omega
  unfold identB letterB
  rw [e]
  cases digitB c <;> cases lowerB c <;> cases upperB c <;> simp

end Go.Proofs.YthcafeoamabkgaaGreatDoor

namespace Go.Proofs.YthcafeoamabkgaaGreatDoor
open Go.RowKit

theorem digits_ident {l : Str} (h : digitsB l = true) : l.all identB = true := by
  simp only [digitsB, Bool.and_eq_true] at h
  rw [List.all_eq_true] at *
  intro c hc
  rw [ident_parts, h.2 c hc]; rfl

set_option maxHeartbeats 1000000 in
theorem refIdent_any {l : Str} (hl : l.length ≤ 4294967281) (w : World) : Calls Tryz.prog 243 #[.string (ba l)] w fun e w' => e = .returned (.bool (validIdB l)) ∧ w' = w := by
  have hsz : (ba l).size = l.length := ba_size l
  have hli := ba_list l
  go_enter Tryz.func243, Tryz.ntmps243
  go_wp2
  go_loop [3] (fun i => ∃ k : Nat, k ≤ l.length ∧ i = .int .i64 k ∧ (l.take k).all identB = true) (fun i => l.length - (intOf i).toNat)
  case atStart => exact ⟨0, Nat.zero_le _, rfl, rfl⟩
  case round =>
    obtain ⟨k, hk, rfl, hall⟩ := hrel
    have HA := hide hall
    clear hall
    by_cases hlt : k < l.length
    · have hg := ba_get l k hlt
      have hip := ident_parts l[k]
      cases hd : digitB l[k] with
      | true =>
        have HF := hide (all_take8 (unhide HA) hlt (by rw [hip, hd]; rfl))
        have HD := hide hd
        clear hd hip HA
        go_wp2_with (first | (go_at_call 195; refine (asks_is (unhide HD) refDigit_asks _).mono ?_; rintro e w1 ⟨rfl, hw⟩; rw [hw]; clear hw w1))
        go_round
        case rel => exact ⟨k + 1, hlt, by simp, unhide HF⟩
        case measure => simp [intOf]; omega
      | false =>
        cases hlo : lowerB l[k] with
        | true =>
          have HF := hide (all_take8 (unhide HA) hlt (by rw [hip, hd, hlo]; rfl))
          have HD := hide hd
          have HL := hide hlo
          clear hd hlo hip HA
          go_wp2_with (first | (go_at_call 195; refine (asks_is (unhide HD) refDigit_asks _).mono ?_; rintro e w1 ⟨rfl, hw⟩; rw [hw]; clear hw w1) | (go_at_call 196; refine (asks_is (unhide HL) refLower_asks _).mono ?_; rintro e w1 ⟨rfl, hw⟩; rw [hw]; clear hw w1))
          go_round
          case rel => exact ⟨k + 1, hlt, by simp, unhide HF⟩
          case measure => simp [intOf]; omega
        | false =>
          cases hu : upperB l[k] with
          | true =>
            have HF := hide (all_take8 (unhide HA) hlt (by rw [hip, hd, hlo, hu]; rfl))
            have HD := hide hd
            have HL := hide hlo
            have HU := hide hu
            clear hd hlo hu hip HA
            go_wp2_with (first | (go_at_call 195; refine (asks_is (unhide HD) refDigit_asks _).mono ?_; rintro e w1 ⟨rfl, hw⟩; rw [hw]; clear hw w1) | (go_at_call 196; refine (asks_is (unhide HL) refLower_asks _).mono ?_; rintro e w1 ⟨rfl, hw⟩; rw [hw]; clear hw w1) | (go_at_call 197; refine (asks_is (unhide HU) refUpper_asks _).mono ?_; rintro e w1 ⟨rfl, hw⟩; rw [hw]; clear hw w1))
            go_round
            case rel => exact ⟨k + 1, hlt, by simp, unhide HF⟩
            case measure => simp [intOf]; omega
          | false =>
            cases h45 : ((l[k].toNat : Int) == 45) with
            | true =>
              have HF := hide (all_take8 (unhide HA) hlt (by rw [hip, hd, hlo, hu, h45]; rfl))
              have q : ((l[k].toNat : Int) != 45) = false := by rw [bne, h45]; rfl
              have HD := hide hd
              have HL := hide hlo
              have HU := hide hu
              clear hd hlo hu hip HA h45
              go_wp2_with (first | (go_at_call 195; refine (asks_is (unhide HD) refDigit_asks _).mono ?_; rintro e w1 ⟨rfl, hw⟩; rw [hw]; clear hw w1) | (go_at_call 196; refine (asks_is (unhide HL) refLower_asks _).mono ?_; rintro e w1 ⟨rfl, hw⟩; rw [hw]; clear hw w1) | (go_at_call 197; refine (asks_is (unhide HU) refUpper_asks _).mono ?_; rintro e w1 ⟨rfl, hw⟩; rw [hw]; clear hw w1))
              go_round
              case rel => exact ⟨k + 1, hlt, by simp, unhide HF⟩
              case measure => simp [intOf]; omega
            | false =>
              have HV : Hid (validIdB l = false) := by
                show validIdB l = false
                have hn : l.all identB = false := all_no8 hlt (by rw [hip, hd, hlo, hu, h45]; rfl)
                unfold validIdB
                cases hg : digitsB l with
                | true => rw [digits_ident hg] at hn; cases hn
                | false => rw [hn]; simp
              have q : ((l[k].toNat : Int) != 45) = true := by rw [bne, h45]; rfl
              have HD := hide hd
              have HL := hide hlo
              have HU := hide hu
              clear hd hlo hu hip HA h45
              go_wp2_with (first | (go_at_call 195; refine (asks_is (unhide HD) refDigit_asks _).mono ?_; rintro e w1 ⟨rfl, hw⟩; rw [hw]; clear hw w1) | (go_at_call 196; refine (asks_is (unhide HL) refLower_asks _).mono ?_; rintro e w1 ⟨rfl, hw⟩; rw [hw]; clear hw w1) | (go_at_call 197; refine (asks_is (unhide HU) refUpper_asks _).mono ?_; rintro e w1 ⟨rfl, hw⟩; rw [hw]; clear hw w1))
              go_ret
              exact ⟨ret_bool (unhide HV).symm, rfl⟩
    · have hke : k = l.length := by omega
      subst hke
      have HAL : Hid (l.all identB = true) := by
        have := unhide HA
        rw [List.take_length] at this
        exact this
      clear HA
      cases he : l.isEmpty with
      | true =>
        have HV : Hid (validIdB l = false) := by
          show validIdB l = false
          have : l = [] := by simpa using he
          rw [this]; decide
        go_wp2
        go_ret
        exact ⟨ret_bool (unhide HV).symm, rfl⟩
      | false =>
        have h0 : 0 < l.length := by
          cases l with
          | nil => simp at he
          | cons a t => simp
        have hg0 := ba_get l 0 h0
        cases hgd : digitsB l with
        | false =>
          have HV : Hid (validIdB l = true) := by show validIdB l = true; unfold validIdB; rw [hgd, he, unhide HAL]; rfl
          have HG := hide hgd
          clear hgd
          go_wp2_with (first | (go_at_call 192; refine (refDigits_is (unhide HG) hl _).mono ?_; rintro e w1 ⟨rfl, hw⟩; rw [hw]; clear hw w1))
          go_ret
          exact ⟨ret_bool (unhide HV).symm, rfl⟩
        | true =>
          have hz := zero_form h0
          cases hq : (l == [48]) with
          | true =>
            have HV : Hid (validIdB l = true) := by show validIdB l = true; unfold validIdB; rw [hgd, hz, hq]; rfl
            have HG := hide hgd
            clear hgd hz
            go_wp2_with (first | (go_at_call 192; refine (refDigits_is (unhide HG) hl _).mono ?_; rintro e w1 ⟨rfl, hw⟩; rw [hw]; clear hw w1))
            go_ret
            exact ⟨ret_bool (unhide HV).symm, rfl⟩
          | false =>
            have HV : Hid (validIdB l = ((l[0].toNat : Int) != 48)) := by show validIdB l = _; unfold validIdB; rw [hgd, hz, hq]; simp [bne]
            have HG := hide hgd
            clear hgd hz
            go_wp2_with (first | (go_at_call 192; refine (refDigits_is (unhide HG) hl _).mono ?_; rintro e w1 ⟨rfl, hw⟩; rw [hw]; clear hw w1))
            go_ret
            exact ⟨ret_bool (unhide HV).symm, rfl⟩
theorem refIdent_is {l : Str} {b : Bool} (h : validIdB l = b) (hl : l.length ≤ 4294967281) (w : World) : Calls Tryz.prog 243 #[.string (ba l)] w fun e w' => e = .returned (.bool b) ∧ w' = w := by rw [← h]; exact refIdent_any hl w

end Go.Proofs.YthcafeoamabkgaaGreatDoor

namespace Go.Proofs.YthcafeoamabkgaaGreatDoor
open Go.RowKit

theorem refParts_long {v : Str} (h : 60 < v.length) (w : World) : Tells 193 #[.string (ba v)] w (partsV none) := by
  unfold Tells
  have hsz : (ba v).size = v.length := ba_size v
  have hq : (60 : Int) < v.length := by omega
  go_enter Tryz.func193, Tryz.ntmps193
  go_wp2
  exact bodyPost_ret (v := partsV none) (by simp [results, Tryz.results193, go_sem, partsV, ba]) rfl ⟨rfl, Below.refl _ _⟩

theorem refParts_empty (w : World) : Tells 193 #[.string (ba [])] w (partsV none) := by
  unfold Tells
  have hsz : (ba []).size = 0 := ba_size []
  have hli := ba_list []
  go_enter Tryz.func193, Tryz.ntmps193
  go_wp2
  exact bodyPost_ret (v := partsV none) (by simp [results, Tryz.results193, go_sem, partsV, ba]) rfl ⟨rfl, Below.refl _ _⟩

theorem refParts_head {c : UInt8} {rest : Str} (h : rest.length + 1 ≤ 60) (hc : c ≠ 118) (w : World) : Tells 193 #[.string (ba (c :: rest))] w (partsV none) := by
  unfold Tells
  have hsz : (ba (c :: rest)).size = rest.length + 1 := ba_size _
  have hq : ¬ (60 : Int) < (rest.length : Int) + 1 := by omega
  have hli := ba_list (c :: rest)
  have hg := ba_get (c :: rest) 0 (by simp)
  have hci : ((c.toNat : Int) != 118) = true := by
    simp only [bne_iff_ne]
    intro e
    exact hc (by apply UInt8.toNat_inj.1; have : (118 : UInt8).toNat = 118 := rfl; omega)
  have hg : (ba (c :: rest))[0]'(by rw [ba_size]; simp) = c := hg
  go_enter Tryz.func193, Tryz.ntmps193
  go_wp2
  exact bodyPost_ret (v := partsV none) (by simp [results, Tryz.results193, go_sem, partsV, ba]) rfl ⟨rfl, Below.refl _ _⟩

/-- What Parts answers where there is a pre. -/
def preV (x y z P : Str) : Value := if validPreB P then partsV (some ⟨numVal x, numVal y, numVal z, P⟩) else partsV none

theorem nums_len {ps : List Str} (h3 : ps.length ≠ 3) : numsOf ps = none := by
  match ps, h3 with
  | [], _ => rfl
  | [_], _ => rfl
  | [_, _], _ => rfl
  | [_, _, _], h => exact absurd rfl h
  | _ :: _ :: _ :: _ :: _, _ => rfl

theorem free_at {l : Str} (h : l.contains 45 = false) (k : Nat) (hk : k < l.length) : ((l[k].toNat : Int) == 45) = false := by
  simp only [beq_eq_false_iff_ne]
  intro e
  have e : l[k] = 45 := by apply UInt8.toNat_inj.1; have : (45 : UInt8).toNat = 45 := rfl; omega
  have : l.contains 45 = true := by rw [List.contains_iff_mem, ← e]; exact List.getElem_mem hk
  rw [h] at this; cases this

set_option maxHeartbeats 2000000 in
set_option maxRecDepth 100000 in
theorem refParts_b_len {rest : Str} {ps : List Str} (h : rest.length + 1 ≤ 60) (hf : rest.contains 45 = false) (hpc : pieces 46 rest = ps) (hn : ps.length ≠ 3) (w : World) : Tells 193 #[.string (ba (118 :: rest))] w (partsV none) := by
  unfold Tells
  have hsz : (ba (118 :: rest)).size = rest.length + 1 := ba_size _
  have hrs : (ba rest).size = rest.length := ba_size _
  have hq : ¬ (60 : Int) < (rest.length : Int) + 1 := by omega
  have hli := ba_list (118 :: rest)
  have hg0 : (ba (118 :: rest))[0]'(by rw [ba_size]; simp) = 118 := ba_get (118 :: rest) 0 (by simp)
  have hr := cut_rest rest
  have HFREE : Hid (∀ k (hk : k < rest.length), ((rest[k].toNat : Int) == 45) = false) := free_at hf
  have HLN : Hid (¬ (ps.length : Int) = 3) := by show ¬ _; omega
  have HPC := hide hpc
  clear hpc hf hn
  go_enter Tryz.func193, Tryz.ntmps193
  go_wp2
  go_loop [7, 8, 9, 10] (fun co pr ha i => ∃ k : Nat, k ≤ rest.length ∧ co = .string (ba rest) ∧ pr = .string ⟨#[]⟩ ∧ ha = .bool false ∧ i = .int .i64 k) (fun _ _ _ i => rest.length - (intOf i).toNat)
  case atStart => exact ⟨0, Nat.zero_le _, rfl, rfl, rfl, rfl⟩
  case round =>
    obtain ⟨k, hk, rfl, rfl, rfl, rfl⟩ := hrel
    by_cases hlt : k < rest.length
    · have hgk := ba_get rest k hlt
      have hne : ((rest[k].toNat : Int) == 45) = false := (unhide HFREE) k hlt
      go_wp2
      go_round
      case rel => exact ⟨k + 1, hlt, rfl, rfl, rfl, by simp⟩
      case measure => simp [intOf]; omega
    · have hke : k = rest.length := by omega
      subst hke
      go_wp2_with (go_at_call 44; fail)
      refine (refCut_any 46 (l := rest) (by omega) _).mono ?_
      rintro e w2 ⟨B, cp, rfl, tx, hB, b2⟩
      rw [unhide HPC]
      have h3 := unhide HLN
      have HT := hide tx
      rw [unhide HPC] at HT
      clear tx
      go_wp2
      exact bodyPost_ret (v := partsV none) (by simp [results, Tryz.results193, go_sem, partsV, ba]) rfl ⟨rfl, b2⟩

set_option maxHeartbeats 2000000 in
set_option maxRecDepth 100000 in
theorem refParts_b_x {rest x y z : Str} (h : rest.length + 1 ≤ 60) (hf : rest.contains 45 = false) (hpc : pieces 46 rest = [x, y, z]) (hx : numOk x = false) (w : World) : Tells 193 #[.string (ba (118 :: rest))] w (partsV none) := by
  unfold Tells
  have hsz : (ba (118 :: rest)).size = rest.length + 1 := ba_size _
  have hrs : (ba rest).size = rest.length := ba_size _
  have hq : ¬ (60 : Int) < (rest.length : Int) + 1 := by omega
  have hli := ba_list (118 :: rest)
  have hg0 : (ba (118 :: rest))[0]'(by rw [ba_size]; simp) = 118 := ba_get (118 :: rest) 0 (by simp)
  have hr := cut_rest rest
  have HFREE : Hid (∀ k (hk : k < rest.length), ((rest[k].toNat : Int) == 45) = false) := free_at hf
  have HLN : Hid (([x, y, z].length : Int) = 3) := rfl
  have hsm := pieces_small 46 rest
  have lx : x.length ≤ rest.length := hsm x (by rw [hpc]; simp)
  have ly : y.length ≤ rest.length := hsm y (by rw [hpc]; simp)
  have lz : z.length ≤ rest.length := hsm z (by rw [hpc]; simp)
  have HPC := hide hpc
  have HX := hide hx
  clear hpc hf hsm hx
  go_enter Tryz.func193, Tryz.ntmps193
  go_wp2
  go_loop [7, 8, 9, 10] (fun co pr ha i => ∃ k : Nat, k ≤ rest.length ∧ co = .string (ba rest) ∧ pr = .string ⟨#[]⟩ ∧ ha = .bool false ∧ i = .int .i64 k) (fun _ _ _ i => rest.length - (intOf i).toNat)
  case atStart => exact ⟨0, Nat.zero_le _, rfl, rfl, rfl, rfl⟩
  case round =>
    obtain ⟨k, hk, rfl, rfl, rfl, rfl⟩ := hrel
    by_cases hlt : k < rest.length
    · have hgk := ba_get rest k hlt
      have hne : ((rest[k].toNat : Int) == 45) = false := (unhide HFREE) k hlt
      go_wp2
      go_round
      case rel => exact ⟨k + 1, hlt, rfl, rfl, rfl, by simp⟩
      case measure => simp [intOf]; omega
    · have hke : k = rest.length := by omega
      subst hke
      go_wp2_with (go_at_call 44; fail)
      refine (refCut_any 46 (l := rest) (by omega) _).mono ?_
      rintro e w2 ⟨B, cp, rfl, tx, hB, b2⟩
      rw [unhide HPC]
      have h3 := unhide HLN
      have HT := hide tx
      rw [unhide HPC] at HT
      clear tx
      have c0 : w2.cell? ⟨B, 0, none⟩ = some (.string (ba x)) := (unhide HT) 0 (by simp)
      have c1 : w2.cell? ⟨B, 1, none⟩ = some (.string (ba y)) := (unhide HT) 1 (by simp)
      have c2 : w2.cell? ⟨B, 2, none⟩ = some (.string (ba z)) := (unhide HT) 2 (by simp)
      go_wp2_with (go_at_call 241; refine (refNumber_is (unhide HX) (by omega) _).mono ?_; rintro e w4 ⟨rfl, hw⟩; rw [hw]; clear hw w4)
      exact bodyPost_ret (v := partsV none) (by simp [results, Tryz.results193, go_sem, partsV, ba]) rfl ⟨rfl, b2⟩

set_option maxHeartbeats 2000000 in
set_option maxRecDepth 100000 in
theorem refParts_b_y {rest x y z : Str} (h : rest.length + 1 ≤ 60) (hf : rest.contains 45 = false) (hpc : pieces 46 rest = [x, y, z]) (hx : numOk x = true) (hy : numOk y = false) (w : World) : Tells 193 #[.string (ba (118 :: rest))] w (partsV none) := by
  unfold Tells
  have hsz : (ba (118 :: rest)).size = rest.length + 1 := ba_size _
  have hrs : (ba rest).size = rest.length := ba_size _
  have hq : ¬ (60 : Int) < (rest.length : Int) + 1 := by omega
  have hli := ba_list (118 :: rest)
  have hg0 : (ba (118 :: rest))[0]'(by rw [ba_size]; simp) = 118 := ba_get (118 :: rest) 0 (by simp)
  have hr := cut_rest rest
  have HFREE : Hid (∀ k (hk : k < rest.length), ((rest[k].toNat : Int) == 45) = false) := free_at hf
  have HLN : Hid (([x, y, z].length : Int) = 3) := rfl
  have hsm := pieces_small 46 rest
  have lx : x.length ≤ rest.length := hsm x (by rw [hpc]; simp)
  have ly : y.length ≤ rest.length := hsm y (by rw [hpc]; simp)
  have lz : z.length ≤ rest.length := hsm z (by rw [hpc]; simp)
  have HPC := hide hpc
  have HX := hide hx
  have HY := hide hy
  clear hpc hf hsm hx hy
  go_enter Tryz.func193, Tryz.ntmps193
  go_wp2
  go_loop [7, 8, 9, 10] (fun co pr ha i => ∃ k : Nat, k ≤ rest.length ∧ co = .string (ba rest) ∧ pr = .string ⟨#[]⟩ ∧ ha = .bool false ∧ i = .int .i64 k) (fun _ _ _ i => rest.length - (intOf i).toNat)
  case atStart => exact ⟨0, Nat.zero_le _, rfl, rfl, rfl, rfl⟩
  case round =>
    obtain ⟨k, hk, rfl, rfl, rfl, rfl⟩ := hrel
    by_cases hlt : k < rest.length
    · have hgk := ba_get rest k hlt
      have hne : ((rest[k].toNat : Int) == 45) = false := (unhide HFREE) k hlt
      go_wp2
      go_round
      case rel => exact ⟨k + 1, hlt, rfl, rfl, rfl, by simp⟩
      case measure => simp [intOf]; omega
    · have hke : k = rest.length := by omega
      subst hke
      go_wp2_with (go_at_call 44; fail)
      refine (refCut_any 46 (l := rest) (by omega) _).mono ?_
      rintro e w2 ⟨B, cp, rfl, tx, hB, b2⟩
      rw [unhide HPC]
      have h3 := unhide HLN
      have HT := hide tx
      rw [unhide HPC] at HT
      clear tx
      have c0 : w2.cell? ⟨B, 0, none⟩ = some (.string (ba x)) := (unhide HT) 0 (by simp)
      have c1 : w2.cell? ⟨B, 1, none⟩ = some (.string (ba y)) := (unhide HT) 1 (by simp)
      have c2 : w2.cell? ⟨B, 2, none⟩ = some (.string (ba z)) := (unhide HT) 2 (by simp)
      go_wp2_with (go_at_call 241; fail)
      refine (refNumber_is (unhide HX) (by omega) _).mono ?_
      rintro e w4 ⟨rfl, hw⟩
      rw [hw]
      clear hw
      go_wp2_with (go_at_call 241; fail)
      refine (refNumber_is (unhide HY) (by omega) _).mono ?_
      rintro e w5 ⟨rfl, hw⟩
      rw [hw]
      clear hw
      go_wp2
      exact bodyPost_ret (v := partsV none) (by simp [results, Tryz.results193, go_sem, partsV, ba]) rfl ⟨rfl, b2⟩

set_option maxHeartbeats 2000000 in
set_option maxRecDepth 100000 in
theorem refParts_b_z {rest x y z : Str} (h : rest.length + 1 ≤ 60) (hf : rest.contains 45 = false) (hpc : pieces 46 rest = [x, y, z]) (hx : numOk x = true) (hy : numOk y = true) (hz : numOk z = false) (w : World) : Tells 193 #[.string (ba (118 :: rest))] w (partsV none) := by
  unfold Tells
  have hsz : (ba (118 :: rest)).size = rest.length + 1 := ba_size _
  have hrs : (ba rest).size = rest.length := ba_size _
  have hq : ¬ (60 : Int) < (rest.length : Int) + 1 := by omega
  have hli := ba_list (118 :: rest)
  have hg0 : (ba (118 :: rest))[0]'(by rw [ba_size]; simp) = 118 := ba_get (118 :: rest) 0 (by simp)
  have hr := cut_rest rest
  have HFREE : Hid (∀ k (hk : k < rest.length), ((rest[k].toNat : Int) == 45) = false) := free_at hf
  have HLN : Hid (([x, y, z].length : Int) = 3) := rfl
  have hsm := pieces_small 46 rest
  have lx : x.length ≤ rest.length := hsm x (by rw [hpc]; simp)
  have ly : y.length ≤ rest.length := hsm y (by rw [hpc]; simp)
  have lz : z.length ≤ rest.length := hsm z (by rw [hpc]; simp)
  have HPC := hide hpc
  have HX := hide hx
  have HY := hide hy
  have HZ := hide hz
  clear hpc hf hsm hx hy hz
  go_enter Tryz.func193, Tryz.ntmps193
  go_wp2
  go_loop [7, 8, 9, 10] (fun co pr ha i => ∃ k : Nat, k ≤ rest.length ∧ co = .string (ba rest) ∧ pr = .string ⟨#[]⟩ ∧ ha = .bool false ∧ i = .int .i64 k) (fun _ _ _ i => rest.length - (intOf i).toNat)
  case atStart => exact ⟨0, Nat.zero_le _, rfl, rfl, rfl, rfl⟩
  case round =>
    obtain ⟨k, hk, rfl, rfl, rfl, rfl⟩ := hrel
    by_cases hlt : k < rest.length
    · have hgk := ba_get rest k hlt
      have hne : ((rest[k].toNat : Int) == 45) = false := (unhide HFREE) k hlt
      go_wp2
      go_round
      case rel => exact ⟨k + 1, hlt, rfl, rfl, rfl, by simp⟩
      case measure => simp [intOf]; omega
    · have hke : k = rest.length := by omega
      subst hke
      go_wp2_with (go_at_call 44; fail)
      refine (refCut_any 46 (l := rest) (by omega) _).mono ?_
      rintro e w2 ⟨B, cp, rfl, tx, hB, b2⟩
      rw [unhide HPC]
      have h3 := unhide HLN
      have HT := hide tx
      rw [unhide HPC] at HT
      clear tx
      have c0 : w2.cell? ⟨B, 0, none⟩ = some (.string (ba x)) := (unhide HT) 0 (by simp)
      have c1 : w2.cell? ⟨B, 1, none⟩ = some (.string (ba y)) := (unhide HT) 1 (by simp)
      have c2 : w2.cell? ⟨B, 2, none⟩ = some (.string (ba z)) := (unhide HT) 2 (by simp)
      go_wp2_with (go_at_call 241; fail)
      refine (refNumber_is (unhide HX) (by omega) _).mono ?_
      rintro e w4 ⟨rfl, hw⟩
      rw [hw]
      clear hw
      go_wp2_with (go_at_call 241; fail)
      refine (refNumber_is (unhide HY) (by omega) _).mono ?_
      rintro e w5 ⟨rfl, hw⟩
      rw [hw]
      clear hw
      go_wp2_with (go_at_call 241; fail)
      refine (refNumber_is (unhide HZ) (by omega) _).mono ?_
      rintro e w6 ⟨rfl, hw⟩
      rw [hw]
      clear hw
      go_wp2
      exact bodyPost_ret (v := partsV none) (by simp [results, Tryz.results193, go_sem, partsV, ba]) rfl ⟨rfl, b2⟩

set_option maxHeartbeats 2000000 in
set_option maxRecDepth 100000 in
theorem refParts_b_ok {rest x y z : Str} (h : rest.length + 1 ≤ 60) (hf : rest.contains 45 = false) (hpc : pieces 46 rest = [x, y, z]) (hx : numOk x = true) (hy : numOk y = true) (hz : numOk z = true) (w : World) : Tells 193 #[.string (ba (118 :: rest))] w (partsV (some ⟨numVal x, numVal y, numVal z, []⟩)) := by
  unfold Tells
  have hsz : (ba (118 :: rest)).size = rest.length + 1 := ba_size _
  have hrs : (ba rest).size = rest.length := ba_size _
  have hq : ¬ (60 : Int) < (rest.length : Int) + 1 := by omega
  have hli := ba_list (118 :: rest)
  have hg0 : (ba (118 :: rest))[0]'(by rw [ba_size]; simp) = 118 := ba_get (118 :: rest) 0 (by simp)
  have hr := cut_rest rest
  have HFREE : Hid (∀ k (hk : k < rest.length), ((rest[k].toNat : Int) == 45) = false) := free_at hf
  have HLN : Hid (([x, y, z].length : Int) = 3) := rfl
  have hsm := pieces_small 46 rest
  have lx : x.length ≤ rest.length := hsm x (by rw [hpc]; simp)
  have ly : y.length ≤ rest.length := hsm y (by rw [hpc]; simp)
  have lz : z.length ≤ rest.length := hsm z (by rw [hpc]; simp)
  have HPC := hide hpc
  have HX := hide hx
  have HY := hide hy
  have HZ := hide hz
  clear hpc hf hsm hx hy hz
  go_enter Tryz.func193, Tryz.ntmps193
  go_wp2
  go_loop [7, 8, 9, 10] (fun co pr ha i => ∃ k : Nat, k ≤ rest.length ∧ co = .string (ba rest) ∧ pr = .string ⟨#[]⟩ ∧ ha = .bool false ∧ i = .int .i64 k) (fun _ _ _ i => rest.length - (intOf i).toNat)
  case atStart => exact ⟨0, Nat.zero_le _, rfl, rfl, rfl, rfl⟩
  case round =>
    obtain ⟨k, hk, rfl, rfl, rfl, rfl⟩ := hrel
    by_cases hlt : k < rest.length
    · have hgk := ba_get rest k hlt
      have hne : ((rest[k].toNat : Int) == 45) = false := (unhide HFREE) k hlt
      go_wp2
      go_round
      case rel => exact ⟨k + 1, hlt, rfl, rfl, rfl, by simp⟩
      case measure => simp [intOf]; omega
    · have hke : k = rest.length := by omega
      subst hke
      go_wp2_with (go_at_call 44; fail)
      refine (refCut_any 46 (l := rest) (by omega) _).mono ?_
      rintro e w2 ⟨B, cp, rfl, tx, hB, b2⟩
      rw [unhide HPC]
      have h3 := unhide HLN
      have HT := hide tx
      rw [unhide HPC] at HT
      clear tx
      have c0 : w2.cell? ⟨B, 0, none⟩ = some (.string (ba x)) := (unhide HT) 0 (by simp)
      have c1 : w2.cell? ⟨B, 1, none⟩ = some (.string (ba y)) := (unhide HT) 1 (by simp)
      have c2 : w2.cell? ⟨B, 2, none⟩ = some (.string (ba z)) := (unhide HT) 2 (by simp)
      go_wp2_with (go_at_call 241; fail)
      refine (refNumber_is (unhide HX) (by omega) _).mono ?_
      rintro e w4 ⟨rfl, hw⟩
      rw [hw]
      clear hw
      go_wp2_with (go_at_call 241; fail)
      refine (refNumber_is (unhide HY) (by omega) _).mono ?_
      rintro e w5 ⟨rfl, hw⟩
      rw [hw]
      clear hw
      go_wp2_with (go_at_call 241; fail)
      refine (refNumber_is (unhide HZ) (by omega) _).mono ?_
      rintro e w6 ⟨rfl, hw⟩
      rw [hw]
      clear hw
      go_wp2_with (go_at_call 242; fail)
      refine (refAtoi_ok (unhide HX) _).mono ?_
      rintro e w7 ⟨rfl, hw⟩
      rw [hw]
      clear hw
      go_wp2_with (go_at_call 242; fail)
      refine (refAtoi_ok (unhide HY) _).mono ?_
      rintro e w8 ⟨rfl, hw⟩
      rw [hw]
      clear hw
      go_wp2_with (go_at_call 242; fail)
      refine (refAtoi_ok (unhide HZ) _).mono ?_
      rintro e w9 ⟨rfl, hw⟩
      rw [hw]
      clear hw
      go_wp2
      exact bodyPost_ret (v := partsV (some ⟨numVal x, numVal y, numVal z, []⟩)) (by simp [results, Tryz.results193, go_sem, partsV, ba]) rfl ⟨rfl, b2⟩

set_option maxHeartbeats 2000000 in
set_option maxRecDepth 100000 in
theorem refParts_p_len {rest A P : Str} {ps : List Str} (h : rest.length + 1 ≤ 60) (he : rest = A ++ 45 :: P) (hf : A.contains 45 = false) (hpc : pieces 46 A = ps) (hn : ps.length ≠ 3) (w : World) : Tells 193 #[.string (ba (118 :: rest))] w (partsV none) := by
  unfold Tells
  have hsz : (ba (118 :: rest)).size = rest.length + 1 := ba_size _
  have hrs : (ba rest).size = rest.length := ba_size _
  have hq : ¬ (60 : Int) < (rest.length : Int) + 1 := by omega
  have hli := ba_list (118 :: rest)
  have hg0 : (ba (118 :: rest))[0]'(by rw [ba_size]; simp) = 118 := ba_get (118 :: rest) 0 (by simp)
  have hr := cut_rest rest
  have hAl : A.length < rest.length := by rw [he]; simp
  have hPl : P.length ≤ rest.length := by rw [he]; simp; omega
  have hx1 : (ba rest).extract (A.length + 1) rest.length = ba P := by rw [he]; exact drop_from A P 45
  have hx2 : (ba rest).extract 0 A.length = ba A := by rw [he]; exact take_to A P 45
  have HFREE : Hid (∀ k (hk : k < A.length) (hr : k < rest.length), ((rest[k].toNat : Int) == 45) = false) := by
    intro k hk hr
    have e : rest[k] = A[k] := by
      have : rest[k]? = A[k]? := by rw [he, List.getElem?_append_left hk]
      rw [List.getElem?_eq_getElem hr, List.getElem?_eq_getElem hk] at this
      exact Option.some.inj this
    rw [e]; exact free_at hf k hk
  have HHIT : Hid (∀ (hr : A.length < rest.length), ((rest[A.length].toNat : Int) == 45) = true) := by
    intro hr
    have e : rest[A.length] = 45 := by
      have : rest[A.length]? = some 45 := by rw [he]; simp
      rw [List.getElem?_eq_getElem hr] at this
      exact Option.some.inj this
    rw [e]; rfl
  have HLN : Hid (¬ (ps.length : Int) = 3) := by show ¬ _; omega
  have HPC := hide hpc
  clear hpc hf he hn
  go_enter Tryz.func193, Tryz.ntmps193
  go_wp2
  go_loop [7, 8, 9, 10] (fun co pr ha i => ∃ k : Nat, k ≤ A.length ∧ co = .string (ba rest) ∧ pr = .string ⟨#[]⟩ ∧ ha = .bool false ∧ i = .int .i64 k) (fun _ _ _ i => A.length - (intOf i).toNat)
  case atStart => exact ⟨0, Nat.zero_le _, rfl, rfl, rfl, rfl⟩
  case round =>
    obtain ⟨k, hk, rfl, rfl, rfl, rfl⟩ := hrel
    have hkr : k < rest.length := by omega
    have hgk := ba_get rest k hkr
    by_cases hlt : k < A.length
    · have hne : ((rest[k].toNat : Int) == 45) = false := (unhide HFREE) k hlt hkr
      go_wp2
      go_round
      case rel => exact ⟨k + 1, hlt, rfl, rfl, rfl, by simp⟩
      case measure => simp [intOf]; omega
    · have hke : k = A.length := by omega
      subst hke
      have heq : ((rest[A.length].toNat : Int) == 45) = true := (unhide HHIT) hkr
      go_wp2_with (go_at_call 44; fail)
      refine (refCut_any 46 (l := A) (by omega) _).mono ?_
      rintro e w2 ⟨B, cp, rfl, tx, hB, b2⟩
      rw [unhide HPC]
      have h3 := unhide HLN
      have HT := hide tx
      rw [unhide HPC] at HT
      clear tx
      go_wp2
      exact bodyPost_ret (v := partsV none) (by simp [results, Tryz.results193, go_sem, partsV, ba]) rfl ⟨rfl, b2⟩

set_option maxHeartbeats 2000000 in
set_option maxRecDepth 100000 in
theorem refParts_p_x {rest A P x y z : Str} (h : rest.length + 1 ≤ 60) (he : rest = A ++ 45 :: P) (hf : A.contains 45 = false) (hpc : pieces 46 A = [x, y, z]) (hx : numOk x = false) (w : World) : Tells 193 #[.string (ba (118 :: rest))] w (partsV none) := by
  unfold Tells
  have hsz : (ba (118 :: rest)).size = rest.length + 1 := ba_size _
  have hrs : (ba rest).size = rest.length := ba_size _
  have hq : ¬ (60 : Int) < (rest.length : Int) + 1 := by omega
  have hli := ba_list (118 :: rest)
  have hg0 : (ba (118 :: rest))[0]'(by rw [ba_size]; simp) = 118 := ba_get (118 :: rest) 0 (by simp)
  have hr := cut_rest rest
  have hAl : A.length < rest.length := by rw [he]; simp
  have hPl : P.length ≤ rest.length := by rw [he]; simp; omega
  have hx1 : (ba rest).extract (A.length + 1) rest.length = ba P := by rw [he]; exact drop_from A P 45
  have hx2 : (ba rest).extract 0 A.length = ba A := by rw [he]; exact take_to A P 45
  have HFREE : Hid (∀ k (hk : k < A.length) (hr : k < rest.length), ((rest[k].toNat : Int) == 45) = false) := by
    intro k hk hr
    have e : rest[k] = A[k] := by
      have : rest[k]? = A[k]? := by rw [he, List.getElem?_append_left hk]
      rw [List.getElem?_eq_getElem hr, List.getElem?_eq_getElem hk] at this
      exact Option.some.inj this
    rw [e]; exact free_at hf k hk
  have HHIT : Hid (∀ (hr : A.length < rest.length), ((rest[A.length].toNat : Int) == 45) = true) := by
    intro hr
    have e : rest[A.length] = 45 := by
      have : rest[A.length]? = some 45 := by rw [he]; simp
      rw [List.getElem?_eq_getElem hr] at this
      exact Option.some.inj this
    rw [e]; rfl
  have HLN : Hid (([x, y, z].length : Int) = 3) := rfl
  have hsm := pieces_small 46 A
  have lx : x.length ≤ A.length := hsm x (by rw [hpc]; simp)
  have ly : y.length ≤ A.length := hsm y (by rw [hpc]; simp)
  have lz : z.length ≤ A.length := hsm z (by rw [hpc]; simp)
  have HPC := hide hpc
  have HX := hide hx
  clear hpc hf he hsm hx
  go_enter Tryz.func193, Tryz.ntmps193
  go_wp2
  go_loop [7, 8, 9, 10] (fun co pr ha i => ∃ k : Nat, k ≤ A.length ∧ co = .string (ba rest) ∧ pr = .string ⟨#[]⟩ ∧ ha = .bool false ∧ i = .int .i64 k) (fun _ _ _ i => A.length - (intOf i).toNat)
  case atStart => exact ⟨0, Nat.zero_le _, rfl, rfl, rfl, rfl⟩
  case round =>
    obtain ⟨k, hk, rfl, rfl, rfl, rfl⟩ := hrel
    have hkr : k < rest.length := by omega
    have hgk := ba_get rest k hkr
    by_cases hlt : k < A.length
    · have hne : ((rest[k].toNat : Int) == 45) = false := (unhide HFREE) k hlt hkr
      go_wp2
      go_round
      case rel => exact ⟨k + 1, hlt, rfl, rfl, rfl, by simp⟩
      case measure => simp [intOf]; omega
    · have hke : k = A.length := by omega
      subst hke
      have heq : ((rest[A.length].toNat : Int) == 45) = true := (unhide HHIT) hkr
      go_wp2_with (go_at_call 44; fail)
      refine (refCut_any 46 (l := A) (by omega) _).mono ?_
      rintro e w2 ⟨B, cp, rfl, tx, hB, b2⟩
      rw [unhide HPC]
      have h3 := unhide HLN
      have HT := hide tx
      rw [unhide HPC] at HT
      clear tx
      have c0 : w2.cell? ⟨B, 0, none⟩ = some (.string (ba x)) := (unhide HT) 0 (by simp)
      have c1 : w2.cell? ⟨B, 1, none⟩ = some (.string (ba y)) := (unhide HT) 1 (by simp)
      have c2 : w2.cell? ⟨B, 2, none⟩ = some (.string (ba z)) := (unhide HT) 2 (by simp)
      go_wp2_with (go_at_call 241; refine (refNumber_is (unhide HX) (by omega) _).mono ?_; rintro e w4 ⟨rfl, hw⟩; rw [hw]; clear hw w4)
      exact bodyPost_ret (v := partsV none) (by simp [results, Tryz.results193, go_sem, partsV, ba]) rfl ⟨rfl, b2⟩

set_option maxHeartbeats 2000000 in
set_option maxRecDepth 100000 in
theorem refParts_p_y {rest A P x y z : Str} (h : rest.length + 1 ≤ 60) (he : rest = A ++ 45 :: P) (hf : A.contains 45 = false) (hpc : pieces 46 A = [x, y, z]) (hx : numOk x = true) (hy : numOk y = false) (w : World) : Tells 193 #[.string (ba (118 :: rest))] w (partsV none) := by
  unfold Tells
  have hsz : (ba (118 :: rest)).size = rest.length + 1 := ba_size _
  have hrs : (ba rest).size = rest.length := ba_size _
  have hq : ¬ (60 : Int) < (rest.length : Int) + 1 := by omega
  have hli := ba_list (118 :: rest)
  have hg0 : (ba (118 :: rest))[0]'(by rw [ba_size]; simp) = 118 := ba_get (118 :: rest) 0 (by simp)
  have hr := cut_rest rest
  have hAl : A.length < rest.length := by rw [he]; simp
  have hPl : P.length ≤ rest.length := by rw [he]; simp; omega
  have hx1 : (ba rest).extract (A.length + 1) rest.length = ba P := by rw [he]; exact drop_from A P 45
  have hx2 : (ba rest).extract 0 A.length = ba A := by rw [he]; exact take_to A P 45
  have HFREE : Hid (∀ k (hk : k < A.length) (hr : k < rest.length), ((rest[k].toNat : Int) == 45) = false) := by
    intro k hk hr
    have e : rest[k] = A[k] := by
      have : rest[k]? = A[k]? := by rw [he, List.getElem?_append_left hk]
      rw [List.getElem?_eq_getElem hr, List.getElem?_eq_getElem hk] at this
      exact Option.some.inj this
    rw [e]; exact free_at hf k hk
  have HHIT : Hid (∀ (hr : A.length < rest.length), ((rest[A.length].toNat : Int) == 45) = true) := by
    intro hr
    have e : rest[A.length] = 45 := by
      have : rest[A.length]? = some 45 := by rw [he]; simp
      rw [List.getElem?_eq_getElem hr] at this
      exact Option.some.inj this
    rw [e]; rfl
  have HLN : Hid (([x, y, z].length : Int) = 3) := rfl
  have hsm := pieces_small 46 A
  have lx : x.length ≤ A.length := hsm x (by rw [hpc]; simp)
  have ly : y.length ≤ A.length := hsm y (by rw [hpc]; simp)
  have lz : z.length ≤ A.length := hsm z (by rw [hpc]; simp)
  have HPC := hide hpc
  have HX := hide hx
  have HY := hide hy
  clear hpc hf he hsm hx hy
  go_enter Tryz.func193, Tryz.ntmps193
  go_wp2
  go_loop [7, 8, 9, 10] (fun co pr ha i => ∃ k : Nat, k ≤ A.length ∧ co = .string (ba rest) ∧ pr = .string ⟨#[]⟩ ∧ ha = .bool false ∧ i = .int .i64 k) (fun _ _ _ i => A.length - (intOf i).toNat)
  case atStart => exact ⟨0, Nat.zero_le _, rfl, rfl, rfl, rfl⟩
  case round =>
    obtain ⟨k, hk, rfl, rfl, rfl, rfl⟩ := hrel
    have hkr : k < rest.length := by omega
    have hgk := ba_get rest k hkr
    by_cases hlt : k < A.length
    · have hne : ((rest[k].toNat : Int) == 45) = false := (unhide HFREE) k hlt hkr
      go_wp2
      go_round
      case rel => exact ⟨k + 1, hlt, rfl, rfl, rfl, by simp⟩
      case measure => simp [intOf]; omega
    · have hke : k = A.length := by omega
      subst hke
      have heq : ((rest[A.length].toNat : Int) == 45) = true := (unhide HHIT) hkr
      go_wp2_with (go_at_call 44; fail)
      refine (refCut_any 46 (l := A) (by omega) _).mono ?_
      rintro e w2 ⟨B, cp, rfl, tx, hB, b2⟩
      rw [unhide HPC]
      have h3 := unhide HLN
      have HT := hide tx
      rw [unhide HPC] at HT
      clear tx
      have c0 : w2.cell? ⟨B, 0, none⟩ = some (.string (ba x)) := (unhide HT) 0 (by simp)
      have c1 : w2.cell? ⟨B, 1, none⟩ = some (.string (ba y)) := (unhide HT) 1 (by simp)
      have c2 : w2.cell? ⟨B, 2, none⟩ = some (.string (ba z)) := (unhide HT) 2 (by simp)
      go_wp2_with (go_at_call 241; fail)
      refine (refNumber_is (unhide HX) (by omega) _).mono ?_
      rintro e w4 ⟨rfl, hw⟩
      rw [hw]
      clear hw
      go_wp2_with (go_at_call 241; fail)
      refine (refNumber_is (unhide HY) (by omega) _).mono ?_
      rintro e w5 ⟨rfl, hw⟩
      rw [hw]
      clear hw
      go_wp2
      exact bodyPost_ret (v := partsV none) (by simp [results, Tryz.results193, go_sem, partsV, ba]) rfl ⟨rfl, b2⟩

set_option maxHeartbeats 2000000 in
set_option maxRecDepth 100000 in
theorem refParts_p_z {rest A P x y z : Str} (h : rest.length + 1 ≤ 60) (he : rest = A ++ 45 :: P) (hf : A.contains 45 = false) (hpc : pieces 46 A = [x, y, z]) (hx : numOk x = true) (hy : numOk y = true) (hz : numOk z = false) (w : World) : Tells 193 #[.string (ba (118 :: rest))] w (partsV none) := by
  unfold Tells
  have hsz : (ba (118 :: rest)).size = rest.length + 1 := ba_size _
  have hrs : (ba rest).size = rest.length := ba_size _
  have hq : ¬ (60 : Int) < (rest.length : Int) + 1 := by omega
  have hli := ba_list (118 :: rest)
  have hg0 : (ba (118 :: rest))[0]'(by rw [ba_size]; simp) = 118 := ba_get (118 :: rest) 0 (by simp)
  have hr := cut_rest rest
  have hAl : A.length < rest.length := by rw [he]; simp
  have hPl : P.length ≤ rest.length := by rw [he]; simp; omega
  have hx1 : (ba rest).extract (A.length + 1) rest.length = ba P := by rw [he]; exact drop_from A P 45
  have hx2 : (ba rest).extract 0 A.length = ba A := by rw [he]; exact take_to A P 45
  have HFREE : Hid (∀ k (hk : k < A.length) (hr : k < rest.length), ((rest[k].toNat : Int) == 45) = false) := by
    intro k hk hr
    have e : rest[k] = A[k] := by
      have : rest[k]? = A[k]? := by rw [he, List.getElem?_append_left hk]
      rw [List.getElem?_eq_getElem hr, List.getElem?_eq_getElem hk] at this
      exact Option.some.inj this
    rw [e]; exact free_at hf k hk
  have HHIT : Hid (∀ (hr : A.length < rest.length), ((rest[A.length].toNat : Int) == 45) = true) := by
    intro hr
    have e : rest[A.length] = 45 := by
      have : rest[A.length]? = some 45 := by rw [he]; simp
      rw [List.getElem?_eq_getElem hr] at this
      exact Option.some.inj this
    rw [e]; rfl
  have HLN : Hid (([x, y, z].length : Int) = 3) := rfl
  have hsm := pieces_small 46 A
  have lx : x.length ≤ A.length := hsm x (by rw [hpc]; simp)
  have ly : y.length ≤ A.length := hsm y (by rw [hpc]; simp)
  have lz : z.length ≤ A.length := hsm z (by rw [hpc]; simp)
  have HPC := hide hpc
  have HX := hide hx
  have HY := hide hy
  have HZ := hide hz
  clear hpc hf he hsm hx hy hz
  go_enter Tryz.func193, Tryz.ntmps193
  go_wp2
  go_loop [7, 8, 9, 10] (fun co pr ha i => ∃ k : Nat, k ≤ A.length ∧ co = .string (ba rest) ∧ pr = .string ⟨#[]⟩ ∧ ha = .bool false ∧ i = .int .i64 k) (fun _ _ _ i => A.length - (intOf i).toNat)
  case atStart => exact ⟨0, Nat.zero_le _, rfl, rfl, rfl, rfl⟩
  case round =>
    obtain ⟨k, hk, rfl, rfl, rfl, rfl⟩ := hrel
    have hkr : k < rest.length := by omega
    have hgk := ba_get rest k hkr
    by_cases hlt : k < A.length
    · have hne : ((rest[k].toNat : Int) == 45) = false := (unhide HFREE) k hlt hkr
      go_wp2
      go_round
      case rel => exact ⟨k + 1, hlt, rfl, rfl, rfl, by simp⟩
      case measure => simp [intOf]; omega
    · have hke : k = A.length := by omega
      subst hke
      have heq : ((rest[A.length].toNat : Int) == 45) = true := (unhide HHIT) hkr
      go_wp2_with (go_at_call 44; fail)
      refine (refCut_any 46 (l := A) (by omega) _).mono ?_
      rintro e w2 ⟨B, cp, rfl, tx, hB, b2⟩
      rw [unhide HPC]
      have h3 := unhide HLN
      have HT := hide tx
      rw [unhide HPC] at HT
      clear tx
      have c0 : w2.cell? ⟨B, 0, none⟩ = some (.string (ba x)) := (unhide HT) 0 (by simp)
      have c1 : w2.cell? ⟨B, 1, none⟩ = some (.string (ba y)) := (unhide HT) 1 (by simp)
      have c2 : w2.cell? ⟨B, 2, none⟩ = some (.string (ba z)) := (unhide HT) 2 (by simp)
      go_wp2_with (go_at_call 241; fail)
      refine (refNumber_is (unhide HX) (by omega) _).mono ?_
      rintro e w4 ⟨rfl, hw⟩
      rw [hw]
      clear hw
      go_wp2_with (go_at_call 241; fail)
      refine (refNumber_is (unhide HY) (by omega) _).mono ?_
      rintro e w5 ⟨rfl, hw⟩
      rw [hw]
      clear hw
      go_wp2_with (go_at_call 241; fail)
      refine (refNumber_is (unhide HZ) (by omega) _).mono ?_
      rintro e w6 ⟨rfl, hw⟩
      rw [hw]
      clear hw
      go_wp2
      exact bodyPost_ret (v := partsV none) (by simp [results, Tryz.results193, go_sem, partsV, ba]) rfl ⟨rfl, b2⟩

set_option maxHeartbeats 2000000 in
set_option maxRecDepth 100000 in
theorem refParts_p_ok {rest A P x y z : Str} (h : rest.length + 1 ≤ 60) (he : rest = A ++ 45 :: P) (hf : A.contains 45 = false) (hpc : pieces 46 A = [x, y, z]) (hx : numOk x = true) (hy : numOk y = true) (hz : numOk z = true) (w : World) : Tells 193 #[.string (ba (118 :: rest))] w (preV x y z P) := by
  unfold Tells
  have hsz : (ba (118 :: rest)).size = rest.length + 1 := ba_size _
  have hrs : (ba rest).size = rest.length := ba_size _
  have hq : ¬ (60 : Int) < (rest.length : Int) + 1 := by omega
  have hli := ba_list (118 :: rest)
  have hg0 : (ba (118 :: rest))[0]'(by rw [ba_size]; simp) = 118 := ba_get (118 :: rest) 0 (by simp)
  have hr := cut_rest rest
  have hAl : A.length < rest.length := by rw [he]; simp
  have hPl : P.length ≤ rest.length := by rw [he]; simp; omega
  have hx1 : (ba rest).extract (A.length + 1) rest.length = ba P := by rw [he]; exact drop_from A P 45
  have hx2 : (ba rest).extract 0 A.length = ba A := by rw [he]; exact take_to A P 45
  have HFREE : Hid (∀ k (hk : k < A.length) (hr : k < rest.length), ((rest[k].toNat : Int) == 45) = false) := by
    intro k hk hr
    have e : rest[k] = A[k] := by
      have : rest[k]? = A[k]? := by rw [he, List.getElem?_append_left hk]
      rw [List.getElem?_eq_getElem hr, List.getElem?_eq_getElem hk] at this
      exact Option.some.inj this
    rw [e]; exact free_at hf k hk
  have HHIT : Hid (∀ (hr : A.length < rest.length), ((rest[A.length].toNat : Int) == 45) = true) := by
    intro hr
    have e : rest[A.length] = 45 := by
      have : rest[A.length]? = some 45 := by rw [he]; simp
      rw [List.getElem?_eq_getElem hr] at this
      exact Option.some.inj this
    rw [e]; rfl
  have HLN : Hid (([x, y, z].length : Int) = 3) := rfl
  have hsm := pieces_small 46 A
  have lx : x.length ≤ A.length := hsm x (by rw [hpc]; simp)
  have ly : y.length ≤ A.length := hsm y (by rw [hpc]; simp)
  have lz : z.length ≤ A.length := hsm z (by rw [hpc]; simp)
  have HPC := hide hpc
  have HX := hide hx
  have HY := hide hy
  have HZ := hide hz
  clear hpc hf he hsm hx hy hz
  go_enter Tryz.func193, Tryz.ntmps193
  go_wp2
  go_loop [7, 8, 9, 10] (fun co pr ha i => ∃ k : Nat, k ≤ A.length ∧ co = .string (ba rest) ∧ pr = .string ⟨#[]⟩ ∧ ha = .bool false ∧ i = .int .i64 k) (fun _ _ _ i => A.length - (intOf i).toNat)
  case atStart => exact ⟨0, Nat.zero_le _, rfl, rfl, rfl, rfl⟩
  case round =>
    obtain ⟨k, hk, rfl, rfl, rfl, rfl⟩ := hrel
    have hkr : k < rest.length := by omega
    have hgk := ba_get rest k hkr
    by_cases hlt : k < A.length
    · have hne : ((rest[k].toNat : Int) == 45) = false := (unhide HFREE) k hlt hkr
      go_wp2
      go_round
      case rel => exact ⟨k + 1, hlt, rfl, rfl, rfl, by simp⟩
      case measure => simp [intOf]; omega
    · have hke : k = A.length := by omega
      subst hke
      have heq : ((rest[A.length].toNat : Int) == 45) = true := (unhide HHIT) hkr
      go_wp2_with (go_at_call 44; fail)
      refine (refCut_any 46 (l := A) (by omega) _).mono ?_
      rintro e w2 ⟨B, cp, rfl, tx, hB, b2⟩
      rw [unhide HPC]
      have h3 := unhide HLN
      have HT := hide tx
      rw [unhide HPC] at HT
      clear tx
      have c0 : w2.cell? ⟨B, 0, none⟩ = some (.string (ba x)) := (unhide HT) 0 (by simp)
      have c1 : w2.cell? ⟨B, 1, none⟩ = some (.string (ba y)) := (unhide HT) 1 (by simp)
      have c2 : w2.cell? ⟨B, 2, none⟩ = some (.string (ba z)) := (unhide HT) 2 (by simp)
      go_wp2_with (go_at_call 241; fail)
      refine (refNumber_is (unhide HX) (by omega) _).mono ?_
      rintro e w4 ⟨rfl, hw⟩
      rw [hw]
      clear hw
      go_wp2_with (go_at_call 241; fail)
      refine (refNumber_is (unhide HY) (by omega) _).mono ?_
      rintro e w5 ⟨rfl, hw⟩
      rw [hw]
      clear hw
      go_wp2_with (go_at_call 241; fail)
      refine (refNumber_is (unhide HZ) (by omega) _).mono ?_
      rintro e w6 ⟨rfl, hw⟩
      rw [hw]
      clear hw
      go_wp2_with (go_at_call 44; fail)
      refine (refCut_any 46 (l := P) (by omega) _).mono ?_
      rintro e w3 ⟨B2, cp2, rfl, tx2, hB2, b3⟩
      have HT2 := hide tx2
      have hpb := pieces_bound (c := 46) (l := P) (by omega)
      have hpn := hpb.1
      have HSM := hide hpb.2
      have d0 : w3.cell? ⟨B, 0, none⟩ = some (.string (ba x)) := ((unhide HT).low hB.1 b3) 0 (by simp)
      have d1 : w3.cell? ⟨B, 1, none⟩ = some (.string (ba y)) := ((unhide HT).low hB.1 b3) 1 (by simp)
      have d2 : w3.cell? ⟨B, 2, none⟩ = some (.string (ba z)) := ((unhide HT).low hB.1 b3) 2 (by simp)
      have b3 := low_trans b2 b3
      clear tx2 hpb c0 c1 c2 b2
      go_wp2
      go_loop [13] (fun i => ∃ k : Nat, k ≤ (pieces 46 P).length ∧ i = .int .i64 k ∧ ((pieces 46 P).take k).all validIdB = true) (fun i => (pieces 46 P).length - (intOf i).toNat)
      case atStart => exact ⟨0, Nat.zero_le _, rfl, rfl⟩
      case round =>
        obtain ⟨k, hk, rfl, hall⟩ := hrel
        have HA := hide hall
        clear hall
        by_cases hlt2 : k < (pieces 46 P).length
        · have hc := (unhide HT2) k hlt2
          cases hv : validIdB (pieces 46 P)[k] with
          | false =>
            have HF : Hid (preV x y z P = partsV none) := by show preV x y z P = _; unfold preV validPreB; rw [all_no hlt2 hv]; rfl
            have HV := hide hv
            clear hv
            go_wp2_with (go_at_call 243; refine (refIdent_is (unhide HV) ((unhide HSM) _ (List.getElem_mem hlt2)) _).mono ?_; rintro e w4 ⟨rfl, hw⟩; rw [hw]; clear hw w4)
            exact bodyPost_ret (v := partsV none) (by simp [results, Tryz.results193, go_sem, partsV, ba]) rfl ⟨retv (unhide HF).symm, b3⟩
          | true =>
            have HF := hide (all_take (unhide HA) hlt2 hv)
            have HV := hide hv
            clear HA hv
            go_wp2_with (go_at_call 243; refine (refIdent_is (unhide HV) ((unhide HSM) _ (List.getElem_mem hlt2)) _).mono ?_; rintro e w4 ⟨rfl, hw⟩; rw [hw]; clear hw w4)
            go_round
            case rel => exact ⟨k + 1, hlt2, by simp, unhide HF⟩
            case measure => simp [intOf]; omega
        · have hke : k = (pieces 46 P).length := by omega
          subst hke
          have HF : Hid (preV x y z P = partsV (some ⟨numVal x, numVal y, numVal z, P⟩)) := by
            have := unhide HA
            rw [List.take_length] at this
            show preV x y z P = _
            unfold preV validPreB; rw [this]; rfl
          clear HA
          go_wp2_with (go_at_call 242; fail)
          refine (refAtoi_ok (unhide HX) _).mono ?_
          rintro e w7 ⟨rfl, hw⟩
          rw [hw]
          clear hw
          go_wp2_with (go_at_call 242; fail)
          refine (refAtoi_ok (unhide HY) _).mono ?_
          rintro e w8 ⟨rfl, hw⟩
          rw [hw]
          clear hw
          go_wp2_with (go_at_call 242; fail)
          refine (refAtoi_ok (unhide HZ) _).mono ?_
          rintro e w9 ⟨rfl, hw⟩
          rw [hw]
          clear hw
          go_wp2
          exact bodyPost_ret (v := partsV (some ⟨numVal x, numVal y, numVal z, P⟩)) (by simp [results, Tryz.results193, go_sem, partsV]) rfl ⟨retv (unhide HF).symm, b3⟩

theorem refParts_any (v : Str) (w : World) : Tells 193 #[.string (ba v)] w (partsV (parseV v)) := by
  by_cases hl : v.length ≤ 60
  · cases v with
    | nil => exact refParts_empty w
    | cons c rest =>
      by_cases hc : c = 118
      · subst hc
        have hl' : rest.length + 1 ≤ 60 := by simpa using hl
        have e : parseV (118 :: rest) = parseR rest := by unfold parseV; rw [if_pos hl]; rfl
        rw [e]
        cases hh : rest.contains 45 with
        | false =>
          obtain ⟨ea, eb⟩ := ahead_none 45 rest hh
          have er : parseR rest = match numsOf (pieces 46 rest) with | none => none | some (a, b, c) => some ⟨a, b, c, []⟩ := by
            unfold parseR; rw [ea, eb, hh]; rfl
          obtain ⟨ps, hps⟩ : ∃ ps, pieces 46 rest = ps := ⟨_, rfl⟩
          rw [er, hps]
          by_cases h3 : ps.length = 3
          · match ps, h3 with
            | [x, y, z], _ =>
              cases hx : numOk x with
              | false => have : numsOf [x, y, z] = none := by simp [numsOf, hx]
                         rw [this]; exact refParts_b_x hl' hh hps hx w
              | true =>
                cases hy : numOk y with
                | false => have : numsOf [x, y, z] = none := by simp [numsOf, hy]
                           rw [this]; exact refParts_b_y hl' hh hps hx hy w
                | true =>
                  cases hz : numOk z with
                  | false => have : numsOf [x, y, z] = none := by simp [numsOf, hz]
                             rw [this]; exact refParts_b_z hl' hh hps hx hy hz w
                  | true => have : numsOf [x, y, z] = some (numVal x, numVal y, numVal z) := by simp [numsOf, hx, hy, hz]
                            rw [this]; exact refParts_b_ok hl' hh hps hx hy hz w
          · have : numsOf ps = none := nums_len h3
            rw [this]; exact refParts_b_len hl' hh hps h3 w
        | true =>
          have he := ahead_behind 45 rest hh
          have hf := not_mem_ahead 45 rest
          have er : parseR rest = match numsOf (pieces 46 (ahead 45 rest)) with | none => none | some (a, b, c) => if validPreB (behind 45 rest) then some ⟨a, b, c, behind 45 rest⟩ else none := by
            unfold parseR; rw [hh]
            cases numsOf (pieces 46 (ahead 45 rest)) with
            | none => rfl
            | some x => cases validPreB (behind 45 rest) <;> rfl
          rw [er]
          generalize ahead 45 rest = A at *
          generalize behind 45 rest = P at *
          obtain ⟨ps, hps⟩ : ∃ ps, pieces 46 A = ps := ⟨_, rfl⟩
          rw [hps]
          by_cases h3 : ps.length = 3
          · match ps, h3 with
            | [x, y, z], _ =>
              cases hx : numOk x with
              | false => have : numsOf [x, y, z] = none := by simp [numsOf, hx]
                         rw [this]; exact refParts_p_x hl' he hf hps hx w
              | true =>
                cases hy : numOk y with
                | false => have : numsOf [x, y, z] = none := by simp [numsOf, hy]
                           rw [this]; exact refParts_p_y hl' he hf hps hx hy w
                | true =>
                  cases hz : numOk z with
                  | false => have : numsOf [x, y, z] = none := by simp [numsOf, hz]
                             rw [this]; exact refParts_p_z hl' he hf hps hx hy hz w
                  | true => have : numsOf [x, y, z] = some (numVal x, numVal y, numVal z) := by simp [numsOf, hx, hy, hz]
                            rw [this]
                            have hk := refParts_p_ok hl' he hf hps hx hy hz w
                            have ev : preV x y z P = partsV (if validPreB P then some ⟨numVal x, numVal y, numVal z, P⟩ else none) := by unfold preV; cases validPreB P <;> rfl
                            rw [ev] at hk; exact hk
          · have : numsOf ps = none := nums_len h3
            rw [this]; exact refParts_p_len hl' he hf hps h3 w
      · have e : parseV (c :: rest) = none := by
          unfold parseV; rw [if_pos hl]
          split
          · rename_i heq; injection heq with h1 _; exact absurd h1 hc
          · rfl
        rw [e]; exact refParts_head (by simpa using hl) hc w
  · have e : parseV v = none := by unfold parseV; rw [if_neg hl]
    rw [e]; exact refParts_long (by omega) w

end Go.Proofs.YthcafeoamabkgaaGreatDoor

namespace Go.Proofs.YthcafeoamabkgaaGreatDoor
open Go.RowKit

theorem refValid_any (v : Str) (w : World) : Tells 153 #[.string (ba v)] w (.bool (parseV v).isSome) := by
  unfold Tells
  obtain ⟨a, b, c, p, ok, hp⟩ : ∃ (a b c : Int) (p : ByteArray) (ok : Bool), partsV (parseV v) = .tuple #[.int .i64 a, .int .i64 b, .int .i64 c, .string p, .bool ok] ∧ ok = (parseV v).isSome := ⟨_, _, _, _, _, rfl, rfl⟩
  obtain ⟨hp, hok⟩ := hp
  rw [← hok]
  have HP := hide hp
  clear hp hok
  go_enter Tryz.func153, Tryz.ntmps153
  go_wp2_with (go_at_call 193; fail)
  refine (refParts_any v _).mono ?_
  rintro e w1 ⟨rfl, b1⟩
  rw [unhide HP]
  go_wp2
  go_ret
  exact ⟨rfl, b1⟩
theorem refValid_is {v : Str} {b : Bool} (h : (parseV v).isSome = b) (w : World) : Tells 153 #[.string (ba v)] w (.bool b) := by rw [← h]; exact refValid_any v w
theorem refParts_none {v : Str} (h : parseV v = none) (w : World) : Tells 193 #[.string (ba v)] w (.tuple #[.int .i64 0, .int .i64 0, .int .i64 0, .string ⟨#[]⟩, .bool false]) := by
  have := refParts_any v w
  rw [h] at this
  exact this
theorem refParts_some {v : Str} {x : Ver} (h : parseV v = some x) (w : World) : Tells 193 #[.string (ba v)] w (.tuple #[.int .i64 (x.a : Int), .int .i64 (x.b : Int), .int .i64 (x.c : Int), .string (ba x.pre), .bool true]) := by
  have := refParts_any v w
  rw [h] at this
  exact this

end Go.Proofs.YthcafeoamabkgaaGreatDoor
