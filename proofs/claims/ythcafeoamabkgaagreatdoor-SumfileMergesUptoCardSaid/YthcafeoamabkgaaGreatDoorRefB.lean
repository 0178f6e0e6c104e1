/-
  The reference's Atoi and Cut: the contracts.
-/
import Derived.Test.YthcafeoamabkgaaGreatDoorRefA
import Derived.Test.YthcafeoamabkgaaGreatDoorPure5
namespace Go.Proofs.YthcafeoamabkgaaGreatDoor
open Go.RowKit

theorem quo_small {x : Int} (h0 : 0 ≤ x) (h9 : x ≤ 9) : (-9223372036854775808 + x).tdiv 10 ≤ -922337203685477579 := by
  have : x = 0 ∨ x = 1 ∨ x = 2 ∨ x = 3 ∨ x = 4 ∨ x = 5 ∨ x = 6 ∨ x = 7 ∨ x = 8 ∨ x = 9 := by omega
  rcases this with rfl | rfl | rfl | rfl | rfl | rfl | rfl | rfl | rfl | rfl <;> decide

theorem numVal_take {l : Str} {k : Nat} (h : k < l.length) : numVal (l.take (k + 1)) = numVal (l.take k) * 10 + (l[k].toNat - 48) := by
  rw [List.take_add_one, List.getElem?_eq_getElem h]
  exact numVal_append _ _

theorem numVal_bound {l : Str} (h : l.all digitB = true) (h9 : l.length ≤ 9) (k : Nat) : numVal (l.take k) ≤ 999999999 := by
  have h1 := numVal_lt (l.take k).length (l.take k) (Nat.le_refl _) (by rw [List.all_eq_true] at h ⊢; intro c hc; exact h c (List.mem_of_mem_take hc))
  have h2 : 10 ^ (l.take k).length ≤ 10 ^ 9 := Nat.pow_le_pow_right (by decide) (by simp; omega)
  have h3 : (10 : Nat) ^ 9 = 1000000000 := by decide
  omega

set_option maxHeartbeats 1000000 in
theorem refAtoi_ok {l : Str} (h : numOk l = true) (w : World) : Calls Tryz.prog 242 #[.string (ba l)] w fun e w' => e = .returned (.tuple #[.int .i64 (numVal l : Int), .bool true]) ∧ w' = w := by
  have hsz : (ba l).size = l.length := ba_size l
  have hli := ba_list l
  have hn := h
  simp only [numOk, digitsB, Bool.and_eq_true, Bool.not_eq_true', decide_eq_true_eq, List.isEmpty_eq_false_iff] at hn
  obtain ⟨⟨h9, hne, hall⟩, hz⟩ := hn
  have h0 : 0 < l.length := List.length_pos_iff.2 hne
  have hg0 := ba_get l 0 h0
  have hie : l.isEmpty = false := by simpa using hne
  have hd0 : digitB l[0] = true := List.all_eq_true.1 hall _ (List.getElem_mem h0)
  rw [digitB_iff] at hd0
  have q45 : ((l[0].toNat : Int) == 45) = false := by simp; omega
  have HALL := hide hall
  have q19 : decide ((19 : Int) < l.length) = false := by simp; omega
  have hz48 : 1 < l.length → ((l[0].toNat : Int) == 48) = false := by
    intro h1
    rw [zero_form h0] at hz
    cases hq : (l == [48]) with
    | true => have : l = [48] := by simpa using hq
              rw [this] at h1; simp at h1
    | false => rw [hq] at hz; simpa using hz
  have HW : Hid (∀ a : World, ∀ act : Act, True) := fun _ _ => trivial
  by_cases h1 : 1 < l.length
  · have h1b : decide ((1 : Int) < l.length) = true := by simp; omega
    have hz' := hz48 h1
    clear hz48 hz hall hne h HW
    go_enter Tryz.func242, Tryz.ntmps242
    go_wp2
    go_loop [6, 7] (fun n i => ∃ k : Nat, k ≤ l.length ∧ n = .int .i64 (-(numVal (l.take k) : Int)) ∧ i = .int .i64 k) (fun _ i => l.length - (intOf i).toNat)
    case atStart => exact ⟨0, Nat.zero_le _, rfl, rfl⟩
    case round =>
      obtain ⟨k, hk, rfl, rfl⟩ := hrel
      have hb1 := numVal_bound (unhide HALL) h9 k
      by_cases hlt : k < l.length
      · have hg := ba_get l k hlt
        have hdk : digitB l[k] = true := List.all_eq_true.1 (unhide HALL) _ (List.getElem_mem hlt)
        rw [digitB_iff] at hdk
        have hb2 := numVal_bound (unhide HALL) h9 (k + 1)
        have htk := numVal_take hlt
        obtain ⟨m, hm⟩ : ∃ m, numVal (l.take k) = m := ⟨_, rfl⟩
        obtain ⟨m', hm'⟩ : ∃ m', numVal (l.take (k + 1)) = m' := ⟨_, rfl⟩
        obtain ⟨c, hcc⟩ : ∃ c : Int, (l[k].toNat : Int) = c := ⟨_, rfl⟩
        rw [hm'] at htk hb2
        rw [hm] at htk hb1 ⊢
        have c1 : 48 ≤ c := by omega
        have c2 : c ≤ 57 := by omega
        have hqt := quo_small (x := c - 48) (by omega) (by omega)
        have hnq : ¬ -(m : Int) < (-9223372036854775808 + (c - 48)).tdiv 10 := by omega
        have HE : Hid (10 * -(m : Int) - (c - 48) = -(numVal (l.take (k + 1)) : Int)) := by show _ = _; rw [hm']; omega
        have p1 : ¬ c < 48 := by omega
        have p2 : ¬ 57 < c := by omega
        clear hqt htk hdk hm' hb2
        go_wp2
        go_round
        case rel => exact ⟨k + 1, hlt, by rw [← unhide HE], by simp⟩
        case measure => simp [intOf]; omega
      · have hke : k = l.length := by omega
        subst hke
        rw [List.take_length] at hb1 ⊢
        have hnm : ¬ -(numVal l : Int) = -9223372036854775808 := by omega
        go_wp2
        go_ret2
        exact ⟨by simp, rfl⟩
  · have h1b : decide ((1 : Int) < l.length) = false := by simp; omega
    clear hz48 hz hall hne h HW
    go_enter Tryz.func242, Tryz.ntmps242
    go_wp2
    go_loop [6, 7] (fun n i => ∃ k : Nat, k ≤ l.length ∧ n = .int .i64 (-(numVal (l.take k) : Int)) ∧ i = .int .i64 k) (fun _ i => l.length - (intOf i).toNat)
    case atStart => exact ⟨0, Nat.zero_le _, rfl, rfl⟩
    case round =>
      obtain ⟨k, hk, rfl, rfl⟩ := hrel
      have hb1 := numVal_bound (unhide HALL) h9 k
      by_cases hlt : k < l.length
      · have hg := ba_get l k hlt
        have hdk : digitB l[k] = true := List.all_eq_true.1 (unhide HALL) _ (List.getElem_mem hlt)
        rw [digitB_iff] at hdk
        have hb2 := numVal_bound (unhide HALL) h9 (k + 1)
        have htk := numVal_take hlt
        obtain ⟨m, hm⟩ : ∃ m, numVal (l.take k) = m := ⟨_, rfl⟩
        obtain ⟨m', hm'⟩ : ∃ m', numVal (l.take (k + 1)) = m' := ⟨_, rfl⟩
        obtain ⟨c, hcc⟩ : ∃ c : Int, (l[k].toNat : Int) = c := ⟨_, rfl⟩
        rw [hm'] at htk hb2
        rw [hm] at htk hb1 ⊢
        have c1 : 48 ≤ c := by omega
        have c2 : c ≤ 57 := by omega
        have hqt := quo_small (x := c - 48) (by omega) (by omega)
        have hnq : ¬ -(m : Int) < (-9223372036854775808 + (c - 48)).tdiv 10 := by omega
        have HE : Hid (10 * -(m : Int) - (c - 48) = -(numVal (l.take (k + 1)) : Int)) := by show _ = _; rw [hm']; omega
        have p1 : ¬ c < 48 := by omega
        have p2 : ¬ 57 < c := by omega
        clear hqt htk hdk hm' hb2
        go_wp2
        go_round
        case rel => exact ⟨k + 1, hlt, by rw [← unhide HE], by simp⟩
        case measure => simp [intOf]; omega
      · have hke : k = l.length := by omega
        subst hke
        rw [List.take_length] at hb1 ⊢
        have hnm : ¬ -(numVal l : Int) = -9223372036854775808 := by omega
        go_wp2
        go_ret2
        exact ⟨by simp, rfl⟩

/-! ### Cut -/


/-! ### identifier -/

theorem ident_parts (c : UInt8) : identB c = (digitB c || lowerB c || upperB c || ((c.toNat : Int) == 45)) := by
  have e : ((c.toNat : Int) == 45) = decide (c.toNat = 45) := by rw [Bool.eq_iff_iff]; simp; omega
  unfold identB letterB
  rw [e]
  cases digitB c <;> cases lowerB c <;> cases upperB c <;> simp

end Go.Proofs.YthcafeoamabkgaaGreatDoor
