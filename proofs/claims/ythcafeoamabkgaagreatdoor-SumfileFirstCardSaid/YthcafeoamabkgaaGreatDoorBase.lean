/-
  What a byte may be, and whether each byte of a text may be there: the contracts.
-/
import Derived.Test.YthcafeoamabkgaaGreatDoorPure4
import Derived.Test.YthcafeoamabkgaaGreatDoorShelf
import Derived.Test.YthcafeoamabkgaaGreatDoorBel
import Derived.WalkKit
import Derived.WalkLawsBesides
import Derived.WalkSpells
import Derived.Deep.QuietTactic
import Derived.BigQuiet
namespace Go.Proofs.YthcafeoamabkgaaGreatDoor
open Go.RowKit

theorem hide {p : Prop} (h : p) : Hid p := h
theorem unhide {p : Prop} (h : Hid p) : p := h
theorem ret_bool {a b : Bool} (h : a = b) : Ending.returned (.bool a) = .returned (.bool b) := by rw [h]

/-- A function of a byte that answers as a plain one. -/
def Asks (n : Nat) (p : UInt8 → Bool) : Prop := ∀ (c : UInt8) (w : World), Calls Tryz.prog n #[.int .u8 (c.toNat : Int)] w fun e w' => e = .returned (.bool (p c)) ∧ w' = w
theorem neN (c : UInt8) (k : Nat) : ((c.toNat : Int) != (k : Int)) = !decide (c.toNat = k) := by
  rw [Bool.eq_iff_iff]; simp; omega
theorem eqN (c : UInt8) (k : Nat) : ((c.toNat : Int) == (k : Int)) = decide (c.toNat = k) := by
  rw [Bool.eq_iff_iff]; simp; omega

theorem digit_asks : Asks 249 digitB := by
  intro c w
  go_enter Tryz.func249, Tryz.ntmps249
  go_wp2
  all_goals
    go_ret
    refine ⟨ret_bool ?_, rfl⟩
    rw [Bool.eq_iff_iff]
    first | (simp_all [digitB]; done) | (simp_all [digitB]; omega)

theorem lower_asks : Asks 248 lowerB := by
  intro c w
  go_enter Tryz.func248, Tryz.ntmps248
  go_wp2
  all_goals
    go_ret
    refine ⟨ret_bool ?_, rfl⟩
    rw [Bool.eq_iff_iff]
    first | (simp_all [lowerB]; done) | (simp_all [lowerB]; omega)

theorem upper_asks : Asks 211 upperB := by
  intro c w
  go_enter Tryz.func211, Tryz.ntmps211
  go_wp2
  all_goals
    go_ret
    refine ⟨ret_bool ?_, rfl⟩
    rw [Bool.eq_iff_iff]
    first | (simp_all [upperB]; done) | (simp_all [upperB]; omega)

theorem host_asks : Asks 210 hostB := by
  intro c w
  go_enter Tryz.func210, Tryz.ntmps210
  go_wp2_with (first | (go_at_call 248; refine (lower_asks c _).mono ?_; rintro e w1 ⟨rfl, rfl⟩) | (go_at_call 249; refine (digit_asks c _).mono ?_; rintro e w1 ⟨rfl, rfl⟩))
  all_goals
    go_ret
    refine ⟨ret_bool ?_, rfl⟩
    rw [Bool.eq_iff_iff]
    first | (simp_all [hostB]; done) | (simp_all [hostB]; omega)

theorem path_asks : Asks 167 pathB := by
  intro c w
  go_enter Tryz.func167, Tryz.ntmps167
  go_wp2_with (first | (go_at_call 210; refine (host_asks c _).mono ?_; rintro e w1 ⟨rfl, rfl⟩) | (go_at_call 211; refine (upper_asks c _).mono ?_; rintro e w1 ⟨rfl, rfl⟩))
  all_goals
    go_ret
    refine ⟨ret_bool ?_, rfl⟩
    rw [Bool.eq_iff_iff]
    first | (simp_all [pathB]; done) | (simp_all [pathB]; omega)

theorem import_asks : Asks 186 importB := by
  intro c w
  go_enter Tryz.func186, Tryz.ntmps186
  go_wp2_with (go_at_call 167; refine (path_asks c _).mono ?_; rintro e w1 ⟨rfl, rfl⟩)
  all_goals
    go_ret
    refine ⟨ret_bool ?_, rfl⟩
    rw [Bool.eq_iff_iff]
    first | (simp_all [importB]; done) | (simp_all [importB]; omega)

theorem letter_asks : Asks 275 letterB := by
  intro c w
  go_enter Tryz.func275, Tryz.ntmps275
  go_wp2_with (first | (go_at_call 248; refine (lower_asks c _).mono ?_; rintro e w1 ⟨rfl, rfl⟩) | (go_at_call 211; refine (upper_asks c _).mono ?_; rintro e w1 ⟨rfl, rfl⟩))
  all_goals
    go_ret
    refine ⟨ret_bool ?_, rfl⟩
    rw [Bool.eq_iff_iff]
    first | (simp_all [letterB]; done) | (simp_all [letterB]; omega)

theorem ident_asks : Asks 265 identB := by
  intro c w
  go_enter Tryz.func265, Tryz.ntmps265
  go_wp2_with (first | (go_at_call 249; refine (digit_asks c _).mono ?_; rintro e w1 ⟨rfl, rfl⟩) | (go_at_call 275; refine (letter_asks c _).mono ?_; rintro e w1 ⟨rfl, rfl⟩))
  all_goals
    go_ret
    refine ⟨ret_bool ?_, rfl⟩
    rw [Bool.eq_iff_iff]
    first | (simp_all [identB]; done) | (simp_all [identB]; omega)


theorem ba_get (l : Str) (k : Nat) (h : k < l.length) : (ba l)[k]'(by rw [ba_size]; exact h) = l[k] := by
  simp [ba, ByteArray.getElem_eq_getElem_data]

theorem every_any {n : Nat} {p : UInt8 → Bool} (h : Asks n p) (hen : ∀ args w, (callFunc n args).run Tryz.prog w = .ok (.enter n args) w) (l : Str) (hl : l.length ≤ 4294967281) (w : World) :
    Calls Tryz.prog 213 #[.string (ba l), .func (.func n) #[] #[]] w fun e w' => e = .returned (.bool (l.all p)) ∧ w' = w := by
  have hsz : (ba l).size = l.length := ba_size l
  go_enter Tryz.func213, Tryz.ntmps213
  go_wp2
  go_loop [8] (fun i => ∃ k : Nat, k ≤ l.length ∧ i = .int .i64 k ∧ (l.take k).all p = true) (fun i => l.length - (intOf i).toNat)
  case atStart => exact ⟨0, Nat.zero_le _, rfl, rfl⟩
  case round =>
    obtain ⟨k, hk, rfl, hall⟩ := hrel
    have HA := hide hall
    clear hall
    by_cases hlt : k < l.length
    · go_wp2
      refine (h _ _).mono ?_
      rintro e w1 ⟨rfl, rfl⟩
      cases hp : p (ba l)[k] with
      | false =>
        have HP : Hid (l.all p = false) := by
          show l.all p = false
          rw [List.all_eq_false]
          have hc : p l[k] = false := by rw [← ba_get l k hlt]; exact hp
          exact ⟨l[k], List.getElem_mem hlt, by rw [hc]; decide⟩
        go_wp2
        go_ret
        exact ⟨ret_bool (unhide HP).symm, rfl⟩
      | true =>
        have HP : Hid ((l.take (k + 1)).all p = true) := by
          show (l.take (k + 1)).all p = true
          have hA := unhide HA
          have hc : p l[k] = true := by rw [← ba_get l k hlt]; exact hp
          rw [List.take_add_one, List.all_append, hA, List.getElem?_eq_getElem hlt]
          simp [hc]
        clear HA
        go_wp2
        go_round
        case rel => exact ⟨k + 1, hlt, by simp, unhide HP⟩
        case measure => simp [intOf]; omega
    · have hke : k = l.length := by omega
      subst hke
      have HA' : Hid (l.all p = true) := by
        have hA := unhide HA
        rw [List.take_length] at hA
        exact hA
      clear HA
      go_wp2
      go_ret
      exact ⟨ret_bool (unhide HA').symm, rfl⟩

theorem ba_list (l : Str) : (ba l).toList = l := by rw [Lib.toList_data]; rfl
theorem ba_nil {l : Str} (h : ¬ (ba l).toList = []) : l.isEmpty = false := by rw [ba_list] at h; simp [h]

theorem every_at {n : Nat} {p : UInt8 → Bool} (h : Asks n p) (hen : ∀ args w, (callFunc n args).run Tryz.prog w = .ok (.enter n args) w) (s : ByteArray) (l : Str) (hs : s = ba l) (hl : l.length ≤ 4294967281) (w : World) :
    Calls Tryz.prog 213 #[.string s, .func (.func n) #[] #[]] w fun e w' => e = .returned (.bool (l.all p)) ∧ w' = w := by rw [hs]; exact every_any h hen l hl w

theorem digits_any (l : Str) (hl : l.length ≤ 4294967281) (w : World) : Calls Tryz.prog 216 #[.string (ba l)] w fun e w' => e = .returned (.bool (digitsB l)) ∧ w' = w := by
  go_enter Tryz.func216, Tryz.ntmps216
  go_wp2_with (go_at_call 213; refine (every_any digit_asks (enters_of Tryz.func249 (by kernel_rfl) rfl) l hl _).mono ?_; rintro e w1 ⟨rfl, rfl⟩)
  all_goals
    go_ret
    refine ⟨ret_bool ?_, rfl⟩
    simp_all [digitsB, ba_list]

theorem zeroAhead_any (l : Str) (hl : l.length ≤ 4294967281) (w : World) : Calls Tryz.prog 251 #[.string (ba l)] w fun e w' => e = .returned (.bool (zeroAheadB l)) ∧ w' = w := by
  have hsz : (ba l).size = l.length := ba_size l
  go_enter Tryz.func251, Tryz.ntmps251
  go_wp2
  all_goals
    go_ret
    refine ⟨ret_bool ?_, rfl⟩
    unfold zeroAheadB
    rename_i h1
    first
    | (have h0 : 0 < l.length := h1
       have e : ((ba l)[0]'(by rw [ba_size]; exact h0)) = l[0] := ba_get l 0 h0
       have e2 : l.getD 0 0 = l[0] := by simp [List.getD, h0]
       rename_i h2
       have h3 : 1 < l.length := by omega
       rw [e2, ← e]
       rw [Bool.eq_iff_iff]
       simp only [h3, decide_true, Bool.true_and, beq_iff_eq, decide_eq_true_eq]
       constructor
       · intro h; apply UInt8.toNat_inj.1; have h48 : (48 : UInt8).toNat = 48 := rfl; omega
       · intro h; rw [h]; rfl)
    | (have h3 : ¬ 1 < l.length := by omega
       simp [h3])

end Go.Proofs.YthcafeoamabkgaaGreatDoor
