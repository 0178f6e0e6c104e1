/-
  Names of keys and texts of notes: what may be one.
-/
import Derived.Test.YtkablmjkffdloaaGreatDoorPure
import Derived.Test.YtkablmjkffdloaaGreatDoorCutR
namespace Go.Proofs.YtkablmjkffdloaaGreatDoor
open Go.RowKit

def printB (c : UInt8) : Bool := decide (32 ≤ c.toNat) && decide (c.toNat ≤ 126)
/-- A sign of a key's name. -/
def nameC (c : UInt8) : Bool := printB c && decide (c.toNat ≠ 32) && decide (c.toNat ≠ 43)
/-- A key's name. -/
def nameB (s : Bs) : Bool := s.all nameC && (decide (1 ≤ s.length) && decide (s.length ≤ 50))
/-- A sign of a note's text. -/
def textC (c : UInt8) : Bool := decide (c.toNat = 10) || printB c

theorem isPrinted_any (c : UInt8) (w : World) : Calls Tryz.prog 154 #[.int .u8 (c.toNat : Int)] w fun e w' => e = .returned (.bool (printB c)) ∧ w' = w := by
  unfold printB
  obtain ⟨t, ht⟩ : ∃ t, c.toNat = t := ⟨_, rfl⟩
  rw [ht]
  clear ht
  by_cases h1 : 32 ≤ t
  · have a1 : (32 : Int) ≤ (t : Int) := by omega
    by_cases h2 : t ≤ 126
    · have a2 : (t : Int) ≤ 126 := by omega
      go_enter Tryz.func154, Tryz.ntmps154
      go_wp2
      go_ret
      exact ⟨by simp [h1, h2], rfl⟩
    · have a2 : ¬ (t : Int) ≤ 126 := by omega
      go_enter Tryz.func154, Tryz.ntmps154
      go_wp2
      go_ret
      exact ⟨by simp, rfl⟩
  · have a1 : ¬ (32 : Int) ≤ (t : Int) := by omega
    go_enter Tryz.func154, Tryz.ntmps154
    go_wp2
    go_ret
    exact ⟨by simp, rfl⟩

theorem all_upto {p : UInt8 → Bool} {l : Bs} {k : Nat} (hk : k < l.length) (h : (l.take k).all p = true) (hc : p l[k] = true) : (l.take (k + 1)).all p = true := by
  rw [List.take_add_one, List.getElem?_eq_getElem hk, List.all_append, h]
  simp [hc]
theorem all_not {p : UInt8 → Bool} {l : Bs} {k : Nat} (hk : k < l.length) (hc : p l[k] = false) : l.all p = false := by
  rw [Bool.eq_false_iff]
  intro h
  have := List.all_eq_true.1 h _ (List.getElem_mem hk)
  rw [hc] at this
  cases this

set_option maxRecDepth 100000 in
set_option maxHeartbeats 1000000 in
theorem isKeyName_any {l : Bs} (hl : l.length ≤ 1000000) (w : World) : Calls Tryz.prog 151 #[.string (ba l)] w fun e w' => e = .returned (.bool (nameB l)) ∧ w' = w := by
  obtain ⟨n, hn⟩ : ∃ n, l.length = n := ⟨_, rfl⟩
  have hsz : (ba l).size = n := by rw [ba_size]; exact hn
  have HN := hide hn
  have hl2 : n ≤ 1000000 := by omega
  clear hn hl
  go_enter Tryz.func151, Tryz.ntmps151
  go_wp2
  go_loop [3, 6] (fun _ v6 => ∃ k : Nat, k ≤ n ∧ v6 = .int .i64 (k : Int) ∧ Hid ((l.take k).all nameC = true)) (fun _ v6 => n - (intOf v6).toNat)
  case atStart => exact ⟨0, Nat.zero_le _, rfl, hide (by simp)⟩
  case round =>
    obtain ⟨k, hk, rfl, hne⟩ := hrel
    by_cases hlt : k < n
    · have hkl : k < l.length := by rw [unhide HN]; exact hlt
      have hlt' : (k : Int) < (n : Int) := by omega
      obtain ⟨c, hc⟩ : ∃ c, l[k] = c := ⟨_, rfl⟩
      have hidx : ∀ (h : k < (ba l).size), (ba l)[k]'h = c := fun h => by rw [← hc]; rfl
      have KP := hide (isPrinted_any c)
      obtain ⟨p, hp⟩ : ∃ p, printB c = p := ⟨_, rfl⟩
      rw [hp] at KP
      obtain ⟨b2, hb2⟩ : ∃ b2, ((c.toNat : Int) == 32) = b2 := ⟨_, rfl⟩
      obtain ⟨b3, hb3⟩ : ∃ b3, ((c.toNat : Int) == 43) = b3 := ⟨_, rfl⟩
      have hnc : nameC c = (p && !b2 && !b3) := by
        have e2 : b2 = decide (c.toNat = 32) := by rw [← hb2, Bool.eq_iff_iff]; simp; omega
        have e3 : b3 = decide (c.toNat = 43) := by rw [← hb3, Bool.eq_iff_iff]; simp; omega
        unfold nameC
        rw [hp, e2, e3]
        simp
      have HNC : Hid (nameC l[k] = (p && !b2 && !b3)) := hide (by rw [hc]; exact hnc)
      clear hp hc hnc
      cases p with
      | false =>
        have HF : Hid (nameB l = false) := hide (by unfold nameB; rw [all_not hkl (by rw [unhide HNC]; rfl)]; rfl)
        go_wp2_with (go_at_call 154; refine (unhide KP _).mono ?_; rintro e wn ⟨rfl, hwn⟩; rw [hwn]; clear hwn wn)
        go_ret
        rw [unhide HF]
        exact ⟨rfl, rfl⟩
      | true =>
        cases b2 with
        | true =>
          have HF : Hid (nameB l = false) := hide (by unfold nameB; rw [all_not hkl (by rw [unhide HNC]; rfl)]; rfl)
          go_wp2_with (go_at_call 154; refine (unhide KP _).mono ?_; rintro e wn ⟨rfl, hwn⟩; rw [hwn]; clear hwn wn)
          go_ret
          rw [unhide HF]
          exact ⟨rfl, rfl⟩
        | false =>
          cases b3 with
          | true =>
            have HF : Hid (nameB l = false) := hide (by unfold nameB; rw [all_not hkl (by rw [unhide HNC]; rfl)]; rfl)
            go_wp2_with (go_at_call 154; refine (unhide KP _).mono ?_; rintro e wn ⟨rfl, hwn⟩; rw [hwn]; clear hwn wn)
            go_ret
            rw [unhide HF]
            exact ⟨rfl, rfl⟩
          | false =>
            have HF := hide (all_upto hkl (unhide hne) (by rw [unhide HNC]; rfl))
            go_wp2_with (go_at_call 154; refine (unhide KP _).mono ?_; rintro e wn ⟨rfl, hwn⟩; rw [hwn]; clear hwn wn)
            go_round
            case rel => exact ⟨k + 1, hlt, by simp, HF⟩
            case measure => simp [intOf]; omega
    · have hke : k = n := by omega
      subst hke
      have HA : Hid (l.all nameC = true) := hide (by have := unhide hne; rw [List.take_of_length_le (Nat.le_of_eq (unhide HN))] at this; exact this)
      have HB : Hid (nameB l = (decide (1 ≤ k) && decide (k ≤ 50))) := hide (by unfold nameB; rw [unhide HA, unhide HN]; rfl)
      clear hne
      by_cases h1 : 1 ≤ k
      · have a1 : (1 : Int) ≤ (k : Int) := by omega
        by_cases h2 : k ≤ 50
        · have a2 : (k : Int) ≤ 50 := by omega
          go_wp2
          go_ret
          rw [unhide HB]
          exact ⟨by simp [h1, h2], rfl⟩
        · have a2 : ¬ (k : Int) ≤ 50 := by omega
          go_wp2
          go_ret
          rw [unhide HB]
          exact ⟨by simp [h2], rfl⟩
      · have a1 : ¬ (1 : Int) ≤ (k : Int) := by omega
        go_wp2
        go_ret
        rw [unhide HB]
        exact ⟨by simp [h1], rfl⟩
end Go.Proofs.YtkablmjkffdloaaGreatDoor
