/-
  Names of keys, however long: what may be one.
-/
import Derived.Test.YtkablmjkffdloaaGreatDoorPure
import Derived.Test.YtkablmjkffdloaaGreatDoorCutR
namespace Go.Proofs.YtkablmjkffdloaaGreatDoor
open Go.RowKit

def printB (c : UInt8) : Bool := decide (32 ≤ c.toNat) && decide (c.toNat ≤ 126)
/-- A sign of a key's name. -/
def nameC (c : UInt8) : Bool := printB c && decide (c.toNat ≠ 32) && decide (c.toNat ≠ 43)
/-- A key's name. -/
def nameB (s : Bs) : Bool := s.all nameC && (decide (1 ≤ s.length) && decide (s.length ≤ 50))
/-- A sign of a note's text. -/
def textC (c : UInt8) : Bool := decide (c.toNat = 10) || printB c

theorem isPrinted_any (c : UInt8) (w : World) : Calls Tryz.prog 154 #[.int .u8 (c.toNat : Int)] w fun e w' => e = .returned (.bool (printB c)) ∧ w' = w := by
  unfold printB
  obtain ⟨t, ht⟩ : ∃ t, c.toNat = t := ⟨_, rfl⟩
  rw [ht]
  clear ht
  by_cases h1 : 32 ≤ t
  · have a1 : (32 : Int) ≤ (t : Int) := by omega
    by_cases h2 : t ≤ 126
    · have a2 : (t : Int) ≤ 126 := by omega
      go_enter Tryz.func154, Tryz.ntmps154
      go_wp2
      go_ret
      exact ⟨by simp [h1, h2], rfl⟩
    · have a2 : ¬ (t : Int) ≤ 126 := by omega
      go_enter Tryz.func154, Tryz.ntmps154
      go_wp2
      go_ret
      exact ⟨by simp, rfl⟩
  · have a1 : ¬ (32 : Int) ≤ (t : Int) := by omega
    go_enter Tryz.func154, Tryz.ntmps154
    go_wp2
    go_ret
    exact ⟨by simp, rfl⟩

theorem all_upto {p : UInt8 → Bool} {l : Bs} {k : Nat} (hk : k < l.length) (h : (l.take k).all p = true) (hc : p l[k] = true) : (l.take (k + 1)).all p = true := by
  rw [List.take_add_one, List.getElem?_eq_getElem hk, List.all_append, h]
  simp [hc]
theorem all_not {p : UInt8 → Bool} {l : Bs} {k : Nat} (hk : k < l.length) (hc : p l[k] = false) : l.all p = false := by
  rw [Bool.eq_false_iff]
  intro h
  have := List.all_eq_true.1 h _ (List.getElem_mem hk)
  rw [hc] at this
  cases this

set_option maxRecDepth 100000 in
set_option maxHeartbeats 1000000 in
theorem isKeyName_any {l : Bs} (hl : l.length ≤ 1000000) (w : World) : Calls Tryz.prog 151 #[.string (ba l)] w fun e w' => e = .returned (.bool (nameB l)) ∧ w' = w := by
  obtain ⟨n, hn⟩ : ∃ n, l.length = n := ⟨_, rfl⟩
  have hsz : (ba l).size = n := by rw [ba_size]; exact hn
  have HN := hide hn
  have hl2 : n ≤ 1000000 := by omega
  clear hn hl
  go_enter Tryz.func151, Tryz.ntmps151
  go_wp2
  go_loop [3, 6] (fun _ v6 => ∃ k : Nat, k ≤ n ∧ v6 = .int .i64 (k : Int) ∧ Hid ((l.take k).all nameC = true)) (fun _ v6 => n - (intOf v6).toNat)
  case atStart => exact ⟨0, Nat.zero_le _, rfl, hide (by simp)⟩
  case round =>
    obtain ⟨k, hk, rfl, hne⟩ := hrel
    by_cases hlt : k < n
    · have hkl : k < l.length := by rw [unhide HN]; exact hlt
      have hlt' : (k : Int) < (n : Int) := by omega
      obtain ⟨c, hc⟩ : ∃ c, l[k] = c := ⟨_, rfl⟩
      have hidx : ∀ (h : k < (ba l).size), (ba l)[k]'h = c := fun h => by rw [← hc]; rfl
      have KP := hide (isPrinted_any c)
      obtain ⟨p, hp⟩ : ∃ p, printB c = p := ⟨_, rfl⟩
      rw [hp] at KP
      obtain ⟨b2, hb2⟩ : ∃ b2, ((c.toNat : Int) == 32) = b2 := ⟨_, rfl⟩
      obtain ⟨b3, hb3⟩ : ∃ b3, ((c.toNat : Int) == 43) = b3 := ⟨_, rfl⟩
      have hnc : nameC c = (p && !b2 && !b3) := by
        have e2 : b2 = decide (c.toNat = 32) := by rw [← hb2, Bool.eq_iff_iff]; simp; omega
        have e3 : b3 = decide (c.toNat = 43) := by rw [← hb3, Bool.eq_iff_iff]; simp; omega
        unfold nameC
        rw [hp, e2, e3]
        simp
      have HNC : Hid (nameC l[k] = (p && !b2 && !b3)) := hide (by rw [hc]; exact hnc)
      clear hp hc hnc
      cases p with
      | false =>
        have HF : Hid (nameB l = false) := hide (by unfold nameB; rw [all_not hkl (by rw [unhide HNC]; rfl)]; rfl)
        go_wp2_with (go_at_call 154; refine (unhide KP _).mono ?_; rintro e wn ⟨rfl, hwn⟩; rw [hwn]; clear hwn wn)
        go_ret
        rw [unhide HF]
        exact ⟨rfl, rfl⟩
      | true =>
        cases b2 with
        | true =>
          have HF : Hid (nameB l = false) := hide (by unfold nameB; rw [all_not hkl (by rw [unhide HNC]; rfl)]; rfl)
          go_wp2_with (go_at_call 154; refine (unhide KP _).mono ?_; rintro e wn ⟨rfl, hwn⟩; rw [hwn]; clear hwn wn)
          go_ret
          rw [unhide HF]
          exact ⟨rfl, rfl⟩
        | false =>
          cases b3 with
          | true =>
            have HF : Hid (nameB l = false) := hide (by unfold nameB; rw [all_not hkl (by rw [unhide HNC]; rfl)]; rfl)
            go_wp2_with (go_at_call 154; refine (unhide KP _).mono ?_; rintro e wn ⟨rfl, hwn⟩; rw [hwn]; clear hwn wn)
            go_ret
            rw [unhide HF]
            exact ⟨rfl, rfl⟩
          | false =>
            have HF := hide (all_upto hkl (unhide hne) (by rw [unhide HNC]; rfl))
            go_wp2_with (go_at_call 154; refine (unhide KP _).mono ?_; rintro e wn ⟨rfl, hwn⟩; rw [hwn]; clear hwn wn)
            go_round
            case rel => exact ⟨k + 1, hlt, by simp, HF⟩
            case measure => simp [intOf]; omega
    · have hke : k = n := by omega
      subst hke
      have HA : Hid (l.all nameC = true) := hide (by have := unhide hne; rw [List.take_of_length_le (Nat.le_of_eq (unhide HN))] at this; exact this)
      have HB : Hid (nameB l = (decide (1 ≤ k) && decide (k ≤ 50))) := hide (by unfold nameB; rw [unhide HA, unhide HN]; rfl)
      clear hne
      by_cases h1 : 1 ≤ k
      · have a1 : (1 : Int) ≤ (k : Int) := by omega
        by_cases h2 : k ≤ 50
        · have a2 : (k : Int) ≤ 50 := by omega
          go_wp2
          go_ret
          rw [unhide HB]
          exact ⟨by simp [h1, h2], rfl⟩
        · have a2 : ¬ (k : Int) ≤ 50 := by omega
          go_wp2
          go_ret
          rw [unhide HB]
          exact ⟨by simp [h2], rfl⟩
      · have a1 : ¬ (1 : Int) ≤ (k : Int) := by omega
        go_wp2
        go_ret
        rw [unhide HB]
        exact ⟨by simp [h1], rfl⟩
end Go.Proofs.YtkablmjkffdloaaGreatDoor

namespace Go.Proofs.YtkablmjkffdloaaGreatDoor
open Go.RowKit

/-- A note's text. -/
def textB (s : Bs) : Bool := s.all textC && Lib.hasSuffix s [10]

theorem suffix_last {l : Bs} {m : Nat} (hm : l.length = m + 1) : Lib.hasSuffix l [10] = decide (l[m]'(by omega) = 10) := by
  obtain ⟨a, c, rfl⟩ : ∃ a c, l = a ++ [c] := by
    cases hl : l.reverse with
    | nil => rw [List.reverse_eq_nil_iff.1 hl] at hm; cases hm
    | cons c a => exact ⟨a.reverse, c, by have := congrArg List.reverse hl; simpa using this⟩
  have ha : a.length = m := by simpa using hm
  subst ha
  have e : (a ++ [c])[a.length]'(by simp) = c := by simp
  rw [e]
  unfold Lib.hasSuffix
  rw [Bool.eq_iff_iff, List.isSuffixOf_iff_suffix, decide_eq_true_iff]
  constructor
  · rintro ⟨t, ht⟩
    have := List.append_inj_right' ht rfl
    simpa using this.symm
  · rintro rfl
    exact ⟨a, rfl⟩

set_option maxRecDepth 100000 in
set_option maxHeartbeats 1000000 in
theorem ends10_any {l : Bs} (hl : l.length ≤ 1000000) (w : World) : Calls Tryz.prog 113 #[.string (ba l), .string ⟨#[10]⟩] w fun e w' => e = .returned (.bool (Lib.hasSuffix l [10])) ∧ w' = w := by
  obtain ⟨n, hn⟩ : ∃ n, l.length = n := ⟨_, rfl⟩
  have hsz : (ba l).size = n := by rw [ba_size]; exact hn
  have hl2 : n ≤ 1000000 := by omega
  cases n with
  | zero =>
    have HF : Hid (Lib.hasSuffix l [10] = false) := hide (by rw [List.length_eq_zero_iff.1 hn]; rfl)
    clear hn hl
    go_enter Tryz.func113, Tryz.ntmps113
    go_wp2
    go_ret
    rw [unhide HF]
    exact ⟨rfl, rfl⟩
  | succ m =>
    obtain ⟨c, hc⟩ : ∃ c, l[m]'(by omega) = c := ⟨_, rfl⟩
    have hx : (ba l).extract m (m + 1) = ba [c] := by
      have e : m + 1 - m = 1 := by omega
      rw [sub_of, ← hc, e, List.drop_eq_getElem_cons (by omega : m < l.length)]
      rfl
    obtain ⟨b, hb⟩ : ∃ b, ((ba [c]).toList == [10]) = b := ⟨_, rfl⟩
    have HF : Hid (Lib.hasSuffix l [10] = b) := hide (by
      rw [suffix_last hn, hc, ← hb, Bool.eq_iff_iff]
      rw [Lib.toList_data, ba_data]
      simp)
    have hge : ((1 : Nat) : Int) ≤ ((m + 1 : Nat) : Int) := by omega
    have hsub : ((m + 1 : Nat) : Int) - 1 = (m : Int) := by omega
    clear hn hl hc
    go_enter Tryz.func113, Tryz.ntmps113
    go_wp2
    go_ret
    rw [unhide HF]
    exact ⟨rfl, rfl⟩

set_option maxRecDepth 100000 in
set_option maxHeartbeats 1000000 in
theorem refName_any {l : Bs} (hl : l.length ≤ 1000000) (w : World) : Calls Tryz.prog 152 #[.string (ba l)] w fun e w' => e = .returned (.bool (nameB l)) ∧ w' = w := by
  obtain ⟨n, hn⟩ : ∃ n, l.length = n := ⟨_, rfl⟩
  have hsz : (ba l).size = n := by rw [ba_size]; exact hn
  have HN := hide hn
  have hl2 : n ≤ 1000000 := by omega
  clear hn hl
  go_enter Tryz.func152, Tryz.ntmps152
  go_wp2
  go_loop [3] (fun v3 => ∃ k : Nat, k ≤ n ∧ v3 = .int .i64 (k : Int) ∧ Hid ((l.take k).all nameC = true)) (fun v3 => n - (intOf v3).toNat)
  case atStart => exact ⟨0, Nat.zero_le _, rfl, hide (by simp)⟩
  case round =>
    obtain ⟨k, hk, rfl, hne⟩ := hrel
    by_cases hlt : k < n
    · have hkl : k < l.length := by rw [unhide HN]; exact hlt
      have hlt' : (k : Int) < (n : Int) := by omega
      obtain ⟨c, hc⟩ : ∃ c, l[k] = c := ⟨_, rfl⟩
      have hidx : ∀ (h : k < (ba l).size), (ba l)[k]'h = c := fun h => by rw [← hc]; rfl
      by_cases g1 : c.toNat < 33
      · have a1 : (c.toNat : Int) < 33 := by omega
        have HF : Hid (nameB l = false) := hide (by unfold nameB; rw [all_not hkl (by rw [hc]; unfold nameC printB; rw [Bool.eq_false_iff]; intro e; simp at e; omega)]; rfl)
        clear hc
        go_wp2
        go_ret
        rw [unhide HF]
        exact ⟨rfl, rfl⟩
      · have a1 : ¬ (c.toNat : Int) < 33 := by omega
        by_cases g2 : 126 < c.toNat
        · have a2 : (126 : Int) < (c.toNat : Int) := by omega
          have HF : Hid (nameB l = false) := hide (by unfold nameB; rw [all_not hkl (by rw [hc]; unfold nameC printB; rw [Bool.eq_false_iff]; intro e; simp at e; omega)]; rfl)
          clear hc
          go_wp2
          go_ret
          rw [unhide HF]
          exact ⟨rfl, rfl⟩
        · have a2 : ¬ (126 : Int) < (c.toNat : Int) := by omega
          by_cases g3 : c.toNat = 43
          · have a3 : ((c.toNat : Int) == 43) = true := by simp; omega
            have HF : Hid (nameB l = false) := hide (by unfold nameB; rw [all_not hkl (by rw [hc]; unfold nameC printB; rw [Bool.eq_false_iff]; intro e; simp at e; omega)]; rfl)
            clear hc g3
            go_wp2
            go_ret
            rw [unhide HF]
            exact ⟨rfl, rfl⟩
          · have a3 : ((c.toNat : Int) == 43) = false := by simp; omega
            have HF := hide (all_upto hkl (unhide hne) (p := nameC) (by rw [hc]; unfold nameC printB; simp; omega))
            clear hc
            go_wp2
            go_round
            case rel => exact ⟨k + 1, hlt, by simp, HF⟩
            case measure => simp [intOf]; omega
    · have hke : k = n := by omega
      subst hke
      have HA : Hid (l.all nameC = true) := hide (by have := unhide hne; rw [List.take_of_length_le (Nat.le_of_eq (unhide HN))] at this; exact this)
      have HB : Hid (nameB l = (decide (1 ≤ k) && decide (k ≤ 50))) := hide (by unfold nameB; rw [unhide HA, unhide HN]; rfl)
      clear hne
      by_cases h1 : 1 ≤ k
      · have a1 : (1 : Int) ≤ (k : Int) := by omega
        by_cases h2 : k ≤ 50
        · have a2 : (k : Int) ≤ 50 := by omega
          go_wp2
          go_ret
          rw [unhide HB]
          exact ⟨by simp [h1, h2], rfl⟩
        · have a2 : ¬ (k : Int) ≤ 50 := by omega
          go_wp2
          go_ret
          rw [unhide HB]
          exact ⟨by simp [h2], rfl⟩
      · have a1 : ¬ (1 : Int) ≤ (k : Int) := by omega
        go_wp2
        go_ret
        rw [unhide HB]
        exact ⟨by simp [h1], rfl⟩

set_option maxRecDepth 100000 in
set_option maxHeartbeats 1000000 in
theorem refBody_any {l : Bs} (hl : l.length ≤ 1000000) (w : World) : Calls Tryz.prog 115 #[.string (ba l)] w fun e w' => e = .returned (.bool (textB l)) ∧ w' = w := by
  have KE := hide (ends10_any (l := l) hl)
  obtain ⟨n, hn⟩ : ∃ n, l.length = n := ⟨_, rfl⟩
  have hsz : (ba l).size = n := by rw [ba_size]; exact hn
  have HN := hide hn
  have hl2 : n ≤ 1000000 := by omega
  clear hn hl
  go_enter Tryz.func115, Tryz.ntmps115
  go_wp2
  go_loop [3] (fun v3 => ∃ k : Nat, k ≤ n ∧ v3 = .int .i64 (k : Int) ∧ Hid ((l.take k).all textC = true)) (fun v3 => n - (intOf v3).toNat)
  case atStart => exact ⟨0, Nat.zero_le _, rfl, hide (by simp)⟩
  case round =>
    obtain ⟨k, hk, rfl, hne⟩ := hrel
    by_cases hlt : k < n
    · have hkl : k < l.length := by rw [unhide HN]; exact hlt
      have hlt' : (k : Int) < (n : Int) := by omega
      obtain ⟨c, hc⟩ : ∃ c, l[k] = c := ⟨_, rfl⟩
      have hidx : ∀ (h : k < (ba l).size), (ba l)[k]'h = c := fun h => by rw [← hc]; rfl
      by_cases g0 : c.toNat = 10
      · have a0 : ((c.toNat : Int) != 10) = false := by simp; omega
        have HF := hide (all_upto hkl (unhide hne) (p := textC) (by rw [hc]; unfold textC printB; simp; omega))
        clear hc g0
        go_wp2
        go_round
        case rel => exact ⟨k + 1, hlt, by simp, HF⟩
        case measure => simp [intOf]; omega
      · have a0 : ((c.toNat : Int) != 10) = true := by simp; omega
        by_cases g1 : c.toNat < 32
        · have a1 : (c.toNat : Int) < 32 := by omega
          have HF : Hid (textB l = false) := hide (by unfold textB; rw [all_not hkl (by rw [hc]; unfold textC printB; rw [Bool.eq_false_iff]; intro e; simp at e; omega)]; rfl)
          clear hc
          go_wp2
          go_ret
          rw [unhide HF]
          exact ⟨rfl, rfl⟩
        · have a1 : ¬ (c.toNat : Int) < 32 := by omega
          by_cases g2 : 126 < c.toNat
          · have a2 : (126 : Int) < (c.toNat : Int) := by omega
            have HF : Hid (textB l = false) := hide (by unfold textB; rw [all_not hkl (by rw [hc]; unfold textC printB; rw [Bool.eq_false_iff]; intro e; simp at e; omega)]; rfl)
            clear hc
            go_wp2
            go_ret
            rw [unhide HF]
            exact ⟨rfl, rfl⟩
          · have a2 : ¬ (126 : Int) < (c.toNat : Int) := by omega
            have HF := hide (all_upto hkl (unhide hne) (p := textC) (by rw [hc]; unfold textC printB; simp; omega))
            clear hc
            go_wp2
            go_round
            case rel => exact ⟨k + 1, hlt, by simp, HF⟩
            case measure => simp [intOf]; omega
    · have hke : k = n := by omega
      subst hke
      have HA : Hid (l.all textC = true) := hide (by have := unhide hne; rw [List.take_of_length_le (Nat.le_of_eq (unhide HN))] at this; exact this)
      have HB : Hid (textB l = Lib.hasSuffix l [10]) := hide (by unfold textB; rw [unhide HA]; rfl)
      clear hne
      go_wp2_with (go_at_call 113; refine (unhide KE _).mono ?_; rintro e wn ⟨rfl, hwn⟩; rw [hwn]; clear hwn wn)
      go_ret
      rw [unhide HB]
      exact ⟨rfl, rfl⟩
end Go.Proofs.YtkablmjkffdloaaGreatDoor

namespace Go.Proofs.YtkablmjkffdloaaGreatDoor
open Go.RowKit

set_option maxRecDepth 100000 in
set_option maxHeartbeats 1000000 in
theorem isKeyName_all {l : Bs} (hl : l.length ≤ 2000000) (w : World) : Calls Tryz.prog 151 #[.string (ba l)] w fun e w' => e = .returned (.bool (nameB l)) ∧ w' = w := by
  obtain ⟨n, hn⟩ : ∃ n, l.length = n := ⟨_, rfl⟩
  have hsz : (ba l).size = n := by rw [ba_size]; exact hn
  have HN := hide hn
  have hl2 : n ≤ 2000000 := by omega
  clear hn hl
  go_enter Tryz.func151, Tryz.ntmps151
  go_wp2
  go_loop [3, 6] (fun _ v6 => ∃ k : Nat, k ≤ n ∧ v6 = .int .i64 (k : Int) ∧ Hid ((l.take k).all nameC = true)) (fun _ v6 => n - (intOf v6).toNat)
  case atStart => exact ⟨0, Nat.zero_le _, rfl, hide (by simp)⟩
  case round =>
    obtain ⟨k, hk, rfl, hne⟩ := hrel
    by_cases hlt : k < n
    · have hkl : k < l.length := by rw [unhide HN]; exact hlt
      have hlt' : (k : Int) < (n : Int) := by omega
      obtain ⟨c, hc⟩ : ∃ c, l[k] = c := ⟨_, rfl⟩
      have hidx : ∀ (h : k < (ba l).size), (ba l)[k]'h = c := fun h => by rw [← hc]; rfl
      have KP := hide (isPrinted_any c)
      obtain ⟨p, hp⟩ : ∃ p, printB c = p := ⟨_, rfl⟩
      rw [hp] at KP
      obtain ⟨b2, hb2⟩ : ∃ b2, ((c.toNat : Int) == 32) = b2 := ⟨_, rfl⟩
      obtain ⟨b3, hb3⟩ : ∃ b3, ((c.toNat : Int) == 43) = b3 := ⟨_, rfl⟩
      have hnc : nameC c = (p && !b2 && !b3) := by
        have e2 : b2 = decide (c.toNat = 32) := by rw [← hb2, Bool.eq_iff_iff]; simp; omega
        have e3 : b3 = decide (c.toNat = 43) := by rw [← hb3, Bool.eq_iff_iff]; simp; omega
        unfold nameC
        rw [hp, e2, e3]
        simp
      have HNC : Hid (nameC l[k] = (p && !b2 && !b3)) := hide (by rw [hc]; exact hnc)
      clear hp hc hnc
      cases p with
      | false =>
        have HF : Hid (nameB l = false) := hide (by unfold nameB; rw [all_not hkl (by rw [unhide HNC]; rfl)]; rfl)
        go_wp2_with (go_at_call 154; refine (unhide KP _).mono ?_; rintro e wn ⟨rfl, hwn⟩; rw [hwn]; clear hwn wn)
        go_ret
        rw [unhide HF]
        exact ⟨rfl, rfl⟩
      | true =>
        cases b2 with
        | true =>
          have HF : Hid (nameB l = false) := hide (by unfold nameB; rw [all_not hkl (by rw [unhide HNC]; rfl)]; rfl)
          go_wp2_with (go_at_call 154; refine (unhide KP _).mono ?_; rintro e wn ⟨rfl, hwn⟩; rw [hwn]; clear hwn wn)
          go_ret
          rw [unhide HF]
          exact ⟨rfl, rfl⟩
        | false =>
          cases b3 with
          | true =>
            have HF : Hid (nameB l = false) := hide (by unfold nameB; rw [all_not hkl (by rw [unhide HNC]; rfl)]; rfl)
            go_wp2_with (go_at_call 154; refine (unhide KP _).mono ?_; rintro e wn ⟨rfl, hwn⟩; rw [hwn]; clear hwn wn)
            go_ret
            rw [unhide HF]
            exact ⟨rfl, rfl⟩
          | false =>
            have HF := hide (all_upto hkl (unhide hne) (by rw [unhide HNC]; rfl))
            go_wp2_with (go_at_call 154; refine (unhide KP _).mono ?_; rintro e wn ⟨rfl, hwn⟩; rw [hwn]; clear hwn wn)
            go_round
            case rel => exact ⟨k + 1, hlt, by simp, HF⟩
            case measure => simp [intOf]; omega
    · have hke : k = n := by omega
      subst hke
      have HA : Hid (l.all nameC = true) := hide (by have := unhide hne; rw [List.take_of_length_le (Nat.le_of_eq (unhide HN))] at this; exact this)
      have HB : Hid (nameB l = (decide (1 ≤ k) && decide (k ≤ 50))) := hide (by unfold nameB; rw [unhide HA, unhide HN]; rfl)
      clear hne
      by_cases h1 : 1 ≤ k
      · have a1 : (1 : Int) ≤ (k : Int) := by omega
        by_cases h2 : k ≤ 50
        · have a2 : (k : Int) ≤ 50 := by omega
          go_wp2
          go_ret
          rw [unhide HB]
          exact ⟨by simp [h1, h2], rfl⟩
        · have a2 : ¬ (k : Int) ≤ 50 := by omega
          go_wp2
          go_ret
          rw [unhide HB]
          exact ⟨by simp [h2], rfl⟩
      · have a1 : ¬ (1 : Int) ≤ (k : Int) := by omega
        go_wp2
        go_ret
        rw [unhide HB]
        exact ⟨by simp [h1], rfl⟩

set_option maxRecDepth 100000 in
set_option maxHeartbeats 1000000 in
theorem refName_all {l : Bs} (hl : l.length ≤ 2000000) (w : World) : Calls Tryz.prog 152 #[.string (ba l)] w fun e w' => e = .returned (.bool (nameB l)) ∧ w' = w := by
  obtain ⟨n, hn⟩ : ∃ n, l.length = n := ⟨_, rfl⟩
  have hsz : (ba l).size = n := by rw [ba_size]; exact hn
  have HN := hide hn
  have hl2 : n ≤ 2000000 := by omega
  clear hn hl
  go_enter Tryz.func152, Tryz.ntmps152
  go_wp2
  go_loop [3] (fun v3 => ∃ k : Nat, k ≤ n ∧ v3 = .int .i64 (k : Int) ∧ Hid ((l.take k).all nameC = true)) (fun v3 => n - (intOf v3).toNat)
  case atStart => exact ⟨0, Nat.zero_le _, rfl, hide (by simp)⟩
  case round =>
    obtain ⟨k, hk, rfl, hne⟩ := hrel
    by_cases hlt : k < n
    · have hkl : k < l.length := by rw [unhide HN]; exact hlt
      have hlt' : (k : Int) < (n : Int) := by omega
      obtain ⟨c, hc⟩ : ∃ c, l[k] = c := ⟨_, rfl⟩
      have hidx : ∀ (h : k < (ba l).size), (ba l)[k]'h = c := fun h => by rw [← hc]; rfl
      by_cases g1 : c.toNat < 33
      · have a1 : (c.toNat : Int) < 33 := by omega
        have HF : Hid (nameB l = false) := hide (by unfold nameB; rw [all_not hkl (by rw [hc]; unfold nameC printB; rw [Bool.eq_false_iff]; intro e; simp at e; omega)]; rfl)
        clear hc
        go_wp2
        go_ret
        rw [unhide HF]
        exact ⟨rfl, rfl⟩
      · have a1 : ¬ (c.toNat : Int) < 33 := by omega
        by_cases g2 : 126 < c.toNat
        · have a2 : (126 : Int) < (c.toNat : Int) := by omega
          have HF : Hid (nameB l = false) := hide (by unfold nameB; rw [all_not hkl (by rw [hc]; unfold nameC printB; rw [Bool.eq_false_iff]; intro e; simp at e; omega)]; rfl)
          clear hc
          go_wp2
          go_ret
          rw [unhide HF]
          exact ⟨rfl, rfl⟩
        · have a2 : ¬ (126 : Int) < (c.toNat : Int) := by omega
          by_cases g3 : c.toNat = 43
          · have a3 : ((c.toNat : Int) == 43) = true := by simp; omega
            have HF : Hid (nameB l = false) := hide (by unfold nameB; rw [all_not hkl (by rw [hc]; unfold nameC printB; rw [Bool.eq_false_iff]; intro e; simp at e; omega)]; rfl)
            clear hc g3
            go_wp2
            go_ret
            rw [unhide HF]
            exact ⟨rfl, rfl⟩
          · have a3 : ((c.toNat : Int) == 43) = false := by simp; omega
            have HF := hide (all_upto hkl (unhide hne) (p := nameC) (by rw [hc]; unfold nameC printB; simp; omega))
            clear hc
            go_wp2
            go_round
            case rel => exact ⟨k + 1, hlt, by simp, HF⟩
            case measure => simp [intOf]; omega
    · have hke : k = n := by omega
      subst hke
      have HA : Hid (l.all nameC = true) := hide (by have := unhide hne; rw [List.take_of_length_le (Nat.le_of_eq (unhide HN))] at this; exact this)
      have HB : Hid (nameB l = (decide (1 ≤ k) && decide (k ≤ 50))) := hide (by unfold nameB; rw [unhide HA, unhide HN]; rfl)
      clear hne
      by_cases h1 : 1 ≤ k
      · have a1 : (1 : Int) ≤ (k : Int) := by omega
        by_cases h2 : k ≤ 50
        · have a2 : (k : Int) ≤ 50 := by omega
          go_wp2
          go_ret
          rw [unhide HB]
          exact ⟨by simp [h1, h2], rfl⟩
        · have a2 : ¬ (k : Int) ≤ 50 := by omega
          go_wp2
          go_ret
          rw [unhide HB]
          exact ⟨by simp [h2], rfl⟩
      · have a1 : ¬ (1 : Int) ≤ (k : Int) := by omega
        go_wp2
        go_ret
        rw [unhide HB]
        exact ⟨by simp [h1], rfl⟩

end Go.Proofs.YtkablmjkffdloaaGreatDoor
