/-
  What may stand between the slashes of a name, the program's: any text.
-/
import Derived.Test.YtkablmjkffdloaaGreatDoorRVal
import Derived.Test.YtkablmjkffdloaaGreatDoorNamA
import Derived.Test.YtkablmjkffdloaaGreatDoorShelf
namespace Go.Proofs.YtkablmjkffdloaaGreatDoor
open Go.RowKit

def forbB : Bs := [92, 58, 42, 63, 34, 60, 62, 124]
def okB (c : UInt8) : Bool := decide (c.toNat ≠ 92) && decide (c.toNat ≠ 58) && decide (c.toNat ≠ 42) && decide (c.toNat ≠ 63) && decide (c.toNat ≠ 34) && decide (c.toNat ≠ 60) && decide (c.toNat ≠ 62) && decide (c.toNat ≠ 124)
theorem forb_ok (c : UInt8) : decide (0 ≤ Lib.indexByte forbB c) = !okB c := by
  have h : ∀ k : Fin 256, decide (0 ≤ Lib.indexByte forbB (UInt8.ofNat k.val)) = !okB (UInt8.ofNat k.val) := by decide +kernel
  have := h ⟨c.toNat, c.toNat_lt⟩
  simpa using this
theorem chG_ok (c : UInt8) : chG c = (decide (32 ≤ c.toNat) && decide (c.toNat ≤ 126) && okB c) := by
  unfold chG okB
  simp [Bool.and_assoc]
theorem str_eq (x y : Bs) : ((ba x).toList == y) = decide (x = y) := by
  rw [Lib.toList_data, ba_data, Bool.eq_iff_iff]
  simp

set_option maxRecDepth 100000 in
set_option maxHeartbeats 2000000 in
theorem element_any {l : Bs} (hl : l.length ≤ 1000000) (w : World) : Calls Tryz.prog 99 #[.string (ba l)] w fun e w' => e = .returned (.bool (elG l)) ∧ w' = w := by
  obtain ⟨n, hn⟩ : ∃ n, l.length = n := ⟨_, rfl⟩
  have hsz : (ba l).size = n := by rw [ba_size]; exact hn
  have s0 := str_eq l []
  have s1 := str_eq l [46]
  have s2 := str_eq l [46, 46]
  obtain ⟨b0, hb0⟩ : ∃ b, decide (l = []) = b := ⟨_, rfl⟩
  obtain ⟨b1, hb1⟩ : ∃ b, decide (l = [46]) = b := ⟨_, rfl⟩
  obtain ⟨b2, hb2⟩ : ∃ b, decide (l = [46, 46]) = b := ⟨_, rfl⟩
  rw [hb0] at s0
  rw [hb1] at s1
  rw [hb2] at s2
  have HE : Hid (elG l = (!b0 && !b1 && !b2 && decide (l.headD 0 ≠ 32) && decide (l.getLastD 0 ≠ 32) && l.all chG)) := hide (by
    unfold elG
    rw [← hb0, ← hb1, ← hb2]
    simp)
  have HN := hide hn
  have HB0 := hide hb0
  have hl2 : n ≤ 1000000 := by omega
  clear hn hl hb0 hb1 hb2
  cases b0 with
  | true =>
    have HF : Hid (elG l = false) := hide (by rw [unhide HE]; simp)
    go_enter Tryz.func99, Tryz.ntmps99
    go_wp2
    go_ret
    exact ⟨by rw [unhide HF]; rfl, rfl⟩
  | false =>
  cases b1 with
  | true =>
    have HF : Hid (elG l = false) := hide (by rw [unhide HE]; simp)
    go_enter Tryz.func99, Tryz.ntmps99
    go_wp2
    go_ret
    exact ⟨by rw [unhide HF]; rfl, rfl⟩
  | false =>
  cases b2 with
  | true =>
    have HF : Hid (elG l = false) := hide (by rw [unhide HE]; simp)
    go_enter Tryz.func99, Tryz.ntmps99
    go_wp2
    go_ret
    exact ⟨by rw [unhide HF]; rfl, rfl⟩
  | false =>
    have hl1 : 1 ≤ l.length := by
      have h := of_decide_eq_false (unhide HB0)
      cases l with
      | nil => exact absurd rfl h
      | cons _ _ => simp
    have HL1 := hide hl1
    clear hl1
    go_enter Tryz.func99, Tryz.ntmps99
    go_wp2
    go_loop [3, 4, 17] (fun _ _ v17 => ∃ k : Nat, k ≤ n ∧ v17 = .int .i64 (k : Int) ∧ Hid ((l.take k).all chG = true)) (fun _ _ v17 => n - (intOf v17).toNat)
    case atStart => exact ⟨0, Nat.zero_le _, rfl, hide (by simp)⟩
    case round =>
      obtain ⟨k, hk, rfl, hne⟩ := hrel
      by_cases hlt : k < n
      · have hkl : k < l.length := by rw [unhide HN]; exact hlt
        have hlt' : (k : Int) < (n : Int) := by omega
        obtain ⟨c, hc⟩ : ∃ c, l[k] = c := ⟨_, rfl⟩
        have hidx : ∀ (h : k < (ba l).size), (ba l)[k]'h = c := fun h => by rw [← hc]; rfl
        obtain ⟨X, hX⟩ : ∃ X, Lib.indexByte forbB c = X := ⟨_, rfl⟩
        have KI : Hid (∀ W : World, Calls Tryz.prog 79 #[.string ⟨#[92, 58, 42, 63, 34, 60, 62, 124]⟩, .int .u8 (c.toNat : Int)] W fun e w' => e = .returned (.int .i64 X) ∧ w' = W) := hide (fun W => by
          have k := Tryz.strings_IndexByte ⟨#[92, 58, 42, 63, 34, 60, 62, 124]⟩ (c.toNat : Int) W
          have e1 : ((c.toNat : Int)).toNat.toUInt8 = c := by simp
          rw [e1] at k
          rw [← hX]
          exact k)
        have hfo := forb_ok c
        rw [hX] at hfo
        have hch := chG_ok c
        obtain ⟨ok, hok⟩ : ∃ ok, okB c = ok := ⟨_, rfl⟩
        rw [hok] at hfo hch
        by_cases h1 : 32 ≤ c.toNat
        · have a1 : ¬ (c.toNat : Int) < 32 := by omega
          by_cases h2 : c.toNat ≤ 126
          · have a2 : ¬ (126 : Int) < (c.toNat : Int) := by omega
            cases ok with
            | true =>
              have a3 : ¬ (0 : Int) ≤ X := of_decide_eq_false (by rw [hfo]; rfl)
              have HF := hide (all_upto hkl (unhide hne) (by rw [hc, hch]; simp [h1, h2]))
              clear hfo hch hok hX hne
              go_wp2_with (go_at_call 79; refine (unhide KI _).mono ?_; rintro e wn ⟨rfl, hwn⟩; rw [hwn]; clear hwn wn)
              go_round
              case rel => exact ⟨k + 1, hlt, by simp, HF⟩
              case measure => simp [intOf]; omega
            | false =>
              have a3 : (0 : Int) ≤ X := of_decide_eq_true (by rw [hfo]; rfl)
              have HF : Hid (elG l = false) := hide (by rw [unhide HE, all_not hkl (by rw [hc, hch]; simp)]; simp)
              clear hfo hch hok hX hne
              go_wp2_with (go_at_call 79; refine (unhide KI _).mono ?_; rintro e wn ⟨rfl, hwn⟩; rw [hwn]; clear hwn wn)
              go_ret
              exact ⟨by rw [unhide HF]; rfl, rfl⟩
          · have a2 : (126 : Int) < (c.toNat : Int) := by omega
            have HF : Hid (elG l = false) := hide (by rw [unhide HE, all_not hkl (by rw [hc, hch]; simp; omega)]; simp)
            clear hfo hch hok hX hne
            go_wp2
            go_ret
            exact ⟨by rw [unhide HF]; rfl, rfl⟩
        · have a1 : (c.toNat : Int) < 32 := by omega
          have HF : Hid (elG l = false) := hide (by rw [unhide HE, all_not hkl (by rw [hc, hch]; simp; omega)]; simp)
          clear hfo hch hok hX hne
          go_wp2
          go_ret
          exact ⟨by rw [unhide HF]; rfl, rfl⟩
      · have hke : k = n := by omega
        subst hke
        have HA : Hid (l.all chG = true) := hide (by have := unhide hne; rw [List.take_of_length_le (Nat.le_of_eq (unhide HN))] at this; exact this)
        have hl1 := unhide HL1
        have hn1 : 0 < k := by have := unhide HN; omega
        obtain ⟨k1, hk1⟩ : ∃ k1, k - 1 = k1 := ⟨_, rfl⟩
        have y1 : (k : Int) - 1 = (k1 : Int) := by omega
        have y2 : k1 < k := by omega
        obtain ⟨c0, hc0⟩ : ∃ c0, l[0]'(by omega) = c0 := ⟨_, rfl⟩
        obtain ⟨c1, hc1⟩ : ∃ c1, l[k1]'(by have := unhide HN; omega) = c1 := ⟨_, rfl⟩
        have i0 : ∀ (h : 0 < (ba l).size), (ba l)[0]'h = c0 := fun h => by rw [← hc0]; rfl
        have i1 : ∀ (h : k1 < (ba l).size), (ba l)[k1]'h = c1 := fun h => by rw [← hc1]; rfl
        have hh : l.headD 0 = c0 := by
          cases l with
          | nil => simp at hl1
          | cons y x => exact hc0
        have hg : l.getLastD 0 = c1 := by
          have hlk : l.length - 1 = k1 := by have := unhide HN; omega
          have hg : l[l.length - 1]? = some c1 := by rw [hlk, List.getElem?_eq_getElem (by have := unhide HN; omega), hc1]
          rw [List.getLastD_eq_getLast?, List.getLast?_eq_getElem?, hg]
          rfl
        obtain ⟨q0, hq0⟩ : ∃ q, ((c0.toNat : Int) != 32) = q := ⟨_, rfl⟩
        obtain ⟨q1, hq1⟩ : ∃ q, ((c1.toNat : Int) != 32) = q := ⟨_, rfl⟩
        have t0 : decide (c0 ≠ 32) = q0 := by
          rw [← hq0, Bool.eq_iff_iff]
          simp
          rw [← UInt8.toNat_inj]
          constructor
          · intro h e; exact h (by show c0.toNat = 32; omega)
          · intro h e; apply h; have : c0.toNat = 32 := e; omega
        have t1 : decide (c1 ≠ 32) = q1 := by
          rw [← hq1, Bool.eq_iff_iff]
          simp
          rw [← UInt8.toNat_inj]
          constructor
          · intro h e; exact h (by show c1.toNat = 32; omega)
          · intro h e; apply h; have : c1.toNat = 32 := e; omega
        have HF : Hid (elG l = (q0 && q1)) := hide (by rw [unhide HE, unhide HA, hh, hg, t0, t1]; simp)
        clear hne hh hg t0 t1 hc0 hc1 hk1
        cases q0 with
        | true =>
          go_wp2
          go_ret
          exact ⟨by rw [unhide HF]; rfl, rfl⟩
        | false =>
          go_wp2
          go_ret
          exact ⟨by rw [unhide HF]; rfl, rfl⟩
end Go.Proofs.YtkablmjkffdloaaGreatDoor
