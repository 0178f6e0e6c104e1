/-
  A text read as base64, the reference's.
-/
import Derived.Test.YtkablmjkffdloaaGreatDoorB64F
import Derived.Test.YtkablmjkffdloaaGreatDoorLogE
namespace Go.Proofs.YtkablmjkffdloaaGreatDoor
open Go.RowKit

/-- A letter's place as a number; -1: it is none. -/
def plI (x : UInt8) : Int := match posN x with | some v => (v : Int) | none => -1
theorem pl_max (x : UInt8) : max (plI x) 0 = (plc x : Int) := by
  unfold plI plc
  cases posN x with
  | none => rfl
  | some v => show max (v : Int) 0 = (v : Int); omega
theorem let_get {j : Nat} (h : j < 64) : lettersB.data.toList[j]? = some (letN j) := by
  have : ∀ i : Fin 64, lettersB.data.toList[i.1]? = some (letN i.1) := by decide +kernel
  exact this ⟨j, h⟩
theorem let_len : lettersB.data.toList.length = 64 := by decide +kernel
theorem pos_found {x : UInt8} {i : Nat} (hi : i < 64) (h : ∀ j, j < i → letN j ≠ x) (he : letN i = x) : plI x = (i : Int) := by
  have hp : posN x = some i := by
    unfold posN
    rw [List.findIdx?_eq_some_iff_getElem]
    refine ⟨by rw [let_len]; exact hi, ?_, fun j hj => ?_⟩
    · have := let_get hi
      rw [List.getElem?_eq_getElem (by rw [let_len]; exact hi)] at this
      rw [Option.some.inj this, he]
      simp
    · have := let_get (j := j) (by omega)
      rw [List.getElem?_eq_getElem (by rw [let_len]; omega)] at this
      rw [Option.some.inj this]
      simpa using h j hj
  unfold plI
  rw [hp]
theorem pos_never {x : UInt8} (h : ∀ j, j < 64 → letN j ≠ x) : plI x = -1 := by
  have hp : posN x = none := by
    unfold posN
    rw [List.findIdx?_eq_none_iff]
    intro y hy
    obtain ⟨j, hj, rfl⟩ := List.mem_iff_getElem.1 hy
    rw [let_len] at hj
    have := let_get hj
    rw [List.getElem?_eq_getElem (by rw [let_len]; exact hj)] at this
    rw [Option.some.inj this]
    simpa using h j hj
  unfold plI
  rw [hp]

set_option maxRecDepth 100000 in
set_option maxHeartbeats 1000000 in
theorem place_any (x : UInt8) (w : World) : Calls Tryz.prog 92 #[.int .u8 (x.toNat : Int)] w fun e w' => e = .returned (.int .i64 (plI x)) ∧ w' = w := by
  go_enter Tryz.func92, Tryz.ntmps92
  go_wp2
  go_loop [3] (fun v3 => ∃ i : Nat, i ≤ 64 ∧ v3 = .int .i64 (i : Int) ∧ Hid (∀ j, j < i → letN j ≠ x)) (fun v3 => 64 - (intOf v3).toNat)
  case atStart => exact ⟨0, Nat.zero_le _, rfl, hide (fun j hj => by omega)⟩
  case round =>
    obtain ⟨i, hi, rfl, hne⟩ := hrel
    by_cases hlt : i < 64
    · obtain ⟨z, hz⟩ : ∃ z, letN i = z := ⟨_, rfl⟩
      have dz := (let_at hlt).trans hz
      unfold lettersB at dz
      have hi64 : (i : Int) < 64 := by omega
      by_cases hzx : z = x
      · subst hzx
        have HP := hide (pos_found hlt (unhide hne) hz)
        clear hz
        go_wp2
        go_ret
        rw [unhide HP]
        exact ⟨rfl, rfl⟩
      · have hq : ((z.toNat : Int) == (x.toNat : Int)) = false := by
          simp
          intro e
          exact hzx (UInt8.toNat_inj.1 (by omega))
        have HN : Hid (∀ j, j < i + 1 → letN j ≠ x) := hide (fun j hj => by
          by_cases e : j = i
          · rw [e, hz]; exact hzx
          · exact unhide hne j (by omega))
        clear hz hzx
        go_wp2
        go_round
        case rel => exact ⟨i + 1, hlt, by push_cast; rfl, HN⟩
        case measure => simp [intOf]; omega
    · have hie : i = 64 := by omega
      subst hie
      have HP := hide (pos_never (unhide hne))
      clear hne
      go_wp2
      go_ret
      rw [unhide HP]
      exact ⟨rfl, rfl⟩
end Go.Proofs.YtkablmjkffdloaaGreatDoor
