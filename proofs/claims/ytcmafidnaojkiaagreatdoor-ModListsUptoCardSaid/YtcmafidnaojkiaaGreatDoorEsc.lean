/-
  The contracts of Escape and Unescape.
-/
import Derived.Test.YtcmafidnaojkiaaGreatDoorBuild
import Derived.Test.YtcmafidnaojkiaaGreatDoorPure4
namespace Go.Proofs.YtcmafidnaojkiaaGreatDoor
open Go.RowKit

theorem every_is {n : Nat} {p : UInt8 → Bool} {b : Bool} {l : Str} (hp : l.all p = b) (h : Asks n p) (hen : ∀ args w, (callFunc n args).run Tryz.prog w = .ok (.enter n args) w) (hl : l.length ≤ 4294967281) (w : World) :
    Calls Tryz.prog 86 #[.string (ba l), .func (.func n) #[] #[]] w fun e w' => e = .returned (.bool b) ∧ w' = w := by rw [← hp]; exact every_any h hen l hl w
theorem asks_is {n : Nat} {p : UInt8 → Bool} {b : Bool} {c : UInt8} (hp : p c = b) (h : Asks n p) (w : World) : Calls Tryz.prog n #[.int .u8 (c.toNat : Int)] w fun e w' => e = .returned (.bool b) ∧ w' = w := by rw [← hp]; exact h c w

theorem cells_add (l m : Str) : Lib.byteCells (l ++ m) = Lib.byteCells l ++ Lib.byteCells m := by simp [Lib.byteCells]
theorem cells_len (l : Str) : (Lib.byteCells l).length = l.length := by simp [Lib.byteCells]
theorem escL_take {l : Str} {k : Nat} (h : k < l.length) : escL (l.take (k + 1)) = escL (l.take k) ++ escC l[k] := by
  rw [List.take_add_one, List.getElem?_eq_getElem h]
  unfold escL
  rw [List.flatMap_append]
  simp

theorem esc_no {l : Str} (hl : l.length ≤ 4294967281) (hp : l.all plainB = false) (w : World) : Gives 39 #[.string (ba l)] w (.tuple #[.string ⟨#[]⟩, .int .i64 15]) := by
  unfold Gives
  have HP := hide hp
  clear hp
  go_enter Tryz.func39, Tryz.ntmps39
  go_wp2_with (go_at_call 86; refine (every_is (unhide HP) plain_asks (enters_of Tryz.func87 (by kernel_rfl) rfl) hl _).mono ?_; rintro e w1 ⟨rfl, hw⟩; rw [hw]; clear hw w1)
  go_ret2
  exact ⟨rfl, Below.refl _ _⟩

set_option maxHeartbeats 1000000 in
theorem esc_ok {l : Str} (hl : l.length ≤ 4294967281) (hp : l.all plainB = true) (w : World) : Gives 39 #[.string (ba l)] w (.tuple #[.string (ba (escL l)), .int .i64 0]) := by
  unfold Gives
  have hsz : (ba l).size = l.length := ba_size l
  have HP := hide hp
  have b0 : ∀ o, Below w.heap.size w (w.alloc o) := fun o => (Below.refl _ _).alloc (Nat.le_refl _) _
  clear hp
  go_enter Tryz.func39, Tryz.ntmps39
  go_wp2_with (go_at_call 86; refine (every_is (unhide HP) plain_asks (enters_of Tryz.func87 (by kernel_rfl) rfl) hl _).mono ?_; rintro e w1 ⟨rfl, hw⟩; rw [hw]; clear hw w1)
  go_loopw [12] (fun i wr => ∃ k : Nat, k ≤ l.length ∧ i = .int .i64 k ∧ Lib.IsBuilder 85 5 w.heap.size w.heap.size (Lib.byteCells (escL (l.take k))) wr ∧ Below w.heap.size w wr) (fun i _ => l.length - (intOf i).toNat)
  case atStart =>
    refine ⟨0, Nat.zero_le _, rfl, Or.inl ⟨Nat.le_refl _, .slice none 0 0, heap_new w _, ?_, by simp [Value.ownBlock]⟩, b0 _⟩
    exact ⟨rfl, Or.inl ⟨rfl, rfl⟩⟩
  case round =>
    obtain ⟨k, hk, rfl, hbu, hb⟩ := hrel
    have hle := escL_length (l.take k)
    have hbs := hb.size
    have HBU := hide hbu
    have HB := hide hb
    clear hbu hb
    have hlk : (Lib.byteCells (escL (l.take k))).length ≤ 2 * k := by rw [cells_len]; simp at hle; omega
    by_cases hlt : k < l.length
    · have hg := ba_get l k hlt
      cases hu : upperB l[k] with
      | false =>
        have HU := hide hu
        have HE : Hid (Lib.byteCells (escL (l.take (k + 1))) = Lib.byteCells (escL (l.take k)) ++ [.int .u8 (l[k].toNat : Int)]) := by
          show Lib.byteCells _ = _
          rw [escL_take hlt, cells_add, escC, hu]; rfl
        clear hu
        go_wp2_with (first | (go_at_call 88; refine (asks_is (unhide HU) upper_asks _).mono ?_; rintro e w1 ⟨rfl, hw⟩; rw [hw]; clear hw w1) | (go_at_call 89; fail))
        refine (writeByte_any w.heap.size w.heap.size _ _ _ (unhide HBU) (by omega) hbs).mono ?_
        rintro e w3 ⟨rfl, hbu3, hb3⟩
        have HBU3 := hide hbu3
        have HB3 := hide ((unhide HB).trans hb3)
        clear hbu3 hb3 HBU HB
        go_wp2
        go_roundw
        case rel => exact ⟨k + 1, hlt, by simp, Or.inr (by rw [unhide HE]; exact unhide HBU3), unhide HB3⟩
        case measure => simp [intOf]; omega
      | true =>
        have HU := hide hu
        have HE : Hid (Lib.byteCells (escL (l.take (k + 1))) = Lib.byteCells (escL (l.take k)) ++ [.int .u8 33] ++ [.int .u8 ((l[k].toNat : Int) + 32)]) := by
          show Lib.byteCells _ = _
          have h1 := (upper_lower hu).1
          have h2 : ((UInt8.ofNat (l[k].toNat + 32)).toNat : Int) = (l[k].toNat : Int) + 32 := by omega
          rw [escL_take hlt, cells_add, escC, hu, ← h2]
          simp [Lib.byteCells]
        have hub : (l[k].toNat : Int) + 32 < 256 := by
          simp only [upperB, Bool.and_eq_true, decide_eq_true_eq] at hu; omega
        clear hu
        go_wp2_with (first | (go_at_call 88; refine (asks_is (unhide HU) upper_asks _).mono ?_; rintro e w1 ⟨rfl, hw⟩; rw [hw]; clear hw w1) | (go_at_call 89; refine (writeByte_any w.heap.size w.heap.size _ _ _ (unhide HBU) (by omega) hbs).mono ?_))
        rintro e w3 ⟨rfl, hbu3, hb3⟩
        have hbs3 := hb3.size
        have HBU3 := hide hbu3
        have HB3 := hide ((unhide HB).trans hb3)
        clear hbu3 hb3 HBU HB
        have hlen3 : (Lib.byteCells (escL (l.take k)) ++ [Value.int .u8 33]).length ≤ 2 * k + 1 := by rw [List.length_append]; simp; omega
        go_wp2_with (go_at_call 89; refine (writeByte_any w.heap.size w.heap.size _ _ _ (Or.inr (unhide HBU3)) (by omega) (by omega)).mono ?_)
        rintro e w4 ⟨rfl, hbu4, hb4⟩
        have HBU4 := hide hbu4
        have HB4 := hide ((unhide HB3).trans hb4)
        clear hbu4 hb4 HBU3 HB3 hlen3
        go_wp2
        go_roundw
        case rel => exact ⟨k + 1, hlt, by simp, Or.inr (by rw [unhide HE]; exact unhide HBU4), unhide HB4⟩
        case measure => simp [intOf]; omega
    · have hke : k = l.length := by omega
      subst hke
      rw [List.take_length] at *
      go_wp2_with (go_at_call 90; refine (Tryz.Builder_String_any w.heap.size w.heap.size _ _ (unhide HBU) hbs).mono ?_)
      rintro e w3 ⟨rfl, hb3⟩
      have HB3 := hide ((unhide HB).trans hb3)
      clear hb3
      go_wp2
      go_ret2
      exact ⟨rfl, unhide HB3⟩

theorem esc_any {l : Str} (hl : l.length ≤ 4294967281) (w : World) : Gives 39 #[.string (ba l)] w (.tuple #[.string (ba (escR l).1), .int .i64 ((escR l).2 : Int)]) := by
  unfold escR
  cases hp : l.all plainB with
  | true => exact esc_ok hl hp w
  | false => exact esc_no hl hp w

theorem unesc_no {l : Str} (hl : l.length ≤ 4294967281) (hp : l.all escapedB = false) (w : World) : Gives 41 #[.string (ba l)] w (.tuple #[.string ⟨#[]⟩, .int .i64 15]) := by
  unfold Gives
  have HP := hide hp
  clear hp
  go_enter Tryz.func41, Tryz.ntmps41
  go_wp2_with (go_at_call 86; refine (every_is (unhide HP) escaped_asks (enters_of Tryz.func92 (by kernel_rfl) rfl) hl _).mono ?_; rintro e w1 ⟨rfl, hw⟩; rw [hw]; clear hw w1)
  go_ret2
  exact ⟨rfl, Below.refl _ _⟩

/-- What Unescape answers of a text of bytes that may be there. -/
def unescV (o : Option Str) : Value :=
  match o with
  | some r => .tuple #[.string (ba r), .int .i64 0]
  | none => .tuple #[.string ⟨#[]⟩, .int .i64 15]

theorem unesc_at (l : Str) {k : Nat} (h : k < l.length) : unescL (l.drop k) = if l[k] = 33 then (if h' : k + 1 < l.length then (if lowerB l[k + 1] then (unescL (l.drop (k + 2))).map fun r => UInt8.ofNat (l[k + 1].toNat - 32) :: r else none) else none) else (unescL (l.drop (k + 1))).map fun r => l[k] :: r := by
  rw [List.drop_eq_getElem_cons h]
  by_cases hc : l[k] = 33
  · rw [if_pos hc, hc]
    by_cases h' : k + 1 < l.length
    · rw [dif_pos h', List.drop_eq_getElem_cons h']
      simp only [unescL, if_true]
    · rw [dif_neg h', List.drop_eq_nil_of_le (by omega)]
      rfl
  · rw [if_neg hc, unescL_plain hc]

set_option maxHeartbeats 1000000 in
theorem unesc_ok {l : Str} (hl : l.length ≤ 4294967281) (hp : l.all escapedB = true) (w : World) : Gives 41 #[.string (ba l)] w (unescV (unescL l)) := by
  unfold Gives
  have hsz : (ba l).size = l.length := ba_size l
  have HP := hide hp
  have b0 : ∀ o, Below w.heap.size w (w.alloc o) := fun o => (Below.refl _ _).alloc (Nat.le_refl _) _
  clear hp
  go_enter Tryz.func41, Tryz.ntmps41
  go_wp2_with (go_at_call 86; refine (every_is (unhide HP) escaped_asks (enters_of Tryz.func92 (by kernel_rfl) rfl) hl _).mono ?_; rintro e w1 ⟨rfl, hw⟩; rw [hw]; clear hw w1)
  go_loopw [5] (fun i wr => ∃ (k : Nat) (r : Str), k ≤ l.length ∧ i = .int .i64 k ∧ r.length ≤ k ∧ unescL l = (unescL (l.drop k)).map (fun t => r ++ t) ∧ Lib.IsBuilder 85 5 w.heap.size w.heap.size (Lib.byteCells r) wr ∧ Below w.heap.size w wr) (fun i _ => l.length - (intOf i).toNat)
  case atStart =>
    refine ⟨0, [], Nat.zero_le _, rfl, Nat.le_refl _, by rw [List.drop_zero]; cases unescL l <;> rfl, Or.inl ⟨Nat.le_refl _, .slice none 0 0, heap_new w _, ?_, by simp [Value.ownBlock]⟩, b0 _⟩
    exact ⟨rfl, Or.inl ⟨rfl, rfl⟩⟩
  case round =>
    obtain ⟨k, r, hk, rfl, hrl, hun, hbu, hb⟩ := hrel
    have hbs := hb.size
    have hlk : (Lib.byteCells r).length ≤ k := by rw [cells_len]; exact hrl
    have HUN := hide hun
    have HBU := hide hbu
    have HB := hide hb
    clear hbu hb hun
    by_cases hlt : k < l.length
    · have hg := ba_get l k hlt
      have hst := unesc_at l hlt
      by_cases hc : l[k] = 33
      · rw [if_pos hc] at hst
        have hci : (l[k].toNat : Int) = 33 := by rw [hc]; rfl
        by_cases h1 : k + 1 < l.length
        · rw [dif_pos h1] at hst
          have hg1 := ba_get l (k + 1) h1
          have hnq : ¬ ((k : Int) + 1 = l.length) := by omega
          cases hlo : lowerB l[k + 1] with
          | false =>
            rw [hlo] at hst
            have HR : Hid (unescL l = none) := by show unescL l = none; rw [unhide HUN, hst]; rfl
            have HLO := hide hlo
            clear hlo hst hc
            go_wp2_with (go_at_call 93; refine (asks_is (unhide HLO) lower_asks _).mono ?_; rintro e w1 ⟨rfl, hw⟩; rw [hw]; clear hw w1)
            go_ret2
            exact ⟨retv (by rw [unhide HR]; rfl), unhide HB⟩
          | true =>
            rw [hlo, if_pos rfl] at hst
            have hlb : 32 ≤ (l[k + 1].toNat : Int) ∧ (l[k + 1].toNat : Int) < 256 := by
              simp only [lowerB, Bool.and_eq_true, decide_eq_true_eq] at hlo; omega
            have HR : Hid (unescL l = (unescL (l.drop (k + 2))).map (fun t => (r ++ [UInt8.ofNat (l[k + 1].toNat - 32)]) ++ t)) := by
              show unescL l = _
              rw [unhide HUN, hst]
              cases unescL (l.drop (k + 2)) <;> simp
            have HE : Hid (Lib.byteCells (r ++ [UInt8.ofNat (l[k + 1].toNat - 32)]) = Lib.byteCells r ++ [.int .u8 ((l[k + 1].toNat : Int) - 32)]) := by
              show Lib.byteCells _ = _
              have h2 : ((UInt8.ofNat (l[k + 1].toNat - 32)).toNat : Int) = (l[k + 1].toNat : Int) - 32 := by
                simp; omega
              rw [cells_add, ← h2]; rfl
            have HLO := hide hlo
            clear hlo hst hc
            go_wp2_with (first | (go_at_call 93; refine (asks_is (unhide HLO) lower_asks _).mono ?_; rintro e w1 ⟨rfl, hw⟩; rw [hw]; clear hw w1) | (go_at_call 89; refine (writeByte_any w.heap.size w.heap.size _ _ _ (unhide HBU) (by omega) hbs).mono ?_))
            rintro e w3 ⟨rfl, hbu3, hb3⟩
            have HBU3 := hide hbu3
            have HB3 := hide ((unhide HB).trans hb3)
            clear hbu3 hb3 HBU HB
            go_wp2
            go_roundw
            case rel => exact ⟨k + 2, r ++ [UInt8.ofNat (l[k + 1].toNat - 32)], by omega, by simp; omega, by simp; omega, unhide HR, Or.inr (by rw [unhide HE]; exact unhide HBU3), unhide HB3⟩
            case measure => simp [intOf]; omega
        · rw [dif_neg h1] at hst
          have hq : (k : Int) + 1 = l.length := by omega
          have HR : Hid (unescL l = none) := by show unescL l = none; rw [unhide HUN, hst]; rfl
          clear hst hc
          go_wp2
          go_ret2
          exact ⟨retv (by rw [unhide HR]; rfl), unhide HB⟩
      · rw [if_neg hc] at hst
        have hci : ¬ (l[k].toNat : Int) = 33 := fun e => hc (by apply UInt8.toNat_inj.1; have : (33 : UInt8).toNat = 33 := rfl; omega)
        have HR : Hid (unescL l = (unescL (l.drop (k + 1))).map (fun t => (r ++ [l[k]]) ++ t)) := by
          show unescL l = _
          rw [unhide HUN, hst]
          cases unescL (l.drop (k + 1)) <;> simp
        have HE : Hid (Lib.byteCells (r ++ [l[k]]) = Lib.byteCells r ++ [.int .u8 (l[k].toNat : Int)]) := by
          show Lib.byteCells _ = _
          rw [cells_add]; rfl
        clear hst hc
        go_wp2_with (go_at_call 89; refine (writeByte_any w.heap.size w.heap.size _ _ _ (unhide HBU) (by omega) hbs).mono ?_)
        rintro e w3 ⟨rfl, hbu3, hb3⟩
        have HBU3 := hide hbu3
        have HB3 := hide ((unhide HB).trans hb3)
        clear hbu3 hb3 HBU HB
        go_wp2
        go_roundw
        case rel => exact ⟨k + 1, r ++ [l[k]], hlt, by simp, by simp; omega, unhide HR, Or.inr (by rw [unhide HE]; exact unhide HBU3), unhide HB3⟩
        case measure => simp [intOf]; omega
    · have hke : k = l.length := by omega
      subst hke
      have HR : Hid (unescL l = some r) := by
        show unescL l = some r
        rw [unhide HUN, List.drop_length]
        simp [unescL]
      go_wp2_with (go_at_call 90; refine (Tryz.Builder_String_any w.heap.size w.heap.size _ _ (unhide HBU) hbs).mono ?_)
      rintro e w3 ⟨rfl, hb3⟩
      have HB3 := hide ((unhide HB).trans hb3)
      clear hb3
      go_wp2
      go_ret2
      exact ⟨retv (by rw [unhide HR]; rfl), unhide HB3⟩

theorem unesc_any {l : Str} (hl : l.length ≤ 4294967281) (w : World) : Gives 41 #[.string (ba l)] w (.tuple #[.string (ba (unescR l).1), .int .i64 ((unescR l).2 : Int)]) := by
  cases hp : l.all escapedB with
  | false =>
    have e : unescR l = ([], 15) := by unfold unescR; rw [hp]; rfl
    rw [e]; exact unesc_no hl hp w
  | true =>
    have h := unesc_ok hl hp w
    have e : unescV (unescL l) = .tuple #[.string (ba (unescR l).1), .int .i64 ((unescR l).2 : Int)] := by
      unfold unescR
      rw [hp]
      simp only [if_true]
      cases unescL l <;> rfl
    rw [← e]; exact h

end Go.Proofs.YtcmafidnaojkiaaGreatDoor
