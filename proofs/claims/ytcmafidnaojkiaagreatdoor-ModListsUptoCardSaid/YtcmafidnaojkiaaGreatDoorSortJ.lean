/-
  stable_func: the walk.
-/
import Derived.Test.YtcmafidnaojkiaaGreatDoorSortI
namespace Go.Proofs.YtcmafidnaojkiaaGreatDoor
open Go.RowKit
variable {α : Type} {g : Nat} {lb : Array Value} {sf : Nat} {sb : Array Value} {blk n : Nat} {lt : α → α → Bool} {R : List α → World → Prop}

theorem StaA.fr {w0 wr : World} {d : List α} {a : Nat} (h : StaA lt R blk w0 d a wr) : Fr blk w0 wr := by obtain ⟨_, _, _, _, _, _, h⟩ := h; exact h
theorem StaB.fr {w0 wr : World} {d : List α} {k : Nat} (h : StaB lt R blk w0 d k wr) : Fr blk w0 wr := by obtain ⟨_, _, _, _, _, _, _, h⟩ := h; exact h
theorem StaC.fr {w0 wr : World} {d : List α} {k a : Nat} (h : StaC lt R blk w0 d k a wr) : Fr blk w0 wr := by obtain ⟨_, _, _, _, _, _, _, _, _, _, h⟩ := h; exact h
theorem StaA.le (S : Sorts g lb sf sb blk n lt R) {w0 wr : World} {d : List α} {a : Nat} (h : StaA lt R blk w0 d a wr) : a ≤ n := by
  obtain ⟨bs, y, _, h2, _, h4, _⟩ := h
  have hl := S.len _ _ h4
  simp only [List.length_append] at hl
  omega
theorem StaC.le (S : Sorts g lb sf sb blk n lt R) {w0 wr : World} {d : List α} {k a : Nat} (h : StaC lt R blk w0 d k a wr) : a ≤ n := by
  obtain ⟨ds, bs, t, _, h2, _, _, _, _, h7, _⟩ := h
  have hl := S.len _ _ h7
  simp only [List.length_append] at hl
  omega

set_option maxHeartbeats 4000000 in
set_option maxRecDepth 100000 in
theorem stable_any (S : Sorts g lb sf sb blk n lt R) (O : Strict lt) {d : List α} {w : World} (hR : R d w) :
    Calls Tryz.prog 107 #[duo g lb sf sb, .int .i64 (n : Int)] w fun e w' => e = .returned (.tuple #[]) ∧ ∃ x, x.Perm d ∧ Srt lt x ∧ R x w' ∧ Fr blk w w' := by
  have hbl := S.inside _ _ hR
  have hsm := S.small
  have u104 := Tryz.underlying104
  have HI : Hid (StaA lt R blk (w.alloc (duoBox g lb sf sb)) d 0 (w.alloc (duoBox g lb sf sb))) :=
    ⟨[], d, (by intro b hb; cases hb), rfl, by simp, by simpa using S.alloc _ _ (duoBox g lb sf sb) hR, Fr.refl _ _⟩
  have HS := hide S
  have HOO := hide O
  clear S hR O
  go_enter Tryz.func107, Tryz.ntmps107
  go_wp2
  go_loopw [5, 6] (fun v5 v6 wr => ∃ a : Nat, v5 = .int .i64 a ∧ v6 = .int .i64 ((a + 20 : Nat) : Int) ∧ StaA lt R blk (w.alloc (duoBox g lb sf sb)) d a wr) (fun v5 _ _ => n - (intOf v5).toNat)
  case atStart => exact ⟨0, rfl, rfl, unhide HI⟩
  case round =>
    obtain ⟨a, rfl, rfl, hA⟩ := hrel
    have han := StaA.le (unhide HS) hA
    have c0 := (box_at hbl hA.fr).1
    have c1 := (box_at hbl hA.fr).2
    have HA := hide hA
    clear hA HI
    by_cases hlt : a + 20 ≤ n
    · go_wp2_with (go_at_call 142; fail)
      refine (StaA.step (unhide HS) (unhide HOO) (unhide HA) hlt).mono ?_
      rintro e w1 ⟨rfl, hA2⟩
      have HA2 := hide hA2
      clear hA2 HA
      go_wp2
      go_roundw
      case rel => exact ⟨a + 20, int_eq (by omega), int_eq (by omega), unhide HA2⟩
      case measure => simp [intOf]; omega
    · have hq : n < a + 20 := by omega
      go_wp2_with (go_at_call 142; fail)
      refine (StaA.last (unhide HS) (unhide HOO) (unhide HA) hq).mono ?_
      rintro e w1 ⟨rfl, hB⟩
      have HB := hide hB
      clear hB HA c0 c1
      go_wp2
      go_loopw [4, 5, 6, 7] (fun v4 _ _ _ wr => ∃ k : Nat, v4 = .int .i64 k ∧ 0 < k ∧ k ≤ 2 * n + 20 ∧ StaB lt R blk (w.alloc (duoBox g lb sf sb)) d k wr) (fun v4 _ _ _ _ => n - (intOf v4).toNat)
      case atStart => exact ⟨20, rfl, by omega, by omega, unhide HB⟩
      case round =>
        obtain ⟨k, rfl, hk0, hk2, hB2⟩ := hrel
        have HB2 := hide hB2
        clear hB2 HB
        by_cases hkn : k < n
        · go_wp2
          go_loopw [5, 6] (fun v5 v6 wr => ∃ a : Nat, v5 = .int .i64 a ∧ v6 = .int .i64 ((a + 2 * k : Nat) : Int) ∧ StaC lt R blk (w.alloc (duoBox g lb sf sb)) d k a wr) (fun v5 _ _ => n - (intOf v5).toNat)
          case atStart => exact ⟨0, rfl, int_eq (by omega), StaB.start (unhide HB2)⟩
          case round =>
            obtain ⟨a2, rfl, rfl, hC⟩ := hrel
            have han2 := StaC.le (unhide HS) hC
            have d0 := (box_at hbl hC.fr).1
            have d1 := (box_at hbl hC.fr).2
            have HC := hide hC
            clear hC HB2
            by_cases hp : a2 + 2 * k ≤ n
            · go_wp2_with (go_at_call 143; fail)
              refine (StaC.pair (unhide HS) (unhide HOO) (unhide HC) hk0 hp).mono ?_
              rintro e w2 ⟨rfl, hC2⟩
              have HC2 := hide hC2
              clear hC2 HC
              go_wp2
              go_roundw
              case rel => exact ⟨a2 + 2 * k, int_eq (by omega), int_eq (by omega), unhide HC2⟩
              case measure => simp [intOf]; omega
            · have hp2 : n < a2 + 2 * k := by omega
              by_cases hr : a2 + k < n
              · go_wp2_with (go_at_call 143; fail)
                refine (StaC.rest (unhide HS) (unhide HOO) (unhide HC) hp2 hr).mono ?_
                rintro e w2 ⟨rfl, hD⟩
                have HD := hide hD
                clear hD HC
                go_wp2
                go_roundw
                case rel => exact ⟨2 * k, int_eq (by omega), by omega, by omega, unhide HD⟩
                case measure => simp [intOf]; omega
              · have HD := hide (StaC.none (unhide HS) (unhide HC) hp2 (by omega))
                clear HC
                go_wp2
                go_roundw
                case rel => exact ⟨2 * k, int_eq (by omega), by omega, by omega, unhide HD⟩
                case measure => simp [intOf]; omega
        · go_wp2
          go_end0
          obtain ⟨x, k1, k2, k3, k4⟩ := StaB.done (unhide HS) (unhide HB2) (by omega)
          exact ⟨rfl, x, k1, k2, k3, (Fr.alloc _ _ _).trans k4⟩

end Go.Proofs.YtcmafidnaojkiaaGreatDoor
