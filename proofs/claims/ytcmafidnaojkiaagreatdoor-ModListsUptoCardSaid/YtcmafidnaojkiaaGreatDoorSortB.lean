/-
  rotate_func: two neighbouring ranges change places.
-/
import Derived.Test.YtcmafidnaojkiaaGreatDoorSortA
namespace Go.Proofs.YtcmafidnaojkiaaGreatDoor
open Go.RowKit
variable {α : Type} {g : Nat} {lb : Array Value} {sf : Nat} {sb : Array Value} {blk n : Nat} {lt : α → α → Bool} {R : List α → World → Prop}


theorem int_eq {x y : Int} (h : x = y) : Value.int .i64 x = .int .i64 y := by rw [h]

def RotIn (R : List α → World → Prop) (blk m : Nat) (w0 : World) (goal : List α) (i j : Nat) (wr : World) : Prop :=
  ∃ P U V T : List α, U.length = i ∧ V.length = j ∧ 0 < i ∧ 0 < j ∧ P.length + i = m ∧ R (P ++ (U ++ (V ++ T))) wr ∧ P ++ (V ++ (U ++ T)) = goal ∧ Fr blk w0 wr

theorem rot_left (S : Sorts g lb sf sb blk n lt R) {m i j : Nat} {w0 wr : World} {goal : List α} (h : RotIn R blk m w0 goal i j wr) (hij : j < i) :
    Calls Tryz.prog 176 #[duo g lb sf sb, .int .i64 ((m : Int) - (i : Int)), .int .i64 (m : Int), .int .i64 (j : Int)] wr fun e w' => e = .returned (.tuple #[]) ∧ RotIn R blk m w0 goal (i - j) j w' := by
  obtain ⟨P, U, V, T, hU, hV, hi, hj, hP, hR, hg, hF⟩ := h
  have hx : (U.take j).length = j := by simp; omega
  have e : P ++ (U ++ (V ++ T)) = P ++ (U.take j ++ (U.drop j ++ (V ++ T))) := by
    rw [← List.append_assoc (U.take j), List.take_append_drop]
  rw [e] at hR
  have hc := swapRange_any S (k := j) hx hV hR
  rw [show ((P.length : Nat) : Int) = (m : Int) - (i : Int) by omega, show ((P.length + j + (U.drop j).length : Nat) : Int) = (m : Int) by simp; omega] at hc
  refine hc.mono ?_
  rintro e w' ⟨rfl, h1, h2⟩
  refine ⟨rfl, P ++ V, U.drop j, U.take j, T, by simp; omega, hx, by omega, hj, by simp; omega, by rw [List.append_assoc]; exact h1, ?_, hF.trans h2⟩
  rw [← hg, List.append_assoc, ← List.append_assoc (U.take j), List.take_append_drop]

theorem rot_right (S : Sorts g lb sf sb blk n lt R) {m i j : Nat} {w0 wr : World} {goal : List α} (h : RotIn R blk m w0 goal i j wr) (hij : i < j) :
    Calls Tryz.prog 176 #[duo g lb sf sb, .int .i64 ((m : Int) - (i : Int)), .int .i64 ((m : Int) + (j : Int) - (i : Int)), .int .i64 (i : Int)] wr fun e w' => e = .returned (.tuple #[]) ∧ RotIn R blk m w0 goal i (j - i) w' := by
  obtain ⟨P, U, V, T, hU, hV, hi, hj, hP, hR, hg, hF⟩ := h
  have hx : (V.drop (j - i)).length = i := by simp; omega
  have e : P ++ (U ++ (V ++ T)) = P ++ (U ++ (V.take (j - i) ++ (V.drop (j - i) ++ T))) := by
    rw [← List.append_assoc (V.take (j - i)), List.take_append_drop]
  rw [e] at hR
  have hc := swapRange_any S (k := i) hU hx hR
  rw [show ((P.length : Nat) : Int) = (m : Int) - (i : Int) by omega, show ((P.length + i + (V.take (j - i)).length : Nat) : Int) = (m : Int) + (j : Int) - (i : Int) by simp; omega] at hc
  refine hc.mono ?_
  rintro e w' ⟨rfl, h1, h2⟩
  refine ⟨rfl, P, V.drop (j - i), V.take (j - i), U ++ T, hx, by simp; omega, hi, by omega, hP, h1, ?_, hF.trans h2⟩
  rw [← hg, ← List.append_assoc (V.take (j - i)), List.take_append_drop]

theorem rot_last (S : Sorts g lb sf sb blk n lt R) {m i : Nat} {w0 wr : World} {goal : List α} (h : RotIn R blk m w0 goal i i wr) :
    Calls Tryz.prog 176 #[duo g lb sf sb, .int .i64 ((m : Int) - (i : Int)), .int .i64 (m : Int), .int .i64 (i : Int)] wr fun e w' => e = .returned (.tuple #[]) ∧ R goal w' ∧ Fr blk w0 w' := by
  obtain ⟨P, U, V, T, hU, hV, hi, hj, hP, hR, hg, hF⟩ := h
  have hc := swapRange_any S (k := i) (B := []) hU hV hR
  rw [show ((P.length : Nat) : Int) = (m : Int) - (i : Int) by omega, show ((P.length + i + ([] : List α).length : Nat) : Int) = (m : Int) by simp; omega] at hc
  refine hc.mono ?_
  rintro e w' ⟨rfl, h1, h2⟩
  rw [← hg]
  exact ⟨rfl, h1, hF.trans h2⟩

theorem RotIn.inside (S : Sorts g lb sf sb blk n lt R) {m i j : Nat} {w0 wr : World} {goal : List α} (h : RotIn R blk m w0 goal i j wr) : 0 < i ∧ 0 < j ∧ i ≤ m ∧ m + j ≤ n ∧ Fr blk w0 wr := by
  obtain ⟨P, U, V, T, hU, hV, hi, hj, hP, hR, hg, hF⟩ := h
  have := S.len _ _ hR
  simp only [List.length_append] at this
  exact ⟨hi, hj, by omega, by omega, hF⟩

set_option maxHeartbeats 1000000 in
theorem rotate_any (S : Sorts g lb sf sb blk n lt R) {p u v s : List α} {a m b : Nat} (ha : p.length = a) (hm : a + u.length = m) (hb : m + v.length = b) (hu : 0 < u.length) (hv : 0 < v.length) {w : World} (hR : R (p ++ (u ++ (v ++ s))) w) :
    Calls Tryz.prog 158 #[duo g lb sf sb, .int .i64 (a : Int), .int .i64 (m : Int), .int .i64 (b : Int)] w fun e w' => e = .returned (.tuple #[]) ∧ R (p ++ (v ++ (u ++ s))) w' ∧ Fr blk w w' := by
  have hbl := S.inside _ _ hR
  have hsm := S.small
  have hln := S.len _ _ hR
  simp only [List.length_append] at hln
  have u104 := Tryz.underlying104
  have hbn : b ≤ n := by omega
  have ham : a < m := by omega
  have hmb : m < b := by omega
  obtain ⟨goal, hgoal⟩ : ∃ goal, p ++ (v ++ (u ++ s)) = goal := ⟨_, rfl⟩
  have HI : Hid (RotIn R blk m (w.alloc (duoBox g lb sf sb)) goal (m - a) (b - m) (w.alloc (duoBox g lb sf sb))) :=
    ⟨p, u, v, s, by omega, by omega, by omega, by omega, by omega, S.alloc _ _ _ hR, hgoal, Fr.refl _ _⟩
  rw [hgoal]
  have HS := hide S
  clear S hR hgoal ha hm hb hu hv hln
  go_enter Tryz.func158, Tryz.ntmps158
  go_wp2
  go_loopw [8, 9] (fun v8 v9 wr => ∃ i j : Nat, v8 = .int .i64 i ∧ v9 = .int .i64 j ∧ RotIn R blk m (w.alloc (duoBox g lb sf sb)) goal i j wr) (fun v8 v9 _ => (intOf v8).toNat + (intOf v9).toNat)
  case atStart => exact ⟨m - a, b - m, int_eq (by omega), int_eq (by omega), unhide HI⟩
  case round =>
    obtain ⟨i, j, rfl, rfl, hin⟩ := hrel
    obtain ⟨hi, hj, him, hmj, hf⟩ := RotIn.inside (unhide HS) hin
    have c0 := (box_at hbl hf).1
    have c1 := (box_at hbl hf).2
    have HN := hide hin
    clear hin hf HI
    by_cases hij : i = j
    · subst hij
      go_wp2_with (go_at_call 176; fail)
      refine (rot_last (unhide HS) (unhide HN)).mono ?_
      rintro e w' ⟨rfl, h1, h2⟩
      go_wp2
      go_end0
      exact ⟨rfl, h1, (Fr.alloc _ _ _).trans h2⟩
    · have hne : ((i : Int) != (j : Int)) = true := by simp; omega
      by_cases hlt : j < i
      · go_wp2_with (go_at_call 176; fail)
        refine (rot_left (unhide HS) (unhide HN) hlt).mono ?_
        rintro e w' ⟨rfl, h1⟩
        have H1 := hide h1
        clear h1
        go_wp2
        go_roundw
        case rel => exact ⟨i - j, j, int_eq (by omega), rfl, unhide H1⟩
        case measure => simp [intOf]; omega
      · have hlt' : i < j := by omega
        go_wp2_with (go_at_call 176; fail)
        refine (rot_right (unhide HS) (unhide HN) hlt').mono ?_
        rintro e w' ⟨rfl, h1⟩
        have H1 := hide h1
        clear h1
        go_wp2
        go_roundw
        case rel => exact ⟨i, j - i, rfl, int_eq (by omega), unhide H1⟩
        case measure => simp [intOf]; omega

end Go.Proofs.YtcmafidnaojkiaaGreatDoor
