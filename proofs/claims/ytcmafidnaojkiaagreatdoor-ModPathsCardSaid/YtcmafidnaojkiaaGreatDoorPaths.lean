/-
  ModPaths: paths, imports, majors, matches and Check answer as the reference does.
-/
import Derived.Test.YtcmafidnaojkiaaGreatDoorRefL
import Derived.Deep.RegionHeld3
namespace Go.Proofs.YtcmafidnaojkiaaGreatDoor
open Go.RowKit

theorem via {n : Nat} {args : Array Value} {v : Value} {B : Nat} {w wq : World} {x y : Value} (hcall : ∀ w', Gd w' → Gives n args w' v) (hg : Gd w) (hS : wq.cell? ⟨B, 0, none⟩ = some x ∧ wq.cell? ⟨B, 1, none⟩ = some y ∧ B < wq.heap.size ∧ Below w.heap.size w wq) :
    Calls Tryz.prog n args wq fun e w' => e = .returned v ∧ w'.cell? ⟨B, 0, none⟩ = some x ∧ w'.cell? ⟨B, 1, none⟩ = some y ∧ B < w'.heap.size ∧ Below w.heap.size w w' := by
  obtain ⟨c0, c1, hin, hb⟩ := hS
  refine (hcall wq (hg.below hb)).mono ?_
  rintro e w' ⟨rfl, b⟩
  exact ⟨rfl, kept c0 hin b, kept c1 hin b, Nat.lt_of_lt_of_le hin b.size, below_trans hb b⟩

theorem below_drew {B : Nat} {a w : World} (h : Below B a w) : Below B a w.drew := ⟨h.os, h.tape, h.output, h.size, h.block⟩

theorem drewS {B : Nat} {w wq : World} {x y : Value} (hS : wq.cell? ⟨B, 0, none⟩ = some x ∧ wq.cell? ⟨B, 1, none⟩ = some y ∧ B < wq.heap.size ∧ Below w.heap.size w wq) : wq.drew.cell? ⟨B, 0, none⟩ = some x ∧ wq.drew.cell? ⟨B, 1, none⟩ = some y ∧ B < wq.drew.heap.size ∧ Below w.heap.size w wq.drew :=
  ⟨hS.1, hS.2.1, hS.2.2.1, below_drew hS.2.2.2⟩

theorem belowS {B : Nat} {w wq : World} {x y : Value} (hS : wq.cell? ⟨B, 0, none⟩ = some x ∧ wq.cell? ⟨B, 1, none⟩ = some y ∧ B < wq.heap.size ∧ Below w.heap.size w wq) : Below w.heap.size w wq := hS.2.2.2

theorem num_gives (n : Int) (w : World) : Gives 28 #[.int .i64 n] w (.int .i64 n) := (num_any n w).mono fun _ _ ⟨he, hw⟩ => ⟨he, by rw [hw]; exact Below.refl _ _⟩

theorem paths_big {a b : Str} (h : fewB [a, b] = false) {w : World} (hg : Gd w) : Gives 6 #[.string (ba a), .string (ba b)] w (.bool true) := by
  unfold Gives
  have H := hide h
  clear h
  go_enter Tryz.func6, Tryz.ntmps6
  go_wp2_with (go_at_call 13; fail)
  refine (first_any hg).mono ?_
  rintro e w1 ⟨rfl, b1⟩
  go_wp2_with (go_at_call 14; fail)
  refine (few_is (ps := [a, b]) (unhide H) (by simp) (texts_new w1 [a, b])).mono ?_
  rintro e w2 ⟨rfl, hw⟩
  rw [hw]
  go_wp2
  go_ret
  exact ⟨rfl, b1.alloc b1.size _⟩

set_option maxHeartbeats 4000000 in
theorem paths_small {a b : Str} (h : fewB [a, b] = true) {w : World} (hg : Gd w) : Gives 6 #[.string (ba a), .string (ba b)] w (.bool true) := by
  unfold Gives
  obtain ⟨la, lb⟩ := few_two h
  obtain ⟨f, n, hj⟩ : ∃ f n, majorR a = (f, n) := ⟨_, _, rfl⟩
  obtain ⟨pn, hp⟩ : ∃ pn, pathR a = pn := ⟨_, rfl⟩
  obtain ⟨im, hi⟩ : ∃ im, importR a = im := ⟨_, rfl⟩
  obtain ⟨mm, hm⟩ : ∃ mm, matchesR b a = mm := ⟨_, rfl⟩
  obtain ⟨ch, hc⟩ : ∃ ch, checkR a b = ch := ⟨_, rfl⟩
  have H := hide h
  have HJ := hide hj
  have HP := hide hp
  have HI := hide hi
  have HM := hide hm
  have HC := hide hc
  have l1 := ba_list f
  clear h hj hp hi hm hc
  go_enter Tryz.func6, Tryz.ntmps6
  go_wp2_with (go_at_call 13; fail)
  refine (first_any hg).mono ?_
  rintro e w1 ⟨rfl, b1⟩
  go_wp2_with (go_at_call 14; fail)
  refine (few_is (ps := [a, b]) (unhide H) (by simp) (texts_new w1 [a, b])).mono ?_
  rintro e w2 ⟨rfl, hw⟩
  have b2 : Below w.heap.size w w2 := by rw [hw]; exact b1.alloc b1.size _
  clear hw b1
  go_wp2_with (go_at_call 29; fail)
  refine (major_is (unhide HJ) (by omega) _).mono ?_
  rintro e w3 ⟨rfl, b3⟩
  have b3 := below_trans b2 b3
  clear b2
  go_wp2_with (go_at_call 30; refine (refMajor_is (unhide HJ) (by omega) _).mono ?_; rintro e w4 ⟨rfl, hw⟩; rw [hw]; clear hw w4)
  obtain ⟨c0, c1, b4⟩ := boxed (w := w3) (a := .string (ba a)) (b := .string (ba b)) (t := 45) (Below.refl _ _)
  have hin := boxed_in (w := w3) (a := .string (ba a)) (b := .string (ba b)) (t := 45) (Below.refl _ _)
  have b4 := below_trans b3 b4
  obtain ⟨w4, hw4⟩ : ∃ w4, w3.alloc (Obj.cells #[Value.string (ba a), Value.string (ba b)] 45) = w4 := ⟨_, rfl⟩
  obtain ⟨B, hB⟩ : ∃ B, w3.heap.size = B := ⟨_, rfl⟩
  rw [hw4] at c0 c1 b4 hin ⊢
  rw [hB] at c0 c1 hin ⊢
  clear hw4 hB
  go_region_held3 (fun w' => w'.cell? ⟨B, 0, none⟩ = some (.string (ba a)) ∧ w'.cell? ⟨B, 1, none⟩ = some (.string (ba b)) ∧ B < w'.heap.size ∧ Below w.heap.size w w')
    (first | assumption | exact drewS (by assumption) | exact ⟨c0, c1, hin, b4⟩ | exact drewS ⟨c0, c1, hin, b4⟩)
    (first
      | (go_at_call 31; refine (via (fun w' hg' => path_is (unhide HP) (by omega) hg') hg (by assumption)).mono ?_; rintro e w' ⟨rfl, k⟩)
      | (go_at_call 32; refine (via (fun w' hg' => refPath_is (unhide HP) w') hg (by assumption)).mono ?_; rintro e w' ⟨rfl, k⟩)
      | (go_at_call 33; refine (via (fun w' hg' => import_is (unhide HI) (by omega) hg') hg (by assumption)).mono ?_; rintro e w' ⟨rfl, k⟩)
      | (go_at_call 34; refine (via (fun w' hg' => refImport_is (unhide HI) w') hg (by assumption)).mono ?_; rintro e w' ⟨rfl, k⟩)
      | (go_at_call 35; refine (via (fun w' hg' => matches_is (unhide HM) (by omega) hg') hg (by assumption)).mono ?_; rintro e w' ⟨rfl, k⟩)
      | (go_at_call 36; refine (via (fun w' hg' => refMatches_is (unhide HM) (by omega) w') hg (by assumption)).mono ?_; rintro e w' ⟨rfl, k⟩)
      | (go_at_call 37; refine (via (fun w' hg' => check_is (unhide HC) (by omega) hg') hg (by assumption)).mono ?_; rintro e w' ⟨rfl, k⟩)
      | (go_at_call 38; refine (via (fun w' hg' => refCheck_is (unhide HC) (by omega) w') hg (by assumption)).mono ?_; rintro e w' ⟨rfl, k⟩)
      | (go_at_call 28; refine (via (fun w' hg' => num_gives _ w') hg (by assumption)).mono ?_; rintro e w' ⟨rfl, k⟩))
  go_wp2
  go_ret
  exact ⟨rfl, belowS (B := B) (x := .string (ba a)) (y := .string (ba b)) (by assumption)⟩

theorem paths_law (a b : Str) {w : World} (hg : Gd w) : Gives 6 #[.string (ba a), .string (ba b)] w (.bool true) := by
  cases h : fewB [a, b] with
  | false => exact paths_big h hg
  | true => exact paths_small h hg

end Go.Proofs.YtcmafidnaojkiaaGreatDoor
