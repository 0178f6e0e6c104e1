/-
  ModBack: what is escaped is read back, and stays unlike.
-/
import Derived.Test.YtcmafidnaojkiaaGreatDoorFirst
namespace Go.Proofs.YtcmafidnaojkiaaGreatDoor
open Go.RowKit

theorem texts_new (w : World) (ps : List Str) : Texts (w.alloc (.cells (ps.map fun p => Value.string (ba p)).toArray 9)) w.heap.size ps := by
  intro k hk
  rw [Lib.cell_of_heap (heap_new w _)]
  simp [hk]

theorem few_is {ps : List Str} {b : Bool} {B cp : Nat} (h : fewB ps = b) (hn : ps.length ≤ 1099511627776) {w : World} (ht : Texts w B ps) : Calls Tryz.prog 14 #[.slice (some ⟨B, 0, none⟩) ps.length cp] w fun e w' => e = .returned (.bool b) ∧ w' = w := by rw [← h]; exact few_any hn ht

theorem few_two {a b : Str} (h : fewB [a, b] = true) : a.length ≤ 2000 ∧ b.length ≤ 2000 := by
  simpa [fewB] using h
theorem unesc_is {l r : Str} {n : Nat} (h : unescR l = (r, n)) (hl : l.length ≤ 4294967281) (w : World) : Gives 41 #[.string (ba l)] w (.tuple #[.string (ba r), .int .i64 (n : Int)]) := by
  have := unesc_any hl w
  rw [h] at this; exact this
theorem escR_yes {l : Str} (h : l.all plainB = true) : escR l = (escL l, 0) := by unfold escR; rw [h]; rfl
theorem escR_no {l : Str} (h : l.all plainB = false) : escR l = ([], 15) := by unfold escR; rw [h]; rfl

/-- The first steps of a law over two texts: the example, and whether they are short. -/
theorem back_big {a b : Str} (h : fewB [a, b] = false) {w : World} (hg : Gd w) : Gives 9 #[.string (ba a), .string (ba b)] w (.bool true) := by
  unfold Gives
  have H := hide h
  clear h
  go_enter Tryz.func9, Tryz.ntmps9
  go_wp2_with (go_at_call 13; fail)
  refine (first_any hg).mono ?_
  rintro e w1 ⟨rfl, b1⟩
  go_wp2_with (go_at_call 14; fail)
  refine (few_is (ps := [a, b]) (unhide H) (by simp) (texts_new w1 [a, b])).mono ?_
  rintro e w2 ⟨rfl, hw⟩
  rw [hw]
  go_wp2
  go_ret
  exact ⟨rfl, b1.alloc b1.size _⟩

set_option maxHeartbeats 1000000 in
theorem back_no {a b : Str} (h : fewB [a, b] = true) (hp : a.all plainB = false ∨ b.all plainB = false) {w : World} (hg : Gd w) : Gives 9 #[.string (ba a), .string (ba b)] w (.bool true) := by
  unfold Gives
  obtain ⟨la, lb⟩ := few_two h
  have H := hide h
  clear h
  cases hpa : a.all plainB with
  | false =>
    have HA := hide (escR_no hpa)
    clear hp hpa
    go_enter Tryz.func9, Tryz.ntmps9
    go_wp2_with (go_at_call 13; fail)
    refine (first_any hg).mono ?_
    rintro e w1 ⟨rfl, b1⟩
    go_wp2_with (go_at_call 14; fail)
    refine (few_is (ps := [a, b]) (unhide H) (by simp) (texts_new w1 [a, b])).mono ?_
    rintro e w2 ⟨rfl, hw⟩
    have b2 : Below w.heap.size w w2 := by rw [hw]; exact b1.alloc b1.size _
    clear hw b1
    go_wp2_with (go_at_call 39; fail)
    refine (esc_is (unhide HA) (by omega) _).mono ?_
    rintro e w3 ⟨rfl, b3⟩
    have b3 := b2.trans (b3.mono b2.size)
    clear b2
    go_wp2_with (go_at_call 39; fail)
    refine (esc_any (by omega) _).mono ?_
    rintro e w4 ⟨rfl, b4⟩
    have b4 := b3.trans (b4.mono b3.size)
    clear b3
    go_wp2_with (go_at_call 28; refine (num_any _ _).mono ?_; rintro e w6 ⟨rfl, hw⟩; rw [hw]; clear hw w6)
    go_ret
    exact ⟨rfl, b4⟩
  | true =>
    have hpb : b.all plainB = false := by rcases hp with hp | hp; rw [hpa] at hp; cases hp; exact hp
    have HA := hide (escR_yes hpa)
    have HB := hide (escR_no hpb)
    clear hp hpa hpb
    go_enter Tryz.func9, Tryz.ntmps9
    go_wp2_with (go_at_call 13; fail)
    refine (first_any hg).mono ?_
    rintro e w1 ⟨rfl, b1⟩
    go_wp2_with (go_at_call 14; fail)
    refine (few_is (ps := [a, b]) (unhide H) (by simp) (texts_new w1 [a, b])).mono ?_
    rintro e w2 ⟨rfl, hw⟩
    have b2 : Below w.heap.size w w2 := by rw [hw]; exact b1.alloc b1.size _
    clear hw b1
    go_wp2_with (go_at_call 39; fail)
    refine (esc_is (unhide HA) (by omega) _).mono ?_
    rintro e w3 ⟨rfl, b3⟩
    have b3 := b2.trans (b3.mono b2.size)
    clear b2
    go_wp2_with (go_at_call 39; fail)
    refine (esc_is (unhide HB) (by omega) _).mono ?_
    rintro e w4 ⟨rfl, b4⟩
    have b4 := b3.trans (b4.mono b3.size)
    clear b3
    go_wp2_with (go_at_call 28; refine (num_any _ _).mono ?_; rintro e w6 ⟨rfl, hw⟩; rw [hw]; clear hw w6)
    go_ret
    exact ⟨rfl, b4⟩

set_option maxHeartbeats 2000000 in
theorem back_yes {a b : Str} (h : fewB [a, b] = true) (hpa : a.all plainB = true) (hpb : b.all plainB = true) {w : World} (hg : Gd w) : Gives 9 #[.string (ba a), .string (ba b)] w (.bool true) := by
  unfold Gives
  obtain ⟨la, lb⟩ := few_two h
  have lx := escL_length a
  have hab : (escL a == escL b) = (a == b) := by
    rw [Bool.eq_iff_iff]
    simp only [beq_iff_eq]
    exact ⟨escL_inj hpa hpb, fun e => by rw [e]⟩
  have HU : Hid (unescR (escL a) = (a, 0)) := unescR_esc hpa
  have HQ : Hid ((escL a).all escapedB = true) := escaped_esc a hpa
  have HA := hide (escR_yes hpa)
  have HB := hide (escR_yes hpb)
  have H := hide h
  clear hpa hpb h
  generalize escL a = x at *
  generalize escL b = y at *
  have sx := ba_size x
  have l1 := ba_list a
  have l2 := ba_list b
  have l3 := ba_list x
  have l4 := ba_list y
  go_enter Tryz.func9, Tryz.ntmps9
  go_wp2_with (go_at_call 13; fail)
  refine (first_any hg).mono ?_
  rintro e w1 ⟨rfl, b1⟩
  go_wp2_with (go_at_call 14; fail)
  refine (few_is (ps := [a, b]) (unhide H) (by simp) (texts_new w1 [a, b])).mono ?_
  rintro e w2 ⟨rfl, hw⟩
  have b2 : Below w.heap.size w w2 := by rw [hw]; exact b1.alloc b1.size _
  clear hw b1
  go_wp2_with (go_at_call 39; fail)
  refine (esc_is (unhide HA) (by omega) _).mono ?_
  rintro e w3 ⟨rfl, b3⟩
  have b3 := b2.trans (b3.mono b2.size)
  clear b2
  go_wp2_with (go_at_call 39; fail)
  refine (esc_is (unhide HB) (by omega) _).mono ?_
  rintro e w4 ⟨rfl, b4⟩
  have b4 := b3.trans (b4.mono b3.size)
  clear b3
  go_wp2_with (first | (go_at_call 28; refine (num_any _ _).mono ?_; rintro e w6 ⟨rfl, hw⟩; rw [hw]; clear hw w6) | (go_at_call 41; fail))
  refine (unesc_is (unhide HU) (by omega) _).mono ?_
  rintro e w5 ⟨rfl, b5⟩
  have b5 := b4.trans (b5.mono b4.size)
  clear b4
  go_wp2
  go_loop [13, 14] (fun lo i => ∃ k : Nat, k ≤ x.length ∧ lo = .bool true ∧ i = .int .i64 k) (fun _ i => x.length - (intOf i).toNat)
  case atStart => exact ⟨0, Nat.zero_le _, rfl, rfl⟩
  case round =>
    obtain ⟨k, hk, rfl, rfl⟩ := hrel
    by_cases hlt : k < x.length
    · have hgk := ba_get x k hlt
      have hcu : escapedB x[k] = true := List.all_eq_true.1 (unhide HQ) _ (List.getElem_mem hlt)
      have hcu : ¬ (65 ≤ (x[k].toNat : Int) ∧ (x[k].toNat : Int) ≤ 90) := by
        simp only [escapedB, upperB, Bool.and_eq_true, Bool.not_eq_true', Bool.and_eq_false_iff, decide_eq_false_iff_not] at hcu
        omega
      by_cases h65 : (x[k].toNat : Int) < 65
      · go_wp2
        go_round
        case rel => exact ⟨k + 1, hlt, rfl, by simp⟩
        case measure => simp [intOf]; omega
      · have h90 : (90 : Int) < x[k].toNat := by omega
        go_wp2
        go_round
        case rel => exact ⟨k + 1, hlt, rfl, by simp⟩
        case measure => simp [intOf]; omega
    · have hke : k = x.length := by omega
      subst hke
      go_wp2_with (go_at_call 28; refine (num_any _ _).mono ?_; rintro e w6 ⟨rfl, hw⟩; rw [hw]; clear hw w6)
      go_ret
      exact ⟨rfl, b5⟩

theorem back_any (a b : Str) {w : World} (hg : Gd w) : Gives 9 #[.string (ba a), .string (ba b)] w (.bool true) := by
  cases h : fewB [a, b] with
  | false => exact back_big h hg
  | true =>
    cases hpa : a.all plainB with
    | false => exact back_no h (Or.inl hpa) hg
    | true =>
      cases hpb : b.all plainB with
      | false => exact back_no h (Or.inr hpb) hg
      | true => exact back_yes h hpa hpb hg

end Go.Proofs.YtcmafidnaojkiaaGreatDoor
