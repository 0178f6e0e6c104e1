/-
  ModOrder: Compare is an order of all texts.
-/
import Derived.Test.YtcmafidnaojkiaaGreatDoorBack
namespace Go.Proofs.YtcmafidnaojkiaaGreatDoor
open Go.RowKit

theorem order_big {a b c : Str} (h : fewB [a, b, c] = false) {w : World} (hg : Gd w) : Gives 3 #[.string (ba a), .string (ba b), .string (ba c)] w (.bool true) := by
  unfold Gives
  have H := hide h
  clear h
  go_enter Tryz.func3, Tryz.ntmps3
  go_wp2_with (go_at_call 13; fail)
  refine (first_any hg).mono ?_
  rintro e w1 ⟨rfl, b1⟩
  go_wp2_with (go_at_call 14; fail)
  refine (few_is (ps := [a, b, c]) (unhide H) (by simp) (texts_new w1 [a, b, c])).mono ?_
  rintro e w2 ⟨rfl, hw⟩
  rw [hw]
  go_wp2
  go_ret
  exact ⟨rfl, b1.alloc b1.size _⟩

theorem max_is {a b m : Str} (h : maxV a b = m) {w : World} (hg : Gd w) : Gives 17 #[.string (ba a), .string (ba b)] w (.string (ba m)) := by rw [← h]; exact max_any hg

/-- What the law asks of the order. -/
theorem order_facts (a b c : Str) : ∃ x y z : Int, cmpV a b = x ∧ cmpV b c = y ∧ cmpV a c = z ∧ cmpV b a = -x ∧ cmpV a a = 0 ∧ (-1 ≤ x ∧ x ≤ 1) ∧ (x ≤ 0 → y ≤ 0 → z ≤ 0 ∧ (z < 0 ∨ x = 0 ∧ y = 0)) ∧ ((x == 0) = (a == b)) ∧ ((parseV a).isSome = true → (parseV b).isSome = false → x = 1) := by
  have o := orders_v
  refine ⟨_, _, _, rfl, rfl, rfl, o.turn a b, o.self a, ?_, ?_, ?_, ?_⟩
  · rcases o.three a b with h | h | h <;> omega
  · intro hx hy
    rcases o.three a b with h | h | h
    · rcases o.three b c with k | k | k
      · have := o.lt a b c (by omega) (by omega); omega
      · have e := (o.eq b c).1 k; rw [← e]; omega
      · omega
    · have e := (o.eq a b).1 h
      rcases o.three b c with k | k | k
      · rw [e] at *; omega
      · have e2 := (o.eq b c).1 k; rw [e, ← e2, o.self]; have := o.self b; omega
      · omega
    · omega
  · rw [Bool.eq_iff_iff]; simp only [beq_iff_eq]; exact o.eq a b
  · intro h1 h2
    unfold cmpV
    cases ha : parseV a with
    | none => rw [ha] at h1; cases h1
    | some x =>
      cases hb : parseV b with
      | none => rfl
      | some y => rw [hb] at h2; cases h2

/-! ### walks -/

set_option maxHeartbeats 2000000 in
theorem order_A_false_None {a b c : Str} {y z : Int} (h : fewB [a, b, c] = true) (hx : cmpV a b = 1) (hy : cmpV b c = y) (hz : cmpV a c = z) (ht : cmpV b a = -(1)) (hs : cmpV a a = 0) (hs2 : cmpV b b = 0) (hab : (a == b) = false)
    (hva : (parseV a).isSome = false) (hm : maxV a b = a) {w : World} (hg : Gd w) : Gives 3 #[.string (ba a), .string (ba b), .string (ba c)] w (.bool true) := by
  unfold Gives
  have l1 := ba_list a
  have l2 := ba_list b
  have hba : (b == a) = false := by rw [← hab, Bool.eq_iff_iff]; simp only [beq_iff_eq]; exact eq_comm
  have H := hide h
  have HX := hide hx
  have HY := hide hy
  have HZ := hide hz
  have HT := hide ht
  have HS := hide hs
  have HS2 := hide hs2
  have HVA := hide hva
  have HM := hide hm
  clear h hx hy hz ht hs hs2 hva hm
  go_enter Tryz.func3, Tryz.ntmps3
  go_wp2_with (go_at_call 13; fail)
  refine (first_any hg).mono ?_
  rintro e w1 ⟨rfl, b1⟩
  go_wp2_with (go_at_call 14; fail)
  refine (few_is (ps := [a, b, c]) (unhide H) (by simp) (texts_new w1 [a, b, c])).mono ?_
  rintro e w2 ⟨rfl, hw⟩
  have b2 : Below w.heap.size w w2 := by rw [hw]; exact b1.alloc b1.size _
  clear hw b1
  go_wp2_with (go_at_call 15; fail)
  refine (cmp_is (unhide HX) (hg.below b2)).mono ?_
  rintro e w3 ⟨rfl, b3⟩
  have b3 := b2.trans (b3.mono b2.size)
  clear b2
  go_wp2_with (go_at_call 15; fail)
  refine (cmp_is (unhide HY) (hg.below b3)).mono ?_
  rintro e w4 ⟨rfl, b4⟩
  have b4 := b3.trans (b4.mono b3.size)
  clear b3
  go_wp2_with (go_at_call 15; fail)
  refine (cmp_is (unhide HZ) (hg.below b4)).mono ?_
  rintro e w5 ⟨rfl, b5⟩
  have b5 := b4.trans (b5.mono b4.size)
  clear b4
  go_wp2_with (go_at_call 15; fail)
  refine (cmp_is (unhide HT) (hg.below b5)).mono ?_
  rintro e w6 ⟨rfl, b6⟩
  have b6 := b5.trans (b6.mono b5.size)
  clear b5
  go_wp2_with (go_at_call 15; fail)
  refine (cmp_is (unhide HS) (hg.below b6)).mono ?_
  rintro e w7 ⟨rfl, b7⟩
  have b7 := b6.trans (b7.mono b6.size)
  clear b6
  go_wp2_with (go_at_call 16; fail)
  refine (valid_is (unhide HVA) (hg.below b7)).mono ?_
  rintro e w8 ⟨rfl, b8⟩
  have b8 := b7.trans (b8.mono b7.size)
  clear b7
  go_wp2_with (go_at_call 17; fail)
  refine (max_is (unhide HM) (hg.below b8)).mono ?_
  rintro e w9 ⟨rfl, b9⟩
  have b9 := b8.trans (b9.mono b8.size)
  clear b8
  go_wp2_with (go_at_call 15; fail)
  refine (cmp_is (unhide HS) (hg.below b9)).mono ?_
  rintro e w10 ⟨rfl, b10⟩
  have b10 := b9.trans (b10.mono b9.size)
  clear b9
  go_wp2_with (go_at_call 15; fail)
  refine (cmp_is (unhide HX) (hg.below b10)).mono ?_
  rintro e w11 ⟨rfl, b11⟩
  have b11 := b10.trans (b11.mono b10.size)
  clear b10
  go_wp2
  go_ret
  exact ⟨rfl, b11⟩

set_option maxHeartbeats 2000000 in
theorem order_A_true_true {a b c : Str} {y z : Int} (h : fewB [a, b, c] = true) (hx : cmpV a b = 1) (hy : cmpV b c = y) (hz : cmpV a c = z) (ht : cmpV b a = -(1)) (hs : cmpV a a = 0) (hs2 : cmpV b b = 0) (hab : (a == b) = false)
    (hva : (parseV a).isSome = true) (hvb : (parseV b).isSome = true) (hm : maxV a b = a) {w : World} (hg : Gd w) : Gives 3 #[.string (ba a), .string (ba b), .string (ba c)] w (.bool true) := by
  unfold Gives
  have l1 := ba_list a
  have l2 := ba_list b
  have hba : (b == a) = false := by rw [← hab, Bool.eq_iff_iff]; simp only [beq_iff_eq]; exact eq_comm
  have H := hide h
  have HX := hide hx
  have HY := hide hy
  have HZ := hide hz
  have HT := hide ht
  have HS := hide hs
  have HS2 := hide hs2
  have HVA := hide hva
  have HVB := hide hvb
  have HM := hide hm
  clear h hx hy hz ht hs hs2 hva hvb hm
  go_enter Tryz.func3, Tryz.ntmps3
  go_wp2_with (go_at_call 13; fail)
  refine (first_any hg).mono ?_
  rintro e w1 ⟨rfl, b1⟩
  go_wp2_with (go_at_call 14; fail)
  refine (few_is (ps := [a, b, c]) (unhide H) (by simp) (texts_new w1 [a, b, c])).mono ?_
  rintro e w2 ⟨rfl, hw⟩
  have b2 : Below w.heap.size w w2 := by rw [hw]; exact b1.alloc b1.size _
  clear hw b1
  go_wp2_with (go_at_call 15; fail)
  refine (cmp_is (unhide HX) (hg.below b2)).mono ?_
  rintro e w3 ⟨rfl, b3⟩
  have b3 := b2.trans (b3.mono b2.size)
  clear b2
  go_wp2_with (go_at_call 15; fail)
  refine (cmp_is (unhide HY) (hg.below b3)).mono ?_
  rintro e w4 ⟨rfl, b4⟩
  have b4 := b3.trans (b4.mono b3.size)
  clear b3
  go_wp2_with (go_at_call 15; fail)
  refine (cmp_is (unhide HZ) (hg.below b4)).mono ?_
  rintro e w5 ⟨rfl, b5⟩
  have b5 := b4.trans (b5.mono b4.size)
  clear b4
  go_wp2_with (go_at_call 15; fail)
  refine (cmp_is (unhide HT) (hg.below b5)).mono ?_
  rintro e w6 ⟨rfl, b6⟩
  have b6 := b5.trans (b6.mono b5.size)
  clear b5
  go_wp2_with (go_at_call 15; fail)
  refine (cmp_is (unhide HS) (hg.below b6)).mono ?_
  rintro e w7 ⟨rfl, b7⟩
  have b7 := b6.trans (b7.mono b6.size)
  clear b6
  go_wp2_with (go_at_call 16; fail)
  refine (valid_is (unhide HVA) (hg.below b7)).mono ?_
  rintro e w8 ⟨rfl, b8⟩
  have b8 := b7.trans (b8.mono b7.size)
  clear b7
  go_wp2_with (go_at_call 16; fail)
  refine (valid_is (unhide HVB) (hg.below b8)).mono ?_
  rintro e w9 ⟨rfl, b9⟩
  have b9 := b8.trans (b9.mono b8.size)
  clear b8
  go_wp2_with (go_at_call 17; fail)
  refine (max_is (unhide HM) (hg.below b9)).mono ?_
  rintro e w10 ⟨rfl, b10⟩
  have b10 := b9.trans (b10.mono b9.size)
  clear b9
  go_wp2_with (go_at_call 15; fail)
  refine (cmp_is (unhide HS) (hg.below b10)).mono ?_
  rintro e w11 ⟨rfl, b11⟩
  have b11 := b10.trans (b11.mono b10.size)
  clear b10
  go_wp2_with (go_at_call 15; fail)
  refine (cmp_is (unhide HX) (hg.below b11)).mono ?_
  rintro e w12 ⟨rfl, b12⟩
  have b12 := b11.trans (b12.mono b11.size)
  clear b11
  go_wp2
  go_ret
  exact ⟨rfl, b12⟩

set_option maxHeartbeats 2000000 in
theorem order_A_true_false {a b c : Str} {y z : Int} (h : fewB [a, b, c] = true) (hx : cmpV a b = 1) (hy : cmpV b c = y) (hz : cmpV a c = z) (ht : cmpV b a = -(1)) (hs : cmpV a a = 0) (hs2 : cmpV b b = 0) (hab : (a == b) = false)
    (hva : (parseV a).isSome = true) (hvb : (parseV b).isSome = false) (hm : maxV a b = a) {w : World} (hg : Gd w) : Gives 3 #[.string (ba a), .string (ba b), .string (ba c)] w (.bool true) := by
  unfold Gives
  have l1 := ba_list a
  have l2 := ba_list b
  have hba : (b == a) = false := by rw [← hab, Bool.eq_iff_iff]; simp only [beq_iff_eq]; exact eq_comm
  have H := hide h
  have HX := hide hx
  have HY := hide hy
  have HZ := hide hz
  have HT := hide ht
  have HS := hide hs
  have HS2 := hide hs2
  have HVA := hide hva
  have HVB := hide hvb
  have HM := hide hm
  clear h hx hy hz ht hs hs2 hva hvb hm
  go_enter Tryz.func3, Tryz.ntmps3
  go_wp2_with (go_at_call 13; fail)
  refine (first_any hg).mono ?_
  rintro e w1 ⟨rfl, b1⟩
  go_wp2_with (go_at_call 14; fail)
  refine (few_is (ps := [a, b, c]) (unhide H) (by simp) (texts_new w1 [a, b, c])).mono ?_
  rintro e w2 ⟨rfl, hw⟩
  have b2 : Below w.heap.size w w2 := by rw [hw]; exact b1.alloc b1.size _
  clear hw b1
  go_wp2_with (go_at_call 15; fail)
  refine (cmp_is (unhide HX) (hg.below b2)).mono ?_
  rintro e w3 ⟨rfl, b3⟩
  have b3 := b2.trans (b3.mono b2.size)
  clear b2
  go_wp2_with (go_at_call 15; fail)
  refine (cmp_is (unhide HY) (hg.below b3)).mono ?_
  rintro e w4 ⟨rfl, b4⟩
  have b4 := b3.trans (b4.mono b3.size)
  clear b3
  go_wp2_with (go_at_call 15; fail)
  refine (cmp_is (unhide HZ) (hg.below b4)).mono ?_
  rintro e w5 ⟨rfl, b5⟩
  have b5 := b4.trans (b5.mono b4.size)
  clear b4
  go_wp2_with (go_at_call 15; fail)
  refine (cmp_is (unhide HT) (hg.below b5)).mono ?_
  rintro e w6 ⟨rfl, b6⟩
  have b6 := b5.trans (b6.mono b5.size)
  clear b5
  go_wp2_with (go_at_call 15; fail)
  refine (cmp_is (unhide HS) (hg.below b6)).mono ?_
  rintro e w7 ⟨rfl, b7⟩
  have b7 := b6.trans (b7.mono b6.size)
  clear b6
  go_wp2_with (go_at_call 16; fail)
  refine (valid_is (unhide HVA) (hg.below b7)).mono ?_
  rintro e w8 ⟨rfl, b8⟩
  have b8 := b7.trans (b8.mono b7.size)
  clear b7
  go_wp2_with (go_at_call 16; fail)
  refine (valid_is (unhide HVB) (hg.below b8)).mono ?_
  rintro e w9 ⟨rfl, b9⟩
  have b9 := b8.trans (b9.mono b8.size)
  clear b8
  go_wp2_with (go_at_call 17; fail)
  refine (max_is (unhide HM) (hg.below b9)).mono ?_
  rintro e w10 ⟨rfl, b10⟩
  have b10 := b9.trans (b10.mono b9.size)
  clear b9
  go_wp2_with (go_at_call 15; fail)
  refine (cmp_is (unhide HS) (hg.below b10)).mono ?_
  rintro e w11 ⟨rfl, b11⟩
  have b11 := b10.trans (b11.mono b10.size)
  clear b10
  go_wp2_with (go_at_call 15; fail)
  refine (cmp_is (unhide HX) (hg.below b11)).mono ?_
  rintro e w12 ⟨rfl, b12⟩
  have b12 := b11.trans (b12.mono b11.size)
  clear b11
  go_wp2
  go_ret
  exact ⟨rfl, b12⟩

set_option maxHeartbeats 2000000 in
theorem order_Bn_false {a b c : Str} {y z : Int} (h : fewB [a, b, c] = true) (hx : cmpV a b = -1) (hy : cmpV b c = y) (hz : cmpV a c = z) (ht : cmpV b a = -(-1)) (hs : cmpV a a = 0) (hs2 : cmpV b b = 0) (hy1 : 0 < y) (hab : (a == b) = false)
    (hva : (parseV a).isSome = false) (hm : maxV a b = b) {w : World} (hg : Gd w) : Gives 3 #[.string (ba a), .string (ba b), .string (ba c)] w (.bool true) := by
  unfold Gives
  have l1 := ba_list a
  have l2 := ba_list b
  have hba : (b == a) = false := by rw [← hab, Bool.eq_iff_iff]; simp only [beq_iff_eq]; exact eq_comm
  have H := hide h
  have HX := hide hx
  have HY := hide hy
  have HZ := hide hz
  have HT := hide ht
  have HS := hide hs
  have HS2 := hide hs2
  have HVA := hide hva
  have HM := hide hm
  clear h hx hy hz ht hs hs2 hva hm
  go_enter Tryz.func3, Tryz.ntmps3
  go_wp2_with (go_at_call 13; fail)
  refine (first_any hg).mono ?_
  rintro e w1 ⟨rfl, b1⟩
  go_wp2_with (go_at_call 14; fail)
  refine (few_is (ps := [a, b, c]) (unhide H) (by simp) (texts_new w1 [a, b, c])).mono ?_
  rintro e w2 ⟨rfl, hw⟩
  have b2 : Below w.heap.size w w2 := by rw [hw]; exact b1.alloc b1.size _
  clear hw b1
  go_wp2_with (go_at_call 15; fail)
  refine (cmp_is (unhide HX) (hg.below b2)).mono ?_
  rintro e w3 ⟨rfl, b3⟩
  have b3 := b2.trans (b3.mono b2.size)
  clear b2
  go_wp2_with (go_at_call 15; fail)
  refine (cmp_is (unhide HY) (hg.below b3)).mono ?_
  rintro e w4 ⟨rfl, b4⟩
  have b4 := b3.trans (b4.mono b3.size)
  clear b3
  go_wp2_with (go_at_call 15; fail)
  refine (cmp_is (unhide HZ) (hg.below b4)).mono ?_
  rintro e w5 ⟨rfl, b5⟩
  have b5 := b4.trans (b5.mono b4.size)
  clear b4
  go_wp2_with (go_at_call 15; fail)
  refine (cmp_is (unhide HT) (hg.below b5)).mono ?_
  rintro e w6 ⟨rfl, b6⟩
  have b6 := b5.trans (b6.mono b5.size)
  clear b5
  go_wp2_with (go_at_call 15; fail)
  refine (cmp_is (unhide HS) (hg.below b6)).mono ?_
  rintro e w7 ⟨rfl, b7⟩
  have b7 := b6.trans (b7.mono b6.size)
  clear b6
  go_wp2_with (go_at_call 16; fail)
  refine (valid_is (unhide HVA) (hg.below b7)).mono ?_
  rintro e w8 ⟨rfl, b8⟩
  have b8 := b7.trans (b8.mono b7.size)
  clear b7
  go_wp2_with (go_at_call 17; fail)
  refine (max_is (unhide HM) (hg.below b8)).mono ?_
  rintro e w9 ⟨rfl, b9⟩
  have b9 := b8.trans (b9.mono b8.size)
  clear b8
  go_wp2_with (go_at_call 15; fail)
  refine (cmp_is (unhide HT) (hg.below b9)).mono ?_
  rintro e w10 ⟨rfl, b10⟩
  have b10 := b9.trans (b10.mono b9.size)
  clear b9
  go_wp2_with (go_at_call 15; fail)
  refine (cmp_is (unhide HS2) (hg.below b10)).mono ?_
  rintro e w11 ⟨rfl, b11⟩
  have b11 := b10.trans (b11.mono b10.size)
  clear b10
  go_wp2
  go_ret
  exact ⟨rfl, b11⟩

set_option maxHeartbeats 2000000 in
theorem order_Cn_false {a b c : Str} {y z : Int} (h : fewB [a, b, c] = true) (hx : cmpV a b = -1) (hy : cmpV b c = y) (hz : cmpV a c = z) (ht : cmpV b a = -(-1)) (hs : cmpV a a = 0) (hs2 : cmpV b b = 0) (hy0 : y ≤ 0) (hz1 : z < 0) (hab : (a == b) = false)
    (hva : (parseV a).isSome = false) (hm : maxV a b = b) {w : World} (hg : Gd w) : Gives 3 #[.string (ba a), .string (ba b), .string (ba c)] w (.bool true) := by
  unfold Gives
  have l1 := ba_list a
  have l2 := ba_list b
  have hba : (b == a) = false := by rw [← hab, Bool.eq_iff_iff]; simp only [beq_iff_eq]; exact eq_comm
  have H := hide h
  have HX := hide hx
  have HY := hide hy
  have HZ := hide hz
  have HT := hide ht
  have HS := hide hs
  have HS2 := hide hs2
  have HVA := hide hva
  have HM := hide hm
  clear h hx hy hz ht hs hs2 hva hm
  go_enter Tryz.func3, Tryz.ntmps3
  go_wp2_with (go_at_call 13; fail)
  refine (first_any hg).mono ?_
  rintro e w1 ⟨rfl, b1⟩
  go_wp2_with (go_at_call 14; fail)
  refine (few_is (ps := [a, b, c]) (unhide H) (by simp) (texts_new w1 [a, b, c])).mono ?_
  rintro e w2 ⟨rfl, hw⟩
  have b2 : Below w.heap.size w w2 := by rw [hw]; exact b1.alloc b1.size _
  clear hw b1
  go_wp2_with (go_at_call 15; fail)
  refine (cmp_is (unhide HX) (hg.below b2)).mono ?_
  rintro e w3 ⟨rfl, b3⟩
  have b3 := b2.trans (b3.mono b2.size)
  clear b2
  go_wp2_with (go_at_call 15; fail)
  refine (cmp_is (unhide HY) (hg.below b3)).mono ?_
  rintro e w4 ⟨rfl, b4⟩
  have b4 := b3.trans (b4.mono b3.size)
  clear b3
  go_wp2_with (go_at_call 15; fail)
  refine (cmp_is (unhide HZ) (hg.below b4)).mono ?_
  rintro e w5 ⟨rfl, b5⟩
  have b5 := b4.trans (b5.mono b4.size)
  clear b4
  go_wp2_with (go_at_call 15; fail)
  refine (cmp_is (unhide HT) (hg.below b5)).mono ?_
  rintro e w6 ⟨rfl, b6⟩
  have b6 := b5.trans (b6.mono b5.size)
  clear b5
  go_wp2_with (go_at_call 15; fail)
  refine (cmp_is (unhide HS) (hg.below b6)).mono ?_
  rintro e w7 ⟨rfl, b7⟩
  have b7 := b6.trans (b7.mono b6.size)
  clear b6
  go_wp2_with (go_at_call 16; fail)
  refine (valid_is (unhide HVA) (hg.below b7)).mono ?_
  rintro e w8 ⟨rfl, b8⟩
  have b8 := b7.trans (b8.mono b7.size)
  clear b7
  go_wp2_with (go_at_call 17; fail)
  refine (max_is (unhide HM) (hg.below b8)).mono ?_
  rintro e w9 ⟨rfl, b9⟩
  have b9 := b8.trans (b9.mono b8.size)
  clear b8
  go_wp2_with (go_at_call 15; fail)
  refine (cmp_is (unhide HT) (hg.below b9)).mono ?_
  rintro e w10 ⟨rfl, b10⟩
  have b10 := b9.trans (b10.mono b9.size)
  clear b9
  go_wp2_with (go_at_call 15; fail)
  refine (cmp_is (unhide HS2) (hg.below b10)).mono ?_
  rintro e w11 ⟨rfl, b11⟩
  have b11 := b10.trans (b11.mono b10.size)
  clear b10
  go_wp2
  go_ret
  exact ⟨rfl, b11⟩

set_option maxHeartbeats 2000000 in
theorem order_Bn_true {a b c : Str} {y z : Int} (h : fewB [a, b, c] = true) (hx : cmpV a b = -1) (hy : cmpV b c = y) (hz : cmpV a c = z) (ht : cmpV b a = -(-1)) (hs : cmpV a a = 0) (hs2 : cmpV b b = 0) (hy1 : 0 < y) (hab : (a == b) = false)
    (hva : (parseV a).isSome = true) (hvb : (parseV b).isSome = true) (hm : maxV a b = b) {w : World} (hg : Gd w) : Gives 3 #[.string (ba a), .string (ba b), .string (ba c)] w (.bool true) := by
  unfold Gives
  have l1 := ba_list a
  have l2 := ba_list b
  have hba : (b == a) = false := by rw [← hab, Bool.eq_iff_iff]; simp only [beq_iff_eq]; exact eq_comm
  have H := hide h
  have HX := hide hx
  have HY := hide hy
  have HZ := hide hz
  have HT := hide ht
  have HS := hide hs
  have HS2 := hide hs2
  have HVA := hide hva
  have HVB := hide hvb
  have HM := hide hm
  clear h hx hy hz ht hs hs2 hva hvb hm
  go_enter Tryz.func3, Tryz.ntmps3
  go_wp2_with (go_at_call 13; fail)
  refine (first_any hg).mono ?_
  rintro e w1 ⟨rfl, b1⟩
  go_wp2_with (go_at_call 14; fail)
  refine (few_is (ps := [a, b, c]) (unhide H) (by simp) (texts_new w1 [a, b, c])).mono ?_
  rintro e w2 ⟨rfl, hw⟩
  have b2 : Below w.heap.size w w2 := by rw [hw]; exact b1.alloc b1.size _
  clear hw b1
  go_wp2_with (go_at_call 15; fail)
  refine (cmp_is (unhide HX) (hg.below b2)).mono ?_
  rintro e w3 ⟨rfl, b3⟩
  have b3 := b2.trans (b3.mono b2.size)
  clear b2
  go_wp2_with (go_at_call 15; fail)
  refine (cmp_is (unhide HY) (hg.below b3)).mono ?_
  rintro e w4 ⟨rfl, b4⟩
  have b4 := b3.trans (b4.mono b3.size)
  clear b3
  go_wp2_with (go_at_call 15; fail)
  refine (cmp_is (unhide HZ) (hg.below b4)).mono ?_
  rintro e w5 ⟨rfl, b5⟩
  have b5 := b4.trans (b5.mono b4.size)
  clear b4
  go_wp2_with (go_at_call 15; fail)
  refine (cmp_is (unhide HT) (hg.below b5)).mono ?_
  rintro e w6 ⟨rfl, b6⟩
  have b6 := b5.trans (b6.mono b5.size)
  clear b5
  go_wp2_with (go_at_call 15; fail)
  refine (cmp_is (unhide HS) (hg.below b6)).mono ?_
  rintro e w7 ⟨rfl, b7⟩
  have b7 := b6.trans (b7.mono b6.size)
  clear b6
  go_wp2_with (go_at_call 16; fail)
  refine (valid_is (unhide HVA) (hg.below b7)).mono ?_
  rintro e w8 ⟨rfl, b8⟩
  have b8 := b7.trans (b8.mono b7.size)
  clear b7
  go_wp2_with (go_at_call 16; fail)
  refine (valid_is (unhide HVB) (hg.below b8)).mono ?_
  rintro e w9 ⟨rfl, b9⟩
  have b9 := b8.trans (b9.mono b8.size)
  clear b8
  go_wp2_with (go_at_call 17; fail)
  refine (max_is (unhide HM) (hg.below b9)).mono ?_
  rintro e w10 ⟨rfl, b10⟩
  have b10 := b9.trans (b10.mono b9.size)
  clear b9
  go_wp2_with (go_at_call 15; fail)
  refine (cmp_is (unhide HT) (hg.below b10)).mono ?_
  rintro e w11 ⟨rfl, b11⟩
  have b11 := b10.trans (b11.mono b10.size)
  clear b10
  go_wp2_with (go_at_call 15; fail)
  refine (cmp_is (unhide HS2) (hg.below b11)).mono ?_
  rintro e w12 ⟨rfl, b12⟩
  have b12 := b11.trans (b12.mono b11.size)
  clear b11
  go_wp2
  go_ret
  exact ⟨rfl, b12⟩

set_option maxHeartbeats 2000000 in
theorem order_Cn_true {a b c : Str} {y z : Int} (h : fewB [a, b, c] = true) (hx : cmpV a b = -1) (hy : cmpV b c = y) (hz : cmpV a c = z) (ht : cmpV b a = -(-1)) (hs : cmpV a a = 0) (hs2 : cmpV b b = 0) (hy0 : y ≤ 0) (hz1 : z < 0) (hab : (a == b) = false)
    (hva : (parseV a).isSome = true) (hvb : (parseV b).isSome = true) (hm : maxV a b = b) {w : World} (hg : Gd w) : Gives 3 #[.string (ba a), .string (ba b), .string (ba c)] w (.bool true) := by
  unfold Gives
  have l1 := ba_list a
  have l2 := ba_list b
  have hba : (b == a) = false := by rw [← hab, Bool.eq_iff_iff]; simp only [beq_iff_eq]; exact eq_comm
  have H := hide h
  have HX := hide hx
  have HY := hide hy
  have HZ := hide hz
  have HT := hide ht
  have HS := hide hs
  have HS2 := hide hs2
  have HVA := hide hva
  have HVB := hide hvb
  have HM := hide hm
  clear h hx hy hz ht hs hs2 hva hvb hm
  go_enter Tryz.func3, Tryz.ntmps3
  go_wp2_with (go_at_call 13; fail)
  refine (first_any hg).mono ?_
  rintro e w1 ⟨rfl, b1⟩
  go_wp2_with (go_at_call 14; fail)
  refine (few_is (ps := [a, b, c]) (unhide H) (by simp) (texts_new w1 [a, b, c])).mono ?_
  rintro e w2 ⟨rfl, hw⟩
  have b2 : Below w.heap.size w w2 := by rw [hw]; exact b1.alloc b1.size _
  clear hw b1
  go_wp2_with (go_at_call 15; fail)
  refine (cmp_is (unhide HX) (hg.below b2)).mono ?_
  rintro e w3 ⟨rfl, b3⟩
  have b3 := b2.trans (b3.mono b2.size)
  clear b2
  go_wp2_with (go_at_call 15; fail)
  refine (cmp_is (unhide HY) (hg.below b3)).mono ?_
  rintro e w4 ⟨rfl, b4⟩
  have b4 := b3.trans (b4.mono b3.size)
  clear b3
  go_wp2_with (go_at_call 15; fail)
  refine (cmp_is (unhide HZ) (hg.below b4)).mono ?_
  rintro e w5 ⟨rfl, b5⟩
  have b5 := b4.trans (b5.mono b4.size)
  clear b4
  go_wp2_with (go_at_call 15; fail)
  refine (cmp_is (unhide HT) (hg.below b5)).mono ?_
  rintro e w6 ⟨rfl, b6⟩
  have b6 := b5.trans (b6.mono b5.size)
  clear b5
  go_wp2_with (go_at_call 15; fail)
  refine (cmp_is (unhide HS) (hg.below b6)).mono ?_
  rintro e w7 ⟨rfl, b7⟩
  have b7 := b6.trans (b7.mono b6.size)
  clear b6
  go_wp2_with (go_at_call 16; fail)
  refine (valid_is (unhide HVA) (hg.below b7)).mono ?_
  rintro e w8 ⟨rfl, b8⟩
  have b8 := b7.trans (b8.mono b7.size)
  clear b7
  go_wp2_with (go_at_call 16; fail)
  refine (valid_is (unhide HVB) (hg.below b8)).mono ?_
  rintro e w9 ⟨rfl, b9⟩
  have b9 := b8.trans (b9.mono b8.size)
  clear b8
  go_wp2_with (go_at_call 17; fail)
  refine (max_is (unhide HM) (hg.below b9)).mono ?_
  rintro e w10 ⟨rfl, b10⟩
  have b10 := b9.trans (b10.mono b9.size)
  clear b9
  go_wp2_with (go_at_call 15; fail)
  refine (cmp_is (unhide HT) (hg.below b10)).mono ?_
  rintro e w11 ⟨rfl, b11⟩
  have b11 := b10.trans (b11.mono b10.size)
  clear b10
  go_wp2_with (go_at_call 15; fail)
  refine (cmp_is (unhide HS2) (hg.below b11)).mono ?_
  rintro e w12 ⟨rfl, b12⟩
  have b12 := b11.trans (b12.mono b11.size)
  clear b11
  go_wp2
  go_ret
  exact ⟨rfl, b12⟩

set_option maxHeartbeats 2000000 in
theorem order_Bz_false {a b c : Str} {y z : Int} (h : fewB [a, b, c] = true) (hx : cmpV a b = 0) (hy : cmpV b c = y) (hz : cmpV a c = z) (ht : cmpV b a = -(0)) (hs : cmpV a a = 0) (hs2 : cmpV b b = 0) (hy1 : 0 < y) (hab : (a == b) = true)
    (hva : (parseV a).isSome = false) (hm : maxV a b = a) {w : World} (hg : Gd w) : Gives 3 #[.string (ba a), .string (ba b), .string (ba c)] w (.bool true) := by
  unfold Gives
  have l1 := ba_list a
  have l2 := ba_list b
  have hba : (b == a) = true := by rw [← hab, Bool.eq_iff_iff]; simp only [beq_iff_eq]; exact eq_comm
  have H := hide h
  have HX := hide hx
  have HY := hide hy
  have HZ := hide hz
  have HT := hide ht
  have HS := hide hs
  have HS2 := hide hs2
  have HVA := hide hva
  have HM := hide hm
  clear h hx hy hz ht hs hs2 hva hm
  go_enter Tryz.func3, Tryz.ntmps3
  go_wp2_with (go_at_call 13; fail)
  refine (first_any hg).mono ?_
  rintro e w1 ⟨rfl, b1⟩
  go_wp2_with (go_at_call 14; fail)
  refine (few_is (ps := [a, b, c]) (unhide H) (by simp) (texts_new w1 [a, b, c])).mono ?_
  rintro e w2 ⟨rfl, hw⟩
  have b2 : Below w.heap.size w w2 := by rw [hw]; exact b1.alloc b1.size _
  clear hw b1
  go_wp2_with (go_at_call 15; fail)
  refine (cmp_is (unhide HX) (hg.below b2)).mono ?_
  rintro e w3 ⟨rfl, b3⟩
  have b3 := b2.trans (b3.mono b2.size)
  clear b2
  go_wp2_with (go_at_call 15; fail)
  refine (cmp_is (unhide HY) (hg.below b3)).mono ?_
  rintro e w4 ⟨rfl, b4⟩
  have b4 := b3.trans (b4.mono b3.size)
  clear b3
  go_wp2_with (go_at_call 15; fail)
  refine (cmp_is (unhide HZ) (hg.below b4)).mono ?_
  rintro e w5 ⟨rfl, b5⟩
  have b5 := b4.trans (b5.mono b4.size)
  clear b4
  go_wp2_with (go_at_call 15; fail)
  refine (cmp_is (unhide HT) (hg.below b5)).mono ?_
  rintro e w6 ⟨rfl, b6⟩
  have b6 := b5.trans (b6.mono b5.size)
  clear b5
  go_wp2_with (go_at_call 15; fail)
  refine (cmp_is (unhide HS) (hg.below b6)).mono ?_
  rintro e w7 ⟨rfl, b7⟩
  have b7 := b6.trans (b7.mono b6.size)
  clear b6
  go_wp2_with (go_at_call 16; fail)
  refine (valid_is (unhide HVA) (hg.below b7)).mono ?_
  rintro e w8 ⟨rfl, b8⟩
  have b8 := b7.trans (b8.mono b7.size)
  clear b7
  go_wp2_with (go_at_call 17; fail)
  refine (max_is (unhide HM) (hg.below b8)).mono ?_
  rintro e w9 ⟨rfl, b9⟩
  have b9 := b8.trans (b9.mono b8.size)
  clear b8
  go_wp2_with (go_at_call 15; fail)
  refine (cmp_is (unhide HS) (hg.below b9)).mono ?_
  rintro e w10 ⟨rfl, b10⟩
  have b10 := b9.trans (b10.mono b9.size)
  clear b9
  go_wp2_with (go_at_call 15; fail)
  refine (cmp_is (unhide HX) (hg.below b10)).mono ?_
  rintro e w11 ⟨rfl, b11⟩
  have b11 := b10.trans (b11.mono b10.size)
  clear b10
  go_wp2
  go_ret
  exact ⟨rfl, b11⟩

set_option maxHeartbeats 2000000 in
theorem order_Cz_false {a b c : Str} {y z : Int} (h : fewB [a, b, c] = true) (hx : cmpV a b = 0) (hy : cmpV b c = y) (hz : cmpV a c = z) (ht : cmpV b a = -(0)) (hs : cmpV a a = 0) (hs2 : cmpV b b = 0) (hy0 : y ≤ 0) (hz1 : z < 0) (hab : (a == b) = true)
    (hva : (parseV a).isSome = false) (hm : maxV a b = a) {w : World} (hg : Gd w) : Gives 3 #[.string (ba a), .string (ba b), .string (ba c)] w (.bool true) := by
  unfold Gives
  have l1 := ba_list a
  have l2 := ba_list b
  have hba : (b == a) = true := by rw [← hab, Bool.eq_iff_iff]; simp only [beq_iff_eq]; exact eq_comm
  have H := hide h
  have HX := hide hx
  have HY := hide hy
  have HZ := hide hz
  have HT := hide ht
  have HS := hide hs
  have HS2 := hide hs2
  have HVA := hide hva
  have HM := hide hm
  clear h hx hy hz ht hs hs2 hva hm
  go_enter Tryz.func3, Tryz.ntmps3
  go_wp2_with (go_at_call 13; fail)
  refine (first_any hg).mono ?_
  rintro e w1 ⟨rfl, b1⟩
  go_wp2_with (go_at_call 14; fail)
  refine (few_is (ps := [a, b, c]) (unhide H) (by simp) (texts_new w1 [a, b, c])).mono ?_
  rintro e w2 ⟨rfl, hw⟩
  have b2 : Below w.heap.size w w2 := by rw [hw]; exact b1.alloc b1.size _
  clear hw b1
  go_wp2_with (go_at_call 15; fail)
  refine (cmp_is (unhide HX) (hg.below b2)).mono ?_
  rintro e w3 ⟨rfl, b3⟩
  have b3 := b2.trans (b3.mono b2.size)
  clear b2
  go_wp2_with (go_at_call 15; fail)
  refine (cmp_is (unhide HY) (hg.below b3)).mono ?_
  rintro e w4 ⟨rfl, b4⟩
  have b4 := b3.trans (b4.mono b3.size)
  clear b3
  go_wp2_with (go_at_call 15; fail)
  refine (cmp_is (unhide HZ) (hg.below b4)).mono ?_
  rintro e w5 ⟨rfl, b5⟩
  have b5 := b4.trans (b5.mono b4.size)
  clear b4
  go_wp2_with (go_at_call 15; fail)
  refine (cmp_is (unhide HT) (hg.below b5)).mono ?_
  rintro e w6 ⟨rfl, b6⟩
  have b6 := b5.trans (b6.mono b5.size)
  clear b5
  go_wp2_with (go_at_call 15; fail)
  refine (cmp_is (unhide HS) (hg.below b6)).mono ?_
  rintro e w7 ⟨rfl, b7⟩
  have b7 := b6.trans (b7.mono b6.size)
  clear b6
  go_wp2_with (go_at_call 16; fail)
  refine (valid_is (unhide HVA) (hg.below b7)).mono ?_
  rintro e w8 ⟨rfl, b8⟩
  have b8 := b7.trans (b8.mono b7.size)
  clear b7
  go_wp2_with (go_at_call 17; fail)
  refine (max_is (unhide HM) (hg.below b8)).mono ?_
  rintro e w9 ⟨rfl, b9⟩
  have b9 := b8.trans (b9.mono b8.size)
  clear b8
  go_wp2_with (go_at_call 15; fail)
  refine (cmp_is (unhide HS) (hg.below b9)).mono ?_
  rintro e w10 ⟨rfl, b10⟩
  have b10 := b9.trans (b10.mono b9.size)
  clear b9
  go_wp2_with (go_at_call 15; fail)
  refine (cmp_is (unhide HX) (hg.below b10)).mono ?_
  rintro e w11 ⟨rfl, b11⟩
  have b11 := b10.trans (b11.mono b10.size)
  clear b10
  go_wp2
  go_ret
  exact ⟨rfl, b11⟩

set_option maxHeartbeats 2000000 in
theorem order_Bz_true {a b c : Str} {y z : Int} (h : fewB [a, b, c] = true) (hx : cmpV a b = 0) (hy : cmpV b c = y) (hz : cmpV a c = z) (ht : cmpV b a = -(0)) (hs : cmpV a a = 0) (hs2 : cmpV b b = 0) (hy1 : 0 < y) (hab : (a == b) = true)
    (hva : (parseV a).isSome = true) (hvb : (parseV b).isSome = true) (hm : maxV a b = a) {w : World} (hg : Gd w) : Gives 3 #[.string (ba a), .string (ba b), .string (ba c)] w (.bool true) := by
  unfold Gives
  have l1 := ba_list a
  have l2 := ba_list b
  have hba : (b == a) = true := by rw [← hab, Bool.eq_iff_iff]; simp only [beq_iff_eq]; exact eq_comm
  have H := hide h
  have HX := hide hx
  have HY := hide hy
  have HZ := hide hz
  have HT := hide ht
  have HS := hide hs
  have HS2 := hide hs2
  have HVA := hide hva
  have HVB := hide hvb
  have HM := hide hm
  clear h hx hy hz ht hs hs2 hva hvb hm
  go_enter Tryz.func3, Tryz.ntmps3
  go_wp2_with (go_at_call 13; fail)
  refine (first_any hg).mono ?_
  rintro e w1 ⟨rfl, b1⟩
  go_wp2_with (go_at_call 14; fail)
  refine (few_is (ps := [a, b, c]) (unhide H) (by simp) (texts_new w1 [a, b, c])).mono ?_
  rintro e w2 ⟨rfl, hw⟩
  have b2 : Below w.heap.size w w2 := by rw [hw]; exact b1.alloc b1.size _
  clear hw b1
  go_wp2_with (go_at_call 15; fail)
  refine (cmp_is (unhide HX) (hg.below b2)).mono ?_
  rintro e w3 ⟨rfl, b3⟩
  have b3 := b2.trans (b3.mono b2.size)
  clear b2
  go_wp2_with (go_at_call 15; fail)
  refine (cmp_is (unhide HY) (hg.below b3)).mono ?_
  rintro e w4 ⟨rfl, b4⟩
  have b4 := b3.trans (b4.mono b3.size)
  clear b3
  go_wp2_with (go_at_call 15; fail)
  refine (cmp_is (unhide HZ) (hg.below b4)).mono ?_
  rintro e w5 ⟨rfl, b5⟩
  have b5 := b4.trans (b5.mono b4.size)
  clear b4
  go_wp2_with (go_at_call 15; fail)
  refine (cmp_is (unhide HT) (hg.below b5)).mono ?_
  rintro e w6 ⟨rfl, b6⟩
  have b6 := b5.trans (b6.mono b5.size)
  clear b5
  go_wp2_with (go_at_call 15; fail)
  refine (cmp_is (unhide HS) (hg.below b6)).mono ?_
  rintro e w7 ⟨rfl, b7⟩
  have b7 := b6.trans (b7.mono b6.size)
  clear b6
  go_wp2_with (go_at_call 16; fail)
  refine (valid_is (unhide HVA) (hg.below b7)).mono ?_
  rintro e w8 ⟨rfl, b8⟩
  have b8 := b7.trans (b8.mono b7.size)
  clear b7
  go_wp2_with (go_at_call 16; fail)
  refine (valid_is (unhide HVB) (hg.below b8)).mono ?_
  rintro e w9 ⟨rfl, b9⟩
  have b9 := b8.trans (b9.mono b8.size)
  clear b8
  go_wp2_with (go_at_call 17; fail)
  refine (max_is (unhide HM) (hg.below b9)).mono ?_
  rintro e w10 ⟨rfl, b10⟩
  have b10 := b9.trans (b10.mono b9.size)
  clear b9
  go_wp2_with (go_at_call 15; fail)
  refine (cmp_is (unhide HS) (hg.below b10)).mono ?_
  rintro e w11 ⟨rfl, b11⟩
  have b11 := b10.trans (b11.mono b10.size)
  clear b10
  go_wp2_with (go_at_call 15; fail)
  refine (cmp_is (unhide HX) (hg.below b11)).mono ?_
  rintro e w12 ⟨rfl, b12⟩
  have b12 := b11.trans (b12.mono b11.size)
  clear b11
  go_wp2
  go_ret
  exact ⟨rfl, b12⟩

set_option maxHeartbeats 2000000 in
theorem order_Cz_true {a b c : Str} {y z : Int} (h : fewB [a, b, c] = true) (hx : cmpV a b = 0) (hy : cmpV b c = y) (hz : cmpV a c = z) (ht : cmpV b a = -(0)) (hs : cmpV a a = 0) (hs2 : cmpV b b = 0) (hy0 : y ≤ 0) (hz1 : z < 0) (hab : (a == b) = true)
    (hva : (parseV a).isSome = true) (hvb : (parseV b).isSome = true) (hm : maxV a b = a) {w : World} (hg : Gd w) : Gives 3 #[.string (ba a), .string (ba b), .string (ba c)] w (.bool true) := by
  unfold Gives
  have l1 := ba_list a
  have l2 := ba_list b
  have hba : (b == a) = true := by rw [← hab, Bool.eq_iff_iff]; simp only [beq_iff_eq]; exact eq_comm
  have H := hide h
  have HX := hide hx
  have HY := hide hy
  have HZ := hide hz
  have HT := hide ht
  have HS := hide hs
  have HS2 := hide hs2
  have HVA := hide hva
  have HVB := hide hvb
  have HM := hide hm
  clear h hx hy hz ht hs hs2 hva hvb hm
  go_enter Tryz.func3, Tryz.ntmps3
  go_wp2_with (go_at_call 13; fail)
  refine (first_any hg).mono ?_
  rintro e w1 ⟨rfl, b1⟩
  go_wp2_with (go_at_call 14; fail)
  refine (few_is (ps := [a, b, c]) (unhide H) (by simp) (texts_new w1 [a, b, c])).mono ?_
  rintro e w2 ⟨rfl, hw⟩
  have b2 : Below w.heap.size w w2 := by rw [hw]; exact b1.alloc b1.size _
  clear hw b1
  go_wp2_with (go_at_call 15; fail)
  refine (cmp_is (unhide HX) (hg.below b2)).mono ?_
  rintro e w3 ⟨rfl, b3⟩
  have b3 := b2.trans (b3.mono b2.size)
  clear b2
  go_wp2_with (go_at_call 15; fail)
  refine (cmp_is (unhide HY) (hg.below b3)).mono ?_
  rintro e w4 ⟨rfl, b4⟩
  have b4 := b3.trans (b4.mono b3.size)
  clear b3
  go_wp2_with (go_at_call 15; fail)
  refine (cmp_is (unhide HZ) (hg.below b4)).mono ?_
  rintro e w5 ⟨rfl, b5⟩
  have b5 := b4.trans (b5.mono b4.size)
  clear b4
  go_wp2_with (go_at_call 15; fail)
  refine (cmp_is (unhide HT) (hg.below b5)).mono ?_
  rintro e w6 ⟨rfl, b6⟩
  have b6 := b5.trans (b6.mono b5.size)
  clear b5
  go_wp2_with (go_at_call 15; fail)
  refine (cmp_is (unhide HS) (hg.below b6)).mono ?_
  rintro e w7 ⟨rfl, b7⟩
  have b7 := b6.trans (b7.mono b6.size)
  clear b6
  go_wp2_with (go_at_call 16; fail)
  refine (valid_is (unhide HVA) (hg.below b7)).mono ?_
  rintro e w8 ⟨rfl, b8⟩
  have b8 := b7.trans (b8.mono b7.size)
  clear b7
  go_wp2_with (go_at_call 16; fail)
  refine (valid_is (unhide HVB) (hg.below b8)).mono ?_
  rintro e w9 ⟨rfl, b9⟩
  have b9 := b8.trans (b9.mono b8.size)
  clear b8
  go_wp2_with (go_at_call 17; fail)
  refine (max_is (unhide HM) (hg.below b9)).mono ?_
  rintro e w10 ⟨rfl, b10⟩
  have b10 := b9.trans (b10.mono b9.size)
  clear b9
  go_wp2_with (go_at_call 15; fail)
  refine (cmp_is (unhide HS) (hg.below b10)).mono ?_
  rintro e w11 ⟨rfl, b11⟩
  have b11 := b10.trans (b11.mono b10.size)
  clear b10
  go_wp2_with (go_at_call 15; fail)
  refine (cmp_is (unhide HX) (hg.below b11)).mono ?_
  rintro e w12 ⟨rfl, b12⟩
  have b12 := b11.trans (b12.mono b11.size)
  clear b11
  go_wp2
  go_ret
  exact ⟨rfl, b12⟩

set_option maxHeartbeats 2000000 in
theorem order_D_false {a b c : Str} {y z : Int} (h : fewB [a, b, c] = true) (hx : cmpV a b = 0) (hy : cmpV b c = y) (hz : cmpV a c = z) (ht : cmpV b a = -(0)) (hs : cmpV a a = 0) (hs2 : cmpV b b = 0) (hy0 : y = 0) (hz0 : z = 0) (hab : (a == b) = true)
    (hva : (parseV a).isSome = false) (hm : maxV a b = a) {w : World} (hg : Gd w) : Gives 3 #[.string (ba a), .string (ba b), .string (ba c)] w (.bool true) := by
  unfold Gives
  have l1 := ba_list a
  have l2 := ba_list b
  have hba : (b == a) = true := by rw [← hab, Bool.eq_iff_iff]; simp only [beq_iff_eq]; exact eq_comm
  have H := hide h
  have HX := hide hx
  have HY := hide hy
  have HZ := hide hz
  have HT := hide ht
  have HS := hide hs
  have HS2 := hide hs2
  have HVA := hide hva
  have HM := hide hm
  clear h hx hy hz ht hs hs2 hva hm
  go_enter Tryz.func3, Tryz.ntmps3
  go_wp2_with (go_at_call 13; fail)
  refine (first_any hg).mono ?_
  rintro e w1 ⟨rfl, b1⟩
  go_wp2_with (go_at_call 14; fail)
  refine (few_is (ps := [a, b, c]) (unhide H) (by simp) (texts_new w1 [a, b, c])).mono ?_
  rintro e w2 ⟨rfl, hw⟩
  have b2 : Below w.heap.size w w2 := by rw [hw]; exact b1.alloc b1.size _
  clear hw b1
  go_wp2_with (go_at_call 15; fail)
  refine (cmp_is (unhide HX) (hg.below b2)).mono ?_
  rintro e w3 ⟨rfl, b3⟩
  have b3 := b2.trans (b3.mono b2.size)
  clear b2
  go_wp2_with (go_at_call 15; fail)
  refine (cmp_is (unhide HY) (hg.below b3)).mono ?_
  rintro e w4 ⟨rfl, b4⟩
  have b4 := b3.trans (b4.mono b3.size)
  clear b3
  go_wp2_with (go_at_call 15; fail)
  refine (cmp_is (unhide HZ) (hg.below b4)).mono ?_
  rintro e w5 ⟨rfl, b5⟩
  have b5 := b4.trans (b5.mono b4.size)
  clear b4
  go_wp2_with (go_at_call 15; fail)
  refine (cmp_is (unhide HT) (hg.below b5)).mono ?_
  rintro e w6 ⟨rfl, b6⟩
  have b6 := b5.trans (b6.mono b5.size)
  clear b5
  go_wp2_with (go_at_call 15; fail)
  refine (cmp_is (unhide HS) (hg.below b6)).mono ?_
  rintro e w7 ⟨rfl, b7⟩
  have b7 := b6.trans (b7.mono b6.size)
  clear b6
  go_wp2_with (go_at_call 16; fail)
  refine (valid_is (unhide HVA) (hg.below b7)).mono ?_
  rintro e w8 ⟨rfl, b8⟩
  have b8 := b7.trans (b8.mono b7.size)
  clear b7
  go_wp2_with (go_at_call 17; fail)
  refine (max_is (unhide HM) (hg.below b8)).mono ?_
  rintro e w9 ⟨rfl, b9⟩
  have b9 := b8.trans (b9.mono b8.size)
  clear b8
  go_wp2_with (go_at_call 15; fail)
  refine (cmp_is (unhide HS) (hg.below b9)).mono ?_
  rintro e w10 ⟨rfl, b10⟩
  have b10 := b9.trans (b10.mono b9.size)
  clear b9
  go_wp2_with (go_at_call 15; fail)
  refine (cmp_is (unhide HX) (hg.below b10)).mono ?_
  rintro e w11 ⟨rfl, b11⟩
  have b11 := b10.trans (b11.mono b10.size)
  clear b10
  go_wp2
  go_ret
  exact ⟨rfl, b11⟩

set_option maxHeartbeats 2000000 in
theorem order_D_true {a b c : Str} {y z : Int} (h : fewB [a, b, c] = true) (hx : cmpV a b = 0) (hy : cmpV b c = y) (hz : cmpV a c = z) (ht : cmpV b a = -(0)) (hs : cmpV a a = 0) (hs2 : cmpV b b = 0) (hy0 : y = 0) (hz0 : z = 0) (hab : (a == b) = true)
    (hva : (parseV a).isSome = true) (hvb : (parseV b).isSome = true) (hm : maxV a b = a) {w : World} (hg : Gd w) : Gives 3 #[.string (ba a), .string (ba b), .string (ba c)] w (.bool true) := by
  unfold Gives
  have l1 := ba_list a
  have l2 := ba_list b
  have hba : (b == a) = true := by rw [← hab, Bool.eq_iff_iff]; simp only [beq_iff_eq]; exact eq_comm
  have H := hide h
  have HX := hide hx
  have HY := hide hy
  have HZ := hide hz
  have HT := hide ht
  have HS := hide hs
  have HS2 := hide hs2
  have HVA := hide hva
  have HVB := hide hvb
  have HM := hide hm
  clear h hx hy hz ht hs hs2 hva hvb hm
  go_enter Tryz.func3, Tryz.ntmps3
  go_wp2_with (go_at_call 13; fail)
  refine (first_any hg).mono ?_
  rintro e w1 ⟨rfl, b1⟩
  go_wp2_with (go_at_call 14; fail)
  refine (few_is (ps := [a, b, c]) (unhide H) (by simp) (texts_new w1 [a, b, c])).mono ?_
  rintro e w2 ⟨rfl, hw⟩
  have b2 : Below w.heap.size w w2 := by rw [hw]; exact b1.alloc b1.size _
  clear hw b1
  go_wp2_with (go_at_call 15; fail)
  refine (cmp_is (unhide HX) (hg.below b2)).mono ?_
  rintro e w3 ⟨rfl, b3⟩
  have b3 := b2.trans (b3.mono b2.size)
  clear b2
  go_wp2_with (go_at_call 15; fail)
  refine (cmp_is (unhide HY) (hg.below b3)).mono ?_
  rintro e w4 ⟨rfl, b4⟩
  have b4 := b3.trans (b4.mono b3.size)
  clear b3
  go_wp2_with (go_at_call 15; fail)
  refine (cmp_is (unhide HZ) (hg.below b4)).mono ?_
  rintro e w5 ⟨rfl, b5⟩
  have b5 := b4.trans (b5.mono b4.size)
  clear b4
  go_wp2_with (go_at_call 15; fail)
  refine (cmp_is (unhide HT) (hg.below b5)).mono ?_
  rintro e w6 ⟨rfl, b6⟩
  have b6 := b5.trans (b6.mono b5.size)
  clear b5
  go_wp2_with (go_at_call 15; fail)
  refine (cmp_is (unhide HS) (hg.below b6)).mono ?_
  rintro e w7 ⟨rfl, b7⟩
  have b7 := b6.trans (b7.mono b6.size)
  clear b6
  go_wp2_with (go_at_call 16; fail)
  refine (valid_is (unhide HVA) (hg.below b7)).mono ?_
  rintro e w8 ⟨rfl, b8⟩
  have b8 := b7.trans (b8.mono b7.size)
  clear b7
  go_wp2_with (go_at_call 16; fail)
  refine (valid_is (unhide HVB) (hg.below b8)).mono ?_
  rintro e w9 ⟨rfl, b9⟩
  have b9 := b8.trans (b9.mono b8.size)
  clear b8
  go_wp2_with (go_at_call 17; fail)
  refine (max_is (unhide HM) (hg.below b9)).mono ?_
  rintro e w10 ⟨rfl, b10⟩
  have b10 := b9.trans (b10.mono b9.size)
  clear b9
  go_wp2_with (go_at_call 15; fail)
  refine (cmp_is (unhide HS) (hg.below b10)).mono ?_
  rintro e w11 ⟨rfl, b11⟩
  have b11 := b10.trans (b11.mono b10.size)
  clear b10
  go_wp2_with (go_at_call 15; fail)
  refine (cmp_is (unhide HX) (hg.below b11)).mono ?_
  rintro e w12 ⟨rfl, b12⟩
  have b12 := b11.trans (b12.mono b11.size)
  clear b11
  go_wp2
  go_ret
  exact ⟨rfl, b12⟩

theorem order_any (a b c : Str) {w : World} (hg : Gd w) : Gives 3 #[.string (ba a), .string (ba b), .string (ba c)] w (.bool true) := by
  cases h : fewB [a, b, c] with
  | false => exact order_big h hg
  | true =>
    obtain ⟨x, y, z, hx, hy, hz, ht, hs, hb, hgo, hsame, hval⟩ := order_facts a b c
    have hs2 : cmpV b b = 0 := orders_v.self b
    have hm : maxV a b = if cmpV a b < 0 then b else a := rfl
    have hx3 : x = 1 ∨ x = -1 ∨ x = 0 := by omega
    rcases hx3 with rfl | rfl | rfl
    · have hab : (a == b) = false := by rw [← hsame]; rfl
      have hm : maxV a b = a := by rw [hm, hx]; rfl
      cases hva : (parseV a).isSome with
      | false => exact order_A_false_None h hx hy hz ht hs hs2 hab hva hm hg
      | true =>
        cases hvb : (parseV b).isSome with
        | true => exact order_A_true_true h hx hy hz ht hs hs2 hab hva hvb hm hg
        | false => exact order_A_true_false h hx hy hz ht hs hs2 hab hva hvb hm hg
    · have hab : (a == b) = false := by rw [← hsame]; rfl
      have hm : maxV a b = b := by rw [hm, hx]; rfl
      by_cases hy1 : 0 < y
      · cases hva : (parseV a).isSome with
        | false => exact order_Bn_false h hx hy hz ht hs hs2 hy1 hab hva hm hg
        | true =>
          cases hvb : (parseV b).isSome with
          | true => exact order_Bn_true h hx hy hz ht hs hs2 hy1 hab hva hvb hm hg
          | false => exact absurd (hval hva hvb) (by decide)
      · have hy0 : y ≤ 0 := by omega
        have hz1 : z < 0 := by
          have := hgo (by decide) hy0
          omega
        cases hva : (parseV a).isSome with
        | false => exact order_Cn_false h hx hy hz ht hs hs2 hy0 hz1 hab hva hm hg
        | true =>
          cases hvb : (parseV b).isSome with
          | true => exact order_Cn_true h hx hy hz ht hs hs2 hy0 hz1 hab hva hvb hm hg
          | false => exact absurd (hval hva hvb) (by decide)
    · have hab : (a == b) = true := by rw [← hsame]; rfl
      have hm : maxV a b = a := by rw [hm, hx]; rfl
      by_cases hy1 : 0 < y
      · cases hva : (parseV a).isSome with
        | false => exact order_Bz_false h hx hy hz ht hs hs2 hy1 hab hva hm hg
        | true =>
          cases hvb : (parseV b).isSome with
          | true => exact order_Bz_true h hx hy hz ht hs hs2 hy1 hab hva hvb hm hg
          | false => exact absurd (hval hva hvb) (by decide)
      · have hy0 : y ≤ 0 := by omega
        have hg0 := hgo (by decide) hy0
        by_cases hz1 : z < 0
        · cases hva : (parseV a).isSome with
          | false => exact order_Cz_false h hx hy hz ht hs hs2 hy0 hz1 hab hva hm hg
          | true =>
            cases hvb : (parseV b).isSome with
            | true => exact order_Cz_true h hx hy hz ht hs hs2 hy0 hz1 hab hva hvb hm hg
            | false => exact absurd (hval hva hvb) (by decide)
        · have hz0 : z = 0 := by omega
          have hy00 : y = 0 := by omega
          cases hva : (parseV a).isSome with
          | false => exact order_D_false h hx hy hz ht hs hs2 hy00 hz0 hab hva hm hg
          | true =>
            cases hvb : (parseV b).isSome with
            | true => exact order_D_true h hx hy hz ht hs hs2 hy00 hz0 hab hva hvb hm hg
            | false => exact absurd (hval hva hvb) (by decide)

end Go.Proofs.YtcmafidnaojkiaaGreatDoor
