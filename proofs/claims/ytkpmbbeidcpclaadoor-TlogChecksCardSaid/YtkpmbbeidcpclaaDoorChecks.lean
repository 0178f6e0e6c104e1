/-
  Any lists of hashes are taken as proofs, or refused, as the reference takes them.
-/
import Derived.Test.YtkpmbbeidcpclaaDoorCkE
import Derived.Test.YtkpmbbeidcpclaaDoorFirst
namespace Go.Proofs.YtkpmbbeidcpclaaDoor
open Go.RowKit

set_option maxRecDepth 100000 in
set_option maxHeartbeats 2000000 in
theorem checks_law {w : World} (hg : Gd w) {a la ra : Option Addr} {k c ln lc rn rc : Nat} {i m n : Int} {ps : List Bs} {x y : Bs} (hk : ps.length = k) (hkc : k ≤ c) (hkm : k ≤ maxLen) (hpm : ∀ p ∈ ps, p.length ≤ maxLen) (hln : x.length = ln) (hlm : ln ≤ maxLen) (hrn : y.length = rn) (hrm : rn ≤ maxLen) (hpa : PAt w a ps) (hl : BAt w la x) (hr : BAt w ra y) :
    Calls Tryd.prog 5 #[.slice a k c, .int .i64 i, .int .i64 m, .int .i64 n, .slice la ln lc, .slice ra rn rc] w fun e w' => e = .returned (.bool true) ∧ Below w.heap.size w w' := by
  have HF := hide (first_any hg)
  have hmax : maxLen = 9223372036854775807 := rfl
  rw [hmax] at hkm hlm hrm
  have HPM := hide hpm
  clear hpm hg
  by_cases h40 : 40 < k
  · clear hk hln hrn hpa hl hr
    go_enter Tryd.func5, Tryd.ntmps5
    go_wp2_with (go_at_call 10; fail)
    refine (unhide HF).mono ?_
    rintro e w1 ⟨rfl, hb1⟩
    have HB1 := hide hb1
    clear hb1
    go_wp2
    go_ret
    exact ⟨rfl, unhide HB1⟩
  by_cases ha : 100 < ln
  · clear hk hln hrn hpa hl hr
    go_enter Tryd.func5, Tryd.ntmps5
    go_wp2_with (go_at_call 10; fail)
    refine (unhide HF).mono ?_
    rintro e w1 ⟨rfl, hb1⟩
    have HB1 := hide hb1
    clear hb1
    go_wp2
    go_ret
    exact ⟨rfl, unhide HB1⟩
  by_cases hbb : 100 < rn
  · clear hk hln hrn hpa hl hr
    go_enter Tryd.func5, Tryd.ntmps5
    go_wp2_with (go_at_call 10; fail)
    refine (unhide HF).mono ?_
    rintro e w1 ⟨rfl, hb1⟩
    have HB1 := hide hb1
    clear hb1
    go_wp2
    go_ret
    exact ⟨rfl, unhide HB1⟩
  have HALL := hide (And.intro hk (And.intro hln (And.intro hrn (And.intro hpa (And.intro hl hr)))))
  clear hk hln hrn hpa hl hr
  go_enter Tryd.func5, Tryd.ntmps5
  go_wp2_with (go_at_call 10; fail)
  refine (unhide HF).mono ?_
  rintro e w1 ⟨rfl, hb1⟩
  have HB1 := hide hb1
  have HAL : Hid (ps.length = k ∧ x.length = ln ∧ y.length = rn ∧ PAt w1 a ps ∧ BAt w1 la x ∧ BAt w1 ra y) := hide (by
    obtain ⟨g1, g2, g3, g4, g5, g6⟩ := unhide HALL
    exact ⟨g1, g2, g3, g4.low hb1, g5.low hb1, g6.low hb1⟩)
  clear hb1 HALL HF
  go_wp2
  go_loop [14] (fun v14 => ∃ j : Nat, j ≤ k ∧ v14 = .int .i64 (j : Int) ∧ ∀ p ∈ ps.take j, p.length ≤ 100) (fun v14 => k - (intOf v14).toNat)
  case atStart => exact ⟨0, Nat.zero_le _, rfl, by simp⟩
  case round =>
    obtain ⟨j, hj, rfl, ht⟩ := hrel
    by_cases hlt : j < k
    · obtain ⟨g1, g2, g3, g4, g5, g6⟩ := unhide HAL
      have hjp : j < ps.length := by rw [g1]; exact hlt
      rcases g4.els with h0 | ⟨B, O, rfl, he⟩
      · rw [h0] at hjp; simp at hjp
      · obtain ⟨z, d, hc, _⟩ := he j hjp
        have hpl := unhide HPM ps[j] (List.getElem_mem hjp)
        obtain ⟨q, hq⟩ : ∃ q, ps[j].length = q := ⟨_, rfl⟩
        rw [hq] at hc hpl
        rw [hmax] at hpl
        by_cases hq1 : 100 < q
        · clear g1 g2 g3 g4 g5 g6 he ht hq
          go_wp2
          go_ret
          exact ⟨rfl, unhide HB1⟩
        · have HT : Hid (∀ p ∈ ps.take (j + 1), p.length ≤ 100) := hide (by
            intro p hp
            rw [List.take_add_one, List.getElem?_eq_getElem hjp] at hp
            rcases List.mem_append.1 hp with h | h
            · exact ht p h
            · simp at h; rw [h, hq]; omega)
          clear g1 g2 g3 g4 g5 g6 he ht hq
          go_wp2
          go_round
          case rel => exact ⟨j + 1, hlt, by push_cast; rfl, unhide HT⟩
          case measure => simp [intOf]; omega
    · obtain ⟨g1, g2, g3, g4, g5, g6⟩ := unhide HAL
      have hjk : j = k := by omega
      have hpl : ∀ p ∈ ps, p.length ≤ 100000000 := by
        intro p hp
        rw [List.take_of_length_le (by omega)] at ht
        exact Nat.le_trans (ht p hp) (by omega)
      have HC1 := hide (checkRec_any (c := c) (lc := lc) (rc := rc) (i := i) (n := n) g1 (by omega) hkc hpl g2 (by omega) g3 (by omega) g4 g5 g6)
      have HC2 := hide (fun (wx : World) (hb : Below w1.heap.size w1 wx) => refCheckRec_any (c := c) (lc := lc) (rc := rc) (i := i) (n := n) g1 (by omega) hkc hpl g2 (by omega) g3 (by omega) (g4.low hb) (g5.low hb) (g6.low hb))
      have HC3 := hide (fun (wx : World) (hb : Below w1.heap.size w1 wx) => checkTree_any (c := c) (lc := lc) (rc := rc) (m := m) (n := n) g1 (by omega) hkc hpl g2 (by omega) g3 (by omega) (g4.low hb) (g5.low hb) (g6.low hb))
      have HC4 := hide (fun (wx : World) (hb : Below w1.heap.size w1 wx) => refCheckTree_any (c := c) (lc := lc) (rc := rc) (m := m) (n := n) g1 (by omega) hkc hpl g2 (by omega) g3 (by omega) (g4.low hb) (g5.low hb) (g6.low hb))
      clear g1 g2 g3 g4 g5 g6 ht hpl HAL HPM
      go_wp2_with (go_at_call 33; fail)
      refine (unhide HC1).mono ?_
      rintro e w2 ⟨rfl, hb2⟩
      generalize recE ps i n x y = r1 at *
      have HB2 := hide hb2
      clear hb2
      go_wp2_with (go_at_call 17; fail)
      refine (errno_any _ _).mono ?_
      rintro e w3 ⟨rfl, rfl⟩
      go_wp2_with (go_at_call 34; fail)
      refine (unhide HC2 _ (unhide HB2)).mono ?_
      rintro e w4 ⟨rfl, hb4⟩
      have HB4 := hide (low_trans (unhide HB2) hb4)
      clear hb4
      go_wp2_with (go_at_call 35; fail)
      refine (unhide HC3 _ (unhide HB4)).mono ?_
      rintro e w5 ⟨rfl, hb5⟩
      generalize treeE ps m n x y = r2 at *
      have HB5 := hide (low_trans (unhide HB4) hb5)
      clear hb5
      go_wp2_with (go_at_call 17; fail)
      refine (errno_any _ _).mono ?_
      rintro e w6 ⟨rfl, rfl⟩
      go_wp2_with (go_at_call 36; fail)
      refine (unhide HC4 _ (unhide HB5)).mono ?_
      rintro e w7 ⟨rfl, hb7⟩
      have HB7 := hide (low_trans (unhide HB5) hb7)
      clear hb7
      go_wp2
      go_ret
      exact ⟨by simp, low_trans (unhide HB1) (unhide HB7)⟩

end Go.Proofs.YtkpmbbeidcpclaaDoor
