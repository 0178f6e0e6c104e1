/-
  CheckTree: the reference's way.
-/
import Derived.Test.YtkpmbbeidcpclaaGreatDoorCkC
import Derived.Test.YtkpmbbeidcpclaaGreatDoorCkD
import Derived.Test.YtkpmbbeidcpclaaGreatDoorTwo
namespace Go.Proofs.YtkpmbbeidcpclaaGreatDoor
open Go.RowKit

theorem partB_iff (m n : Int) : partB m n = false ↔ (n < 0 ∨ 1048576 < n ∨ m < 0 ∨ n < m) := by
  unfold partB sizeB
  rw [Bool.and_eq_false_iff, Bool.and_eq_false_iff, Bool.and_eq_false_iff]
  simp only [decide_eq_false_iff_not]
  omega

set_option maxRecDepth 100000 in
set_option maxHeartbeats 2000000 in
theorem refCheckTree_any {w : World} {a la ra : Option Addr} {k c ln lc rn rc : Nat} {m n : Int} {ps : List Bs} {old root : Bs} (hk : ps.length = k) (hk2 : k ≤ 1000) (hkc : k ≤ c) (hpl : ∀ p ∈ ps, p.length ≤ 100000000) (hln : old.length = ln) (hln2 : ln ≤ 100000000) (hrn : root.length = rn) (hrn2 : rn ≤ 100000000) (hpa : PAt w a ps) (hl : BAt w la old) (hr : BAt w ra root) :
    Calls Tryz.prog 43 #[.slice a k c, .int .i64 m, .int .i64 n, .slice la ln lc, .slice ra rn rc] w fun e w' => e = .returned (.int .i64 (treeE ps m n old root)) ∧ Below w.heap.size w w' := by
  by_cases hb : partB m n = true
  · obtain ⟨m', n', rfl, rfl, hn2, hmn⟩ := partB_nat hb
    have g1 : ¬ ((n' : Int) < 0) := by omega
    have g2 : ¬ ((1048576 : Int) < (n' : Int)) := by omega
    have g3 : ¬ ((m' : Int) < 0) := by omega
    have g4 : ¬ ((n' : Int) < (m' : Int)) := by omega
    have HE : Hid (treeE ps m' n' old root = if goesB ps m' n' old root = true then 0 else 19) := hide (by unfold treeE; rw [if_neg (by simp [hb])]; rfl)
    have HSB := hide (fun (wx : World) (hb : Below w.heap.size w wx) => sameBytes_any (c := lc) (c2 := rc) hln hrn (by omega) (by omega) (hl.low hb) (hr.low hb))
    by_cases hm0 : m' = 0
    · subst hm0
      by_cases hk0 : k = 0
      · have HT : Hid (treeE ps ((0 : Nat) : Int) n' old root = 0) := hide (by
          rw [unhide HE]; unfold goesB; rw [if_pos rfl, hk, hk0]; rfl)
        subst hk0
        clear hk hpl hln hrn hpa hl hr
        go_enter Tryz.func43, Tryz.ntmps43
        go_wp2_with (go_at_call 22; fail)
        refine (unhide HSB _ (Below.refl _ _)).mono ?_
        rintro e w1 ⟨rfl, q, hw1⟩
        have HB1 : Hid (Below w.heap.size w w1) := hide (by rw [hw1]; exact lowN (Below.refl _ _) _)
        clear hw1
        go_wp2
        go_ret
        exact ⟨by rw [unhide HT]; rfl, unhide HB1⟩
      · have HT : Hid (treeE ps ((0 : Nat) : Int) n' old root = 19) := hide (by
          rw [unhide HE]; unfold goesB; rw [if_pos rfl, hk]; simp [hk0])
        have hz : ((k : Int) != 0) = true := by simp; omega
        clear hk hpl hln hrn hpa hl hr
        go_enter Tryz.func43, Tryz.ntmps43
        go_wp2_with (go_at_call 22; fail)
        refine (unhide HSB _ (Below.refl _ _)).mono ?_
        rintro e w1 ⟨rfl, q, hw1⟩
        have HB1 : Hid (Below w.heap.size w w1) := hide (by rw [hw1]; exact lowN (Below.refl _ _) _)
        clear hw1
        go_wp2
        go_ret
        exact ⟨by rw [unhide HT]; rfl, unhide HB1⟩
    · have hq0 : ((m' : Int) == 0) = false := by simp; omega
      have hq0' : ((m' : Int) != 0) = true := by simp; omega
      by_cases hmn1 : m' = n'
      · subst hmn1
        by_cases hk0 : k = 0
        · have HT : Hid (treeE ps m' m' old root = if old = root then 0 else 19) := hide (by
            rw [unhide HE]; unfold goesB; rw [if_neg hm0, if_pos rfl, hk, hk0]
            by_cases ho : old = root <;> simp [ho])
          subst hk0
          by_cases ho : old = root
          · have HO := hide ho
            clear hk hpl hln hrn hpa hl hr ho
            go_enter Tryz.func43, Tryz.ntmps43
            go_wp2_with (go_at_call 22; fail)
            refine (unhide HSB _ (Below.refl _ _)).mono ?_
            rintro e w1 ⟨rfl, q, hw1⟩
            have HB1 : Hid (Below w.heap.size w w1) := hide (by rw [hw1]; exact lowN (Below.refl _ _) _)
            clear hw1
            rw [decide_eq_true (unhide HO)]
            go_wp2
            go_ret
            exact ⟨by rw [unhide HT, if_pos (unhide HO)]; rfl, unhide HB1⟩
          · have HO := hide ho
            clear hk hpl hln hrn hpa hl hr ho
            go_enter Tryz.func43, Tryz.ntmps43
            go_wp2_with (go_at_call 22; fail)
            refine (unhide HSB _ (Below.refl _ _)).mono ?_
            rintro e w1 ⟨rfl, q, hw1⟩
            have HB1 : Hid (Below w.heap.size w w1) := hide (by rw [hw1]; exact lowN (Below.refl _ _) _)
            clear hw1
            rw [decide_eq_false (unhide HO)]
            go_wp2
            go_ret
            exact ⟨by rw [unhide HT, if_neg (unhide HO)]; rfl, unhide HB1⟩
        · have HT : Hid (treeE ps m' m' old root = 19) := hide (by
            rw [unhide HE]; unfold goesB; rw [if_neg hm0, if_pos rfl, hk]; simp [hk0])
          have hz : ((k : Int) != 0) = true := by simp; omega
          clear hk hpl hln hrn hpa hl hr
          go_enter Tryz.func43, Tryz.ntmps43
          go_wp2_with (go_at_call 22; fail)
          refine (unhide HSB _ (Below.refl _ _)).mono ?_
          rintro e w1 ⟨rfl, q, hw1⟩
          have HB1 : Hid (Below w.heap.size w w1) := hide (by rw [hw1]; exact lowN (Below.refl _ _) _)
          clear hw1
          go_wp2
          go_ret
          exact ⟨by rw [unhide HT]; rfl, unhide HB1⟩
      · have hq1 : ((m' : Int) == (n' : Int)) = false := by simp; omega
        have HG : Hid (goesB ps m' n' old root = (hashB ps && hashB [old, root] && decide (rootsP ps.reverse m' n' true old = (old, root, true)))) := hide (by unfold goesB; rw [if_neg hm0, if_neg hmn1])
        have HST := hide (fun wx => subSteps_any (m := m') (n := n') (wh := true) (by omega) hmn hn2 wx)
        have HGD := hide (good_any (c := c) hk (by omega) (fun p hp => Nat.le_trans (hpl p hp) (by omega)) hpa)
        have hok := roots_ok 20 ps.reverse m' n' true old (by omega) hmn hn2 (Nat.le_trans hn2 (by decide))
        rw [rev_len hk] at hok
        obtain ⟨st, hst⟩ : ∃ st, subN 20 m' n' true = st := ⟨_, rfl⟩
        rw [hst] at hok
        have HSE := hide hst
        by_cases hkst : k = st
        · have HSK : Hid (subN 20 m' n' true = k) := hide (by rw [hst, hkst])
          have hok2 : (rootsP ps.reverse m' n' true old).2.2 = true := by rw [hok]; simp [hkst]
          clear hok hst HSE hkst
          by_cases hh : hashB ps = true
          · by_cases h32 : ln = 32
            · by_cases h32r : rn = 32
              · have hh2 : hashB [old, root] = true := by rw [hashB_two, hln, hrn]; simp [h32, h32r]
                obtain ⟨x, y, hxy⟩ : ∃ x y, rootsP ps.reverse m' n' true old = (x, y, true) := ⟨_, _, Prod.ext rfl (Prod.ext rfl hok2)⟩
                have HT : Hid (treeE ps m' n' old root = if x = old ∧ y = root then 0 else 19) := hide (by
                  rw [unhide HE, unhide HG, hh, hh2, hxy]
                  by_cases h1 : x = old
                  · by_cases h2 : y = root
                    · simp [h1, h2]
                    · simp [h1, h2]
                  · simp [h1])
                have HTW := hide (two_any k (m := m') (n := n') (wh := true) (lc := lc) (c := c) hk hk2 hkc hpl hln hln2 (by omega) hmn hn2 hpa hl hxy)
                have HS1 := hide (fun (wx : World) (va : Option Addr) (vn vc : Nat) (hb : Below w.heap.size w wx) (h1 : x.length = vn) (h2 : vn ≤ 100000000) (h3 : BAt wx va x) => sameBytes_any (c := vc) (c2 := lc) h1 hln (by omega) (by omega) h3 (hl.low hb))
                have HS2 := hide (fun (wx : World) (va : Option Addr) (vn vc : Nat) (hb : Below w.heap.size w wx) (h1 : y.length = vn) (h2 : vn ≤ 100000000) (h3 : BAt wx va y) => sameBytes_any (c := vc) (c2 := rc) h1 hrn (by omega) (by omega) h3 (hr.low hb))
                subst h32 h32r
                clear hk hpl hln hrn hpa hl hr hok2 hxy hh2 HG HE HSB
                go_enter Tryz.func43, Tryz.ntmps43
                go_wp2_with (go_at_call 86; fail)
                refine (unhide HST _).mono ?_
                rintro e w1 ⟨rfl, rfl⟩
                rw [unhide HSK]
                go_wp2_with (go_at_call 84; fail)
                refine (unhide HGD).mono ?_
                rintro e w1 ⟨rfl, rfl⟩
                rw [hh]
                go_wp2_with (go_at_call 87; fail)
                refine (unhide HTW).mono ?_
                rintro e w2 ⟨va, vn, vc, ua, un, uc, rfl, y1, y2, y3, z1, z2, z3, y4⟩
                have HY := hide (And.intro y4 (And.intro z1 (And.intro z2 z3)))
                have HC1 := hide (unhide HS1 _ _ _ vc y4 y1 y2 y3)
                clear y1 y3 z1 z3 y4 HTW HGD HST
                go_wp2_with (go_at_call 22; fail)
                refine (unhide HC1).mono ?_
                rintro e w3 ⟨rfl, q3, hw3⟩
                have hb3 : Below w2.heap.size w2 w3 := by rw [hw3]; exact lowN (Below.refl _ _) _
                have HC2 : Hid _ := hide (unhide HS2 w3 ua un uc (low_trans (unhide HY).1 hb3) (unhide HY).2.1 (unhide HY).2.2.1 ((unhide HY).2.2.2.low hb3))
                have HB3 := hide (low_trans (unhide HY).1 hb3)
                clear hw3 hb3 HC1 HY HS1 HS2 z2
                go_wp2_with (go_at_call 22; fail)
                refine (unhide HC2).mono ?_
                rintro e w4 ⟨rfl, q4, hw4⟩
                have HB4 : Hid (Below w1.heap.size w1 w4) := hide (by rw [hw4]; exact lowN (unhide HB3) _)
                clear hw4 HC2 HB3
                by_cases h1 : x = old
                · by_cases h2 : y = root
                  · rw [decide_eq_true h1, decide_eq_true h2]
                    have HR : Hid (treeE ps m' n' old root = 0) := hide (by rw [unhide HT, if_pos ⟨h1, h2⟩])
                    clear HT h1 h2
                    go_wp2
                    go_ret
                    exact ⟨by rw [unhide HR]; rfl, unhide HB4⟩
                  · rw [decide_eq_true h1, decide_eq_false h2]
                    have HR : Hid (treeE ps m' n' old root = 19) := hide (by rw [unhide HT, if_neg (fun h => h2 h.2)])
                    clear HT h1 h2
                    go_wp2
                    go_ret
                    exact ⟨by rw [unhide HR]; rfl, unhide HB4⟩
                · rw [decide_eq_false h1]
                  have HR : Hid (treeE ps m' n' old root = 19) := hide (by rw [unhide HT, if_neg (fun h => h1 h.1)])
                  clear HT h1
                  go_wp2
                  go_ret
                  exact ⟨by rw [unhide HR]; rfl, unhide HB4⟩
              · have HT : Hid (treeE ps m' n' old root = 19) := hide (by
                  rw [unhide HE, unhide HG, hashB_two, hln, hrn]; simp [h32r])
                have hz : ((rn : Int) != 32) = true := by simp; omega
                subst h32
                clear hk hpl hln hrn hpa hl hr hok2
                go_enter Tryz.func43, Tryz.ntmps43
                go_wp2_with (go_at_call 86; fail)
                refine (unhide HST _).mono ?_
                rintro e w1 ⟨rfl, rfl⟩
                rw [unhide HSK]
                go_wp2_with (go_at_call 84; fail)
                refine (unhide HGD).mono ?_
                rintro e w1 ⟨rfl, rfl⟩
                rw [hh]
                go_wp2
                go_ret
                exact ⟨by rw [unhide HT]; rfl, Below.refl _ _⟩
            · have HT : Hid (treeE ps m' n' old root = 19) := hide (by
                rw [unhide HE, unhide HG, hashB_two, hln, hrn]; simp [h32])
              have hz : ((ln : Int) != 32) = true := by simp; omega
              clear hk hpl hln hrn hpa hl hr hok2
              go_enter Tryz.func43, Tryz.ntmps43
              go_wp2_with (go_at_call 86; fail)
              refine (unhide HST _).mono ?_
              rintro e w1 ⟨rfl, rfl⟩
              rw [unhide HSK]
              go_wp2_with (go_at_call 84; fail)
              refine (unhide HGD).mono ?_
              rintro e w1 ⟨rfl, rfl⟩
              rw [hh]
              go_wp2
              go_ret
              exact ⟨by rw [unhide HT]; rfl, Below.refl _ _⟩
          · have hh' : hashB ps = false := by simpa using hh
            have HT : Hid (treeE ps m' n' old root = 19) := hide (by
              rw [unhide HE, unhide HG, hh']; rfl)
            clear hk hpl hln hrn hpa hl hr hh hok2
            go_enter Tryz.func43, Tryz.ntmps43
            go_wp2_with (go_at_call 86; fail)
            refine (unhide HST _).mono ?_
            rintro e w1 ⟨rfl, rfl⟩
            rw [unhide HSK]
            go_wp2_with (go_at_call 84; fail)
            refine (unhide HGD).mono ?_
            rintro e w1 ⟨rfl, rfl⟩
            rw [hh']
            go_wp2
            go_ret
            exact ⟨by rw [unhide HT]; rfl, Below.refl _ _⟩
        · have HT : Hid (treeE ps m' n' old root = 19) := hide (by
            have : (rootsP ps.reverse m' n' true old).2.2 = false := by rw [hok]; simp [hkst]
            have h2 : decide (rootsP ps.reverse m' n' true old = (old, root, true)) = false := by
              apply decide_eq_false; intro e; rw [e] at this; cases this
            rw [unhide HE, unhide HG, h2, Bool.and_false]; rfl)
          have hq : ((k : Int) != (st : Int)) = true := by simp; omega
          clear hk hpl hln hrn hpa hl hr hok hst
          go_enter Tryz.func43, Tryz.ntmps43
          go_wp2_with (go_at_call 86; fail)
          refine (unhide HST _).mono ?_
          rintro e w1 ⟨rfl, rfl⟩
          rw [unhide HSE]
          go_wp2
          go_ret
          exact ⟨by rw [unhide HT]; rfl, Below.refl _ _⟩
  · have hb' : partB m n = false := by simpa using hb
    have HT : Hid (treeE ps m n old root = 6) := hide (by unfold treeE; rw [if_pos hb'])
    have hb2 := (partB_iff m n).1 hb'
    clear hk hpl hln hrn hpa hl hr hb hb'
    by_cases c1 : n < 0
    · clear hb2
      go_enter Tryz.func43, Tryz.ntmps43
      go_wp2
      go_ret
      exact ⟨by rw [unhide HT]; rfl, Below.refl _ _⟩
    · by_cases c2 : 1048576 < n
      · clear hb2
        go_enter Tryz.func43, Tryz.ntmps43
        go_wp2
        go_ret
        exact ⟨by rw [unhide HT]; rfl, Below.refl _ _⟩
      · by_cases c3 : m < 0
        · clear hb2
          go_enter Tryz.func43, Tryz.ntmps43
          go_wp2
          go_ret
          exact ⟨by rw [unhide HT]; rfl, Below.refl _ _⟩
        · have c4 : n < m := by omega
          clear hb2
          go_enter Tryz.func43, Tryz.ntmps43
          go_wp2
          go_ret
          exact ⟨by rw [unhide HT]; rfl, Below.refl _ _⟩

end Go.Proofs.YtkpmbbeidcpclaaGreatDoor
