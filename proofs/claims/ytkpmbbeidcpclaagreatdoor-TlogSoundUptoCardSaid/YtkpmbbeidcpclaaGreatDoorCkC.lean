/-
  CheckRecord: the reference's way.
-/
import Derived.Test.YtkpmbbeidcpclaaGreatDoorCkB
import Derived.Test.YtkpmbbeidcpclaaGreatDoorClimb
namespace Go.Proofs.YtkpmbbeidcpclaaGreatDoor
open Go.RowKit

theorem recB_iff (i n : Int) : recB i n = false ↔ (n < 1 ∨ 1048576 < n ∨ i < 0 ∨ n ≤ i) := by
  unfold recB sizeB
  rw [Bool.and_eq_false_iff, Bool.and_eq_false_iff, Bool.and_eq_false_iff]
  simp only [decide_eq_false_iff_not]
  omega
theorem hashB_two (a b : Bs) : hashB [a, b] = (decide (a.length = 32) && decide (b.length = 32)) := by
  unfold hashB
  simp [List.all_cons]
  rw [Bool.eq_iff_iff]; simp
theorem rev_len {ps : List Bs} {k : Nat} (h : ps.length = k) : ps.reverse.length = k := by rw [List.length_reverse]; exact h

set_option maxRecDepth 100000 in
set_option maxHeartbeats 2000000 in
theorem refCheckRec_any {w : World} {a la ra : Option Addr} {k c ln lc rn rc : Nat} {i n : Int} {ps : List Bs} {leaf root : Bs} (hk : ps.length = k) (hk2 : k ≤ 1000) (hkc : k ≤ c) (hpl : ∀ p ∈ ps, p.length ≤ 100000000) (hln : leaf.length = ln) (hln2 : ln ≤ 100000000) (hrn : root.length = rn) (hrn2 : rn ≤ 100000000) (hpa : PAt w a ps) (hl : BAt w la leaf) (hr : BAt w ra root) :
    Calls Tryz.prog 41 #[.slice a k c, .int .i64 i, .int .i64 n, .slice la ln lc, .slice ra rn rc] w fun e w' => e = .returned (.int .i64 (recE ps i n leaf root)) ∧ Below w.heap.size w w' := by
  by_cases hb : recB i n = true
  · obtain ⟨i', n', rfl, rfl, hn1, hn2, hi⟩ := recB_nat hb
    have HST := hide (fun wx => steps_any hn1 hn2 hi wx)
    have HGD := hide (good_any (c := c) hk (by omega) (fun p hp => Nat.le_trans (hpl p hp) (by omega)) hpa)
    have hok := root_ok 20 ps.reverse i' n' leaf hn1 hn2 (Nat.le_trans hn2 (by decide))
    rw [rev_len hk] at hok
    have h20 : stepsN 20 i' n' = stepsN 20 i' n' := rfl
    obtain ⟨st, hst⟩ : ∃ st, stepsN 20 i' n' = st := ⟨_, rfl⟩
    rw [hst] at hok
    have HSE := hide hst
    have g1 : ¬ ((n' : Int) < 1) := by omega
    have g2 : ¬ ((1048576 : Int) < (n' : Int)) := by omega
    have g3 : ¬ ((i' : Int) < 0) := by omega
    have g4 : ¬ ((n' : Int) ≤ (i' : Int)) := by omega
    have HE0 : Hid (recE ps i' n' leaf root = if hashB ps = false then 19 else if hashB [leaf, root] = false then 19 else if rootP ps.reverse i' n' leaf = (root, true) then 0 else 19) := hide (by unfold recE; rw [if_neg (by simp [hb])]; rfl)
    by_cases hkst : k = st
    · have HSK : Hid (stepsN 20 i' n' = k) := hide (by rw [hst, hkst])
      have hok2 : (rootP ps.reverse i' n' leaf).2 = true := by rw [hok]; simp [hkst]
      clear hok hst HSE hkst h20
      by_cases hh : hashB ps = true
      · by_cases h32 : ln = 32
        · by_cases h32r : rn = 32
          · have hh2 : hashB [leaf, root] = true := by rw [hashB_two, hln, hrn]; simp [h32, h32r]
            obtain ⟨x, hxy⟩ : ∃ x, rootP ps.reverse i' n' leaf = (x, true) := ⟨_, Prod.ext rfl hok2⟩
            have HT : Hid (recE ps i' n' leaf root = if x = root then 0 else 19) := hide (by
              rw [unhide HE0, hh, hh2, hxy]
              by_cases h1 : x = root <;> simp [h1])
            have HTW := hide (climb_any k (i := i') (n := n') (lc := lc) (c := c) hk hk2 hkc hpl hln hln2 hn1 hn2 hi hpa hl hxy)
            have HS2 := hide (fun (wx : World) (va : Option Addr) (vn vc : Nat) (hb : Below w.heap.size w wx) (h1 : x.length = vn) (h2 : vn ≤ 100000000) (h3 : BAt wx va x) => sameBytes_any (c := vc) (c2 := rc) h1 hrn (by omega) (by omega) h3 (hr.low hb))
            subst h32 h32r
            clear hk hpl hln hrn hpa hl hr hok2 hxy hh2 HE0
            go_enter Tryz.func41, Tryz.ntmps41
            go_wp2_with (go_at_call 83; fail)
            refine (unhide HST _).mono ?_
            rintro e w1 ⟨rfl, rfl⟩
            rw [unhide HSK]
            go_wp2_with (go_at_call 84; fail)
            refine (unhide HGD).mono ?_
            rintro e w1 ⟨rfl, rfl⟩
            rw [hh]
            go_wp2_with (go_at_call 85; fail)
            refine (unhide HTW).mono ?_
            rintro e w2 ⟨va, vn, vc, rfl, y1, y2, y3, y4⟩
            have HC1 := hide (unhide HS2 _ _ _ vc y4 y1 y2 y3)
            have HY := hide y4
            clear y1 y3 y4 HTW HGD HST
            go_wp2_with (go_at_call 22; fail)
            refine (unhide HC1).mono ?_
            rintro e w3 ⟨rfl, q3, hw3⟩
            have HB3 : Hid (Below w1.heap.size w1 w3) := hide (by rw [hw3]; exact lowN (unhide HY) _)
            clear hw3 HC1 HY HS2
            by_cases h1 : x = root
            · rw [decide_eq_true h1]
              have HR : Hid (recE ps i' n' leaf root = 0) := hide (by rw [unhide HT, if_pos h1])
              clear HT h1
              go_wp2
              go_ret
              exact ⟨by rw [unhide HR]; rfl, unhide HB3⟩
            · rw [decide_eq_false h1]
              have HR : Hid (recE ps i' n' leaf root = 19) := hide (by rw [unhide HT, if_neg h1])
              clear HT h1
              go_wp2
              go_ret
              exact ⟨by rw [unhide HR]; rfl, unhide HB3⟩
          · have HT : Hid (recE ps i' n' leaf root = 19) := hide (by
              rw [unhide HE0, hashB_two, hln, hrn]; simp [h32r])
            have hz : ((rn : Int) != 32) = true := by simp; omega
            subst h32
            clear hk hpl hln hrn hpa hl hr hok2
            go_enter Tryz.func41, Tryz.ntmps41
            go_wp2_with (go_at_call 83; fail)
            refine (unhide HST _).mono ?_
            rintro e w1 ⟨rfl, rfl⟩
            rw [unhide HSK]
            go_wp2_with (go_at_call 84; fail)
            refine (unhide HGD).mono ?_
            rintro e w1 ⟨rfl, rfl⟩
            rw [hh]
            go_wp2
            go_ret
            exact ⟨by rw [unhide HT]; rfl, Below.refl _ _⟩
        · have HT : Hid (recE ps i' n' leaf root = 19) := hide (by
            rw [unhide HE0, hashB_two, hln, hrn]; simp [h32])
          have hz : ((ln : Int) != 32) = true := by simp; omega
          clear hk hpl hln hrn hpa hl hr hok2
          go_enter Tryz.func41, Tryz.ntmps41
          go_wp2_with (go_at_call 83; fail)
          refine (unhide HST _).mono ?_
          rintro e w1 ⟨rfl, rfl⟩
          rw [unhide HSK]
          go_wp2_with (go_at_call 84; fail)
          refine (unhide HGD).mono ?_
          rintro e w1 ⟨rfl, rfl⟩
          rw [hh]
          go_wp2
          go_ret
          exact ⟨by rw [unhide HT]; rfl, Below.refl _ _⟩
      · have hh' : hashB ps = false := by simpa using hh
        have HT : Hid (recE ps i' n' leaf root = 19) := hide (by
          rw [unhide HE0, if_pos hh'])
        clear hk hpl hln hrn hpa hl hr hh hok2
        go_enter Tryz.func41, Tryz.ntmps41
        go_wp2_with (go_at_call 83; fail)
        refine (unhide HST _).mono ?_
        rintro e w1 ⟨rfl, rfl⟩
        rw [unhide HSK]
        go_wp2_with (go_at_call 84; fail)
        refine (unhide HGD).mono ?_
        rintro e w1 ⟨rfl, rfl⟩
        rw [hh']
        go_wp2
        go_ret
        exact ⟨by rw [unhide HT]; rfl, Below.refl _ _⟩
    · have HT : Hid (recE ps i' n' leaf root = 19) := hide (by
        rw [unhide HE0]
        have : (rootP ps.reverse i' n' leaf).2 = false := by rw [hok]; simp [hkst]
        split
        · rfl
        · split
          · rfl
          · rw [if_neg]; intro e; rw [e] at this; cases this)
      have hq : ((k : Int) != (st : Int)) = true := by simp; omega
      clear hk hpl hln hrn hpa hl hr hok hst h20
      go_enter Tryz.func41, Tryz.ntmps41
      go_wp2_with (go_at_call 83; fail)
      refine (unhide HST _).mono ?_
      rintro e w1 ⟨rfl, rfl⟩
      rw [unhide HSE]
      go_wp2
      go_ret
      exact ⟨by rw [unhide HT]; rfl, Below.refl _ _⟩
  · have hb' : recB i n = false := by simpa using hb
    have HT : Hid (recE ps i n leaf root = 6) := hide (by unfold recE; rw [if_pos hb'])
    have hb2 := (recB_iff i n).1 hb'
    clear hk hpl hln hrn hpa hl hr hb hb'
    by_cases c1 : n < 1
    · clear hb2
      go_enter Tryz.func41, Tryz.ntmps41
      go_wp2
      go_ret
      exact ⟨by rw [unhide HT]; rfl, Below.refl _ _⟩
    · by_cases c2 : 1048576 < n
      · clear hb2
        go_enter Tryz.func41, Tryz.ntmps41
        go_wp2
        go_ret
        exact ⟨by rw [unhide HT]; rfl, Below.refl _ _⟩
      · by_cases c3 : i < 0
        · clear hb2
          go_enter Tryz.func41, Tryz.ntmps41
          go_wp2
          go_ret
          exact ⟨by rw [unhide HT]; rfl, Below.refl _ _⟩
        · have c4 : n ≤ i := by omega
          clear hb2
          go_enter Tryz.func41, Tryz.ntmps41
          go_wp2
          go_ret
          exact ⟨by rw [unhide HT]; rfl, Below.refl _ _⟩

end Go.Proofs.YtkpmbbeidcpclaaGreatDoor
