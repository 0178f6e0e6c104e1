/-
  CheckTree: the program's way.
-/
import Derived.Test.YtkpmbbeidcpclaaGreatDoorCkB
import Derived.Test.YtkpmbbeidcpclaaGreatDoorRoots
namespace Go.Proofs.YtkpmbbeidcpclaaGreatDoor
open Go.RowKit

/-- Does the proof show that the n records go on from m? -/
def goesB (ps : List Bs) (m n : Nat) (old root : Bs) : Bool :=
  if m = 0 then decide (ps.length = 0) else if m = n then (decide (ps.length = 0) && decide (old = root))
  else (hashB ps && hashB [old, root] && decide (rootsP ps.reverse m n true old = (old, root, true)))
/-- What a check of such a proof answers. -/
def treeE (ps : List Bs) (m n : Int) (old root : Bs) : Int :=
  if partB m n = false then 6 else if goesB ps m.toNat n.toNat old root = true then 0 else 19

theorem partB_nat {m n : Int} (h : partB m n = true) : ∃ m' n' : Nat, m = m' ∧ n = n' ∧ n' ≤ 1048576 ∧ m' ≤ n' := by
  unfold partB sizeB at h
  simp only [Bool.and_eq_true, decide_eq_true_eq] at h
  obtain ⟨⟨⟨h1, h2⟩, h3⟩, h4⟩ := h
  exact ⟨m.toNat, n.toNat, by omega, by omega, by omega, by omega⟩

set_option maxRecDepth 100000 in
set_option maxHeartbeats 2000000 in
theorem goesOn_any {w : World} {a la ra : Option Addr} {k c ln lc rn rc m n : Nat} {ps : List Bs} {old root : Bs} (hk : ps.length = k) (hk2 : k ≤ 1000) (hkc : k ≤ c) (hpl : ∀ p ∈ ps, p.length ≤ 100000000) (hln : old.length = ln) (hln2 : ln ≤ 100000000) (hrn : root.length = rn) (hrn2 : rn ≤ 100000000) (hpa : PAt w a ps) (hl : BAt w la old) (hr : BAt w ra root) (hmn : m ≤ n) (hn2 : n ≤ 1048576) :
    Calls Tryz.prog 82 #[.slice a k c, .int .i64 (m : Int), .int .i64 (n : Int), .slice la ln lc, .slice ra rn rc] w fun e w' => e = .returned (.bool (goesB ps m n old root)) ∧ Below w.heap.size w w' := by
  by_cases hm0 : m = 0
  · subst hm0
    have HT : Hid (goesB ps 0 n old root = decide (k = 0)) := hide (by unfold goesB; rw [if_pos rfl, hk])
    have hdz : ((k : Int) == 0) = decide (k = 0) := by rw [Bool.eq_iff_iff]; simp
    clear hk hpl hln hrn hpa hl hr
    go_enter Tryz.func82, Tryz.ntmps82
    go_wp2
    go_ret
    exact ⟨by rw [unhide HT]; rfl, Below.refl _ _⟩
  · have hq0 : ((m : Int) == 0) = false := by simp; omega
    by_cases hmn1 : m = n
    · subst hmn1
      by_cases hk0 : k = 0
      · have HT : Hid (goesB ps m m old root = decide (old = root)) := hide (by unfold goesB; rw [if_neg hm0, if_pos rfl, hk]; simp [hk0])
        have HEQ := hide (equal_any (c := lc) (c2 := rc) hln hrn hl hr)
        subst hk0
        clear hk hpl hln hrn hpa hl hr
        go_enter Tryz.func82, Tryz.ntmps82
        go_wp2_with (go_at_call 80; fail)
        refine (unhide HEQ).mono ?_
        rintro e w1 ⟨rfl, rfl⟩
        go_wp2
        go_ret
        exact ⟨by rw [unhide HT]; rfl, Below.refl _ _⟩
      · have HT : Hid (goesB ps m m old root = false) := hide (by unfold goesB; rw [if_neg hm0, if_pos rfl, hk]; simp [hk0])
        have hz : ((k : Int) == 0) = false := by simp; omega
        clear hk hpl hln hrn hpa hl hr
        go_enter Tryz.func82, Tryz.ntmps82
        go_wp2
        go_ret
        exact ⟨by rw [unhide HT]; rfl, Below.refl _ _⟩
    · have hq1 : ((m : Int) == (n : Int)) = false := by simp; omega
      have HAR := hide (areHashes_any (c := c) hk (by omega) (fun p hp => Nat.le_trans (hpl p hp) (by omega)) hpa)
      have HG : Hid (goesB ps m n old root = (hashB ps && hashB [old, root] && decide (rootsP ps.reverse m n true old = (old, root, true)))) := hide (by unfold goesB; rw [if_neg hm0, if_neg hmn1])
      by_cases hh : hashB ps = true
      · obtain ⟨W1, hW1, hb1, hp2⟩ := lay_two (c := lc) (c2 := rc) hln hrn hl hr
        have HAR2 := hide (areHashes_any (c := 2) (n := 2) (ps := [old, root]) rfl (by omega) (two_short hln hrn hln2 hrn2) hp2)
        have HW := hide hW1
        by_cases hh2 : hashB [old, root] = true
        · have HRT := hide (rootsBy_any k (m := m) (n := n) (wh := true) (lc := lc) (c := c) hk hk2 hkc hpl hln hln2 (by omega) hmn hn2 (hpa.low hb1) (hl.low hb1))
          have HEQ := hide (fun (wx : World) (va : Option Addr) (vn vc : Nat) (b : Bs) (hb : Below w.heap.size w wx) (h1 : b.length = vn) (h3 : BAt wx va b) => equal_any (c := vc) (c2 := lc) h1 hln h3 (hl.low hb))
          have HEQ2 := hide (fun (wx : World) (va : Option Addr) (vn vc : Nat) (b : Bs) (hb : Below w.heap.size w wx) (h1 : b.length = vn) (h3 : BAt wx va b) => equal_any (c := vc) (c2 := rc) h1 hrn h3 (hr.low hb))
          have HB1 := hide hb1
          have HH2 := hide hh2
          clear hk hpl hln hrn hpa hl hr hW1 hb1 hp2 hh2
          go_enter Tryz.func82, Tryz.ntmps82
          go_wp2_with (go_at_call 78; fail)
          refine (unhide HAR).mono ?_
          rintro e w1 ⟨rfl, rfl⟩
          rw [hh]
          go_wp2_with (go_at_call 78; fail)
          rw [unhide HW]
          refine (unhide HAR2).mono ?_
          rintro e w2 ⟨rfl, rfl⟩
          rw [unhide HH2]
          go_wp2_with (go_at_call 111; fail)
          refine (unhide HRT).mono ?_
          rintro e w3 ⟨va, vn, vc, ua, un, uc, b, b2, ok, rfl, hr7, hbl, hvn, hbb, hul, hun, hub, hb7⟩
          have HB3 := hide (low_trans (unhide HB1) hb7)
          have HT : Hid (goesB ps m n old root = (ok && (decide (b = old) && decide (b2 = root)))) := hide (by
            rw [unhide HG, hh, unhide HH2, hr7]
            cases ok <;> by_cases h1 : b = old <;> by_cases h2 : b2 = root <;> simp [h1, h2])
          have HC := hide (unhide HEQ _ _ _ vc _ (unhide HB3) hbl hbb)
          have HC2 := hide (unhide HEQ2 _ _ _ uc _ (unhide HB3) hul hub)
          clear hr7 hbl hvn hbb hul hun hub hb7 HB1 HRT HAR2 HAR HEQ HEQ2 HG
          cases ok with
          | false =>
            go_wp2
            go_ret
            exact ⟨by rw [unhide HT]; rfl, unhide HB3⟩
          | true =>
            go_wp2_with (go_at_call 80; fail)
            refine (unhide HC).mono ?_
            rintro e w4 ⟨rfl, rfl⟩
            by_cases h1 : b = old
            · rw [decide_eq_true h1]
              have HR : Hid (goesB ps m n old root = decide (b2 = root)) := hide (by rw [unhide HT, decide_eq_true h1]; rfl)
              clear HT h1 HC
              go_wp2_with (go_at_call 80; fail)
              refine (unhide HC2).mono ?_
              rintro e w5 ⟨rfl, rfl⟩
              go_wp2
              go_ret
              exact ⟨by rw [unhide HR]; rfl, unhide HB3⟩
            · rw [decide_eq_false h1]
              have HR : Hid (goesB ps m n old root = false) := hide (by rw [unhide HT, decide_eq_false h1]; rfl)
              clear HT h1 HC HC2
              go_wp2
              go_ret
              exact ⟨by rw [unhide HR]; rfl, unhide HB3⟩
        · have hh2' : hashB [old, root] = false := by simpa using hh2
          have HT : Hid (goesB ps m n old root = false) := hide (by rw [unhide HG, hh2']; simp)
          have HB1 := hide hb1
          have HH2 := hide hh2'
          clear hk hpl hln hrn hpa hl hr hW1 hb1 hp2 hh2 hh2'
          go_enter Tryz.func82, Tryz.ntmps82
          go_wp2_with (go_at_call 78; fail)
          refine (unhide HAR).mono ?_
          rintro e w1 ⟨rfl, rfl⟩
          rw [hh]
          go_wp2_with (go_at_call 78; fail)
          rw [unhide HW]
          refine (unhide HAR2).mono ?_
          rintro e w2 ⟨rfl, rfl⟩
          rw [unhide HH2]
          go_wp2
          go_ret
          exact ⟨by rw [unhide HT]; rfl, unhide HB1⟩
      · have hh' : hashB ps = false := by simpa using hh
        have HT : Hid (goesB ps m n old root = false) := hide (by rw [unhide HG, hh']; rfl)
        clear hk hpl hln hrn hpa hl hr hh
        go_enter Tryz.func82, Tryz.ntmps82
        go_wp2_with (go_at_call 78; fail)
        refine (unhide HAR).mono ?_
        rintro e w1 ⟨rfl, rfl⟩
        rw [hh']
        go_wp2
        go_ret
        exact ⟨by rw [unhide HT]; rfl, Below.refl _ _⟩

set_option maxHeartbeats 2000000 in
theorem checkTree_any {w : World} {a la ra : Option Addr} {k c ln lc rn rc : Nat} {m n : Int} {ps : List Bs} {old root : Bs} (hk : ps.length = k) (hk2 : k ≤ 1000) (hkc : k ≤ c) (hpl : ∀ p ∈ ps, p.length ≤ 100000000) (hln : old.length = ln) (hln2 : ln ≤ 100000000) (hrn : root.length = rn) (hrn2 : rn ≤ 100000000) (hpa : PAt w a ps) (hl : BAt w la old) (hr : BAt w ra root) :
    Calls Tryz.prog 39 #[.slice a k c, .int .i64 m, .int .i64 n, .slice la ln lc, .slice ra rn rc] w fun e w' => e = .returned (.int .i64 (treeE ps m n old root)) ∧ Below w.heap.size w w' := by
  have HP := hide (isPart_any m n w)
  by_cases hb : partB m n = true
  · obtain ⟨m', n', rfl, rfl, hn2, hmn⟩ := partB_nat hb
    have HGO := hide (goesOn_any (c := c) (lc := lc) (rc := rc) hk hk2 hkc hpl hln hln2 hrn hrn2 hpa hl hr hmn hn2)
    have HE : Hid (treeE ps m' n' old root = if goesB ps m' n' old root = true then 0 else 19) := hide (by unfold treeE; rw [if_neg (by simp [hb])]; rfl)
    clear hk hpl hln hrn hpa hl hr
    cases hg : goesB ps m' n' old root with
    | true =>
      have HG := hide hg
      clear hg
      go_enter Tryz.func39, Tryz.ntmps39
      go_wp2_with (go_at_call 81; fail)
      refine (unhide HP).mono ?_
      rintro e w1 ⟨rfl, rfl⟩
      rw [hb]
      go_wp2_with (go_at_call 82; fail)
      refine (unhide HGO).mono ?_
      rintro e w1 ⟨rfl, hb1⟩
      rw [unhide HG]
      go_wp2
      go_ret
      exact ⟨by rw [unhide HE, unhide HG]; rfl, hb1⟩
    | false =>
      have HG := hide hg
      clear hg
      go_enter Tryz.func39, Tryz.ntmps39
      go_wp2_with (go_at_call 81; fail)
      refine (unhide HP).mono ?_
      rintro e w1 ⟨rfl, rfl⟩
      rw [hb]
      go_wp2_with (go_at_call 82; fail)
      refine (unhide HGO).mono ?_
      rintro e w1 ⟨rfl, hb1⟩
      rw [unhide HG]
      go_wp2
      go_ret
      exact ⟨by rw [unhide HE, unhide HG]; rfl, hb1⟩
  · have hb' : partB m n = false := by simpa using hb
    have HT : Hid (treeE ps m n old root = 6) := hide (by unfold treeE; rw [if_pos hb'])
    clear hk hpl hln hrn hpa hl hr hb
    go_enter Tryz.func39, Tryz.ntmps39
    go_wp2_with (go_at_call 81; fail)
    refine (unhide HP).mono ?_
    rintro e w1 ⟨rfl, rfl⟩
    rw [hb']
    go_wp2
    go_ret
    exact ⟨by rw [unhide HT]; rfl, Below.refl _ _⟩

end Go.Proofs.YtkpmbbeidcpclaaGreatDoor
