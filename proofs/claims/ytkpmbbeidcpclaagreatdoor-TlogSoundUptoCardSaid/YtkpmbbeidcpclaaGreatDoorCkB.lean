/-
  CheckRecord: the program's way.
-/
import Derived.Test.YtkpmbbeidcpclaaGreatDoorCkA
namespace Go.Proofs.YtkpmbbeidcpclaaGreatDoor
open Go.RowKit

theorem recB_nat {i n : Int} (h : recB i n = true) : ∃ i' n' : Nat, i = i' ∧ n = n' ∧ 1 ≤ n' ∧ n' ≤ 1048576 ∧ i' < n' := by
  unfold recB sizeB at h
  simp only [Bool.and_eq_true, decide_eq_true_eq] at h
  obtain ⟨⟨⟨h1, h2⟩, h3⟩, h4⟩ := h
  exact ⟨i.toNat, n.toNat, by omega, by omega, by omega, by omega, by omega⟩

set_option maxRecDepth 100000 in
set_option maxHeartbeats 2000000 in
theorem checkRec_any {w : World} {a la ra : Option Addr} {k c ln lc rn rc : Nat} {i n : Int} {ps : List Bs} {leaf root : Bs} (hk : ps.length = k) (hk2 : k ≤ 1000) (hkc : k ≤ c) (hpl : ∀ p ∈ ps, p.length ≤ 100000000) (hln : leaf.length = ln) (hln2 : ln ≤ 100000000) (hrn : root.length = rn) (hrn2 : rn ≤ 100000000) (hpa : PAt w a ps) (hl : BAt w la leaf) (hr : BAt w ra root) :
    Calls Tryz.prog 38 #[.slice a k c, .int .i64 i, .int .i64 n, .slice la ln lc, .slice ra rn rc] w fun e w' => e = .returned (.int .i64 (recE ps i n leaf root)) ∧ Below w.heap.size w w' := by
  have HREC := hide (isRecord_any i n w)
  by_cases hb : recB i n = true
  · by_cases hh : hashB ps = true
    · have HAR := hide (areHashes_any (c := c) hk (by omega) (fun p hp => Nat.le_trans (hpl p hp) (by omega)) hpa)
      obtain ⟨i', n', rfl, rfl, hn1, hn2, hi⟩ := recB_nat hb
      obtain ⟨W1, hW1, hb1, hp2⟩ := lay_two (c := lc) (c2 := rc) hln hrn hl hr
      have HAR2 := hide (areHashes_any (c := 2) (n := 2) (ps := [leaf, root]) rfl (by omega) (two_short hln hrn hln2 hrn2) hp2)
      have HE : Hid (recE ps i' n' leaf root = if hashB [leaf, root] = false then 19 else if rootP ps.reverse i' n' leaf = (root, true) then 0 else 19) := hide (by unfold recE; rw [if_neg (by simp [hb]), if_neg (by simp [hh])]; rfl)
      have HW := hide hW1
      by_cases hh2 : hashB [leaf, root] = true
      · have HRT := hide (rootBy_any k (i := i') (n := n') (lc := lc) (c := c) hk hk2 hkc hpl hln hln2 hn1 hn2 hi (hpa.low hb1) (hl.low hb1))
        have HEQ := hide (fun (wx : World) (va : Option Addr) (vn vc : Nat) (b : Bs) (hb : Below w.heap.size w wx) (h1 : b.length = vn) (h3 : BAt wx va b) => equal_any (c := vc) (c2 := rc) h1 hrn h3 (hr.low hb))
        have HB1 := hide hb1
        have HH2 := hide hh2
        clear hk hpl hln hrn hpa hl hr hW1 hb1 hp2 hh2
        go_enter Tryz.func38, Tryz.ntmps38
        go_wp2_with (go_at_call 77; fail)
        refine (unhide HREC).mono ?_
        rintro e w1 ⟨rfl, rfl⟩
        rw [hb]
        go_wp2_with (go_at_call 78; fail)
        refine (unhide HAR).mono ?_
        rintro e w1 ⟨rfl, rfl⟩
        rw [hh]
        go_wp2_with (go_at_call 78; fail)
        rw [unhide HW]
        refine (unhide HAR2).mono ?_
        rintro e w2 ⟨rfl, rfl⟩
        rw [unhide HH2]
        go_wp2_with (go_at_call 79; fail)
        refine (unhide HRT).mono ?_
        rintro e w3 ⟨va, vn, vc, b, ok, rfl, hr7, hbl, hvn, hbb, hb7⟩
        have HB3 := hide (low_trans (unhide HB1) hb7)
        have HT : Hid (recE ps i' n' leaf root = if ok = true ∧ b = root then 0 else 19) := hide (by
          rw [unhide HE, unhide HH2, hr7]
          cases ok <;> by_cases h1 : b = root <;> simp [h1])
        have HC := hide (unhide HEQ _ _ _ vc _ (unhide HB3) hbl hbb)
        clear hr7 hbl hvn hbb hb7 HB1 HRT HAR2 HAR HREC HEQ HE
        cases ok with
        | false =>
          go_wp2
          go_ret
          exact ⟨by rw [unhide HT]; rfl, unhide HB3⟩
        | true =>
          go_wp2_with (go_at_call 80; fail)
          refine (unhide HC).mono ?_
          rintro e w4 ⟨rfl, rfl⟩
          by_cases h1 : b = root
          · rw [decide_eq_true h1]
            have HR : Hid (recE ps i' n' leaf root = 0) := hide (by have := unhide HT; simpa [h1] using this)
            clear HT h1 HC
            go_wp2
            go_ret
            exact ⟨by rw [unhide HR]; rfl, unhide HB3⟩
          · rw [decide_eq_false h1]
            have HR : Hid (recE ps i' n' leaf root = 19) := hide (by have := unhide HT; simpa [h1] using this)
            clear HT h1 HC
            go_wp2
            go_ret
            exact ⟨by rw [unhide HR]; rfl, unhide HB3⟩
      · have hh2' : hashB [leaf, root] = false := by simpa using hh2
        have HT : Hid (recE ps i' n' leaf root = 19) := hide (by rw [unhide HE, if_pos hh2'])
        have HB1 := hide hb1
        have HH2 := hide hh2'
        clear hk hpl hln hrn hpa hl hr hW1 hb1 hp2 hh2 hh2'
        go_enter Tryz.func38, Tryz.ntmps38
        go_wp2_with (go_at_call 77; fail)
        refine (unhide HREC).mono ?_
        rintro e w1 ⟨rfl, rfl⟩
        rw [hb]
        go_wp2_with (go_at_call 78; fail)
        refine (unhide HAR).mono ?_
        rintro e w1 ⟨rfl, rfl⟩
        rw [hh]
        go_wp2_with (go_at_call 78; fail)
        rw [unhide HW]
        refine (unhide HAR2).mono ?_
        rintro e w2 ⟨rfl, rfl⟩
        rw [unhide HH2]
        go_wp2
        go_ret
        exact ⟨by rw [unhide HT]; rfl, unhide HB1⟩
    · have hh' : hashB ps = false := by simpa using hh
      have HAR := hide (areHashes_any (c := c) hk (by omega) (fun p hp => Nat.le_trans (hpl p hp) (by omega)) hpa)
      have HT : Hid (recE ps i n leaf root = 19) := hide (by unfold recE; rw [if_neg (by simp [hb]), if_pos hh'])
      clear hk hpl hln hrn hpa hl hr hh
      go_enter Tryz.func38, Tryz.ntmps38
      go_wp2_with (go_at_call 77; fail)
      refine (unhide HREC).mono ?_
      rintro e w1 ⟨rfl, rfl⟩
      rw [hb]
      go_wp2_with (go_at_call 78; fail)
      refine (unhide HAR).mono ?_
      rintro e w1 ⟨rfl, rfl⟩
      rw [hh']
      go_wp2
      go_ret
      exact ⟨by rw [unhide HT]; rfl, Below.refl _ _⟩
  · have hb' : recB i n = false := by simpa using hb
    have HT : Hid (recE ps i n leaf root = 6) := hide (by unfold recE; rw [if_pos hb'])
    clear hk hpl hln hrn hpa hl hr hb
    go_enter Tryz.func38, Tryz.ntmps38
    go_wp2_with (go_at_call 77; fail)
    refine (unhide HREC).mono ?_
    rintro e w1 ⟨rfl, rfl⟩
    rw [hb']
    go_wp2
    go_ret
    exact ⟨by rw [unhide HT]; rfl, Below.refl _ _⟩

end Go.Proofs.YtkpmbbeidcpclaaGreatDoor
