/-
  The hashes that a proof of a longer log makes: the reference's way, whole.
-/
import Derived.Test.YtkpmbbeidcpclaaGreatDoorTwoR
namespace Go.Proofs.YtkpmbbeidcpclaaGreatDoor
open Go.RowKit

set_option maxRecDepth 100000 in
set_option maxHeartbeats 2000000 in
theorem two_any : ∀ (k : Nat) {w : World} {a la : Option Addr} {c ln lc m n : Nat} {wh : Bool} {ps : List Bs} {old b b2 : Bs} (_ : ps.length = k) (_ : k ≤ 1000) (_ : k ≤ c) (_ : ∀ p ∈ ps, p.length ≤ 100000000) (_ : old.length = ln) (_ : ln ≤ 100000000) (_ : 1 ≤ m) (_ : m ≤ n) (_ : n ≤ 1048576) (_ : PAt w a ps) (_ : BAt w la old) (_ : rootsP ps.reverse m n wh old = (b, b2, true)),
    Calls Tryz.prog 87 #[.int .i64 (m : Int), .int .i64 (n : Int), .bool wh, .slice la ln lc, .slice a k c] w (TwoSaid w b b2)
  | 0, w, a, la, c, ln, lc, m, n, wh, ps, old, b, b2, hk, _, _, _, hln, hln2, h1, hmn, h2, _, hl, hr => by
    have hp : ps = [] := List.length_eq_zero_iff.1 hk
    subst hp
    have hr2 : (if m = n then (if wh = true then (old, old, true) else ([], [], false)) else ([], [], false)) = (b, b2, true) := hr
    by_cases hn1 : m = n
    · subst hn1
      rw [if_pos rfl] at hr2
      cases wh with
      | true =>
        rw [if_pos rfl] at hr2
        cases hr2
        have HR : Hid (TwoSaid w old old (.returned (.tuple #[.slice la ln lc, .slice la ln lc])) w) := hide ⟨la, ln, lc, la, ln, lc, rfl, hln, hln2, hl, hln, hln2, hl, Below.refl _ _⟩
        clear hl hln hk hr
        go_enter Tryz.func87, Tryz.ntmps87
        go_wp2
        go_ret2
        exact unhide HR
      | false =>
        rw [if_neg (by decide)] at hr2
        cases hr2
    · rw [if_neg hn1] at hr2
      cases hr2
  | k + 1, w, a, la, c, ln, lc, m, n, wh, ps, old, b, b2, hk, hk2, hkc, hpl, hln, hln2, h1, hmn, h2, hpa, hl, hr => by
    obtain ⟨qs, p, rfl⟩ : ∃ qs p, ps = qs ++ [p] := ⟨ps.dropLast, ps.getLast (by intro e; rw [e] at hk; simp at hk), (List.dropLast_concat_getLast _).symm⟩
    have hqk : qs.length = k := by simpa using hk
    have hrev : (qs ++ [p]).reverse = p :: qs.reverse := by simp
    rw [hrev] at hr
    obtain ⟨B, O, rfl, he⟩ : ∃ B O, a = some ⟨B, O, none⟩ ∧ ∀ k' (hk' : k' < (qs ++ [p]).length), ∃ x c, w.cell? ⟨B, O + k', none⟩ = some (.slice x ((qs ++ [p])[k']).length c) ∧ BAt w x ((qs ++ [p])[k']) := by
      rcases hpa.els with h0 | h
      · simp at h0
      · exact h
    have hpq : PAt w (some ⟨B, O, none⟩) qs := by
      have := hpa.front k
      rw [← hqk, List.take_left] at this
      exact this
    obtain ⟨x, d, hx1, hx2⟩ := he k (by simp; omega)
    have elast : (qs ++ [p])[k]'(by simp; omega) = p := by rw [List.getElem_append_right (by omega)]; simp [hqk]
    rw [elast] at hx1 hx2
    have hpp : p.length ≤ 100000000 := hpl p (by simp)
    have hql : ∀ x ∈ qs, x.length ≤ 100000000 := fun x hx => hpl x (by simp [hx])
    obtain ⟨k1, hk1⟩ : ∃ k1, k + 1 = k1 := ⟨_, rfl⟩
    obtain ⟨mm, hm⟩ : ∃ mm, p.length = mm := ⟨_, rfl⟩
    rw [hm] at hx1 hpp
    have e0 : (k1 : Int) - 1 = (k : Int) := by omega
    have hkk : (k : Int) < (k1 : Int) := by omega
    have hkkn : k < k1 := by omega
    have hkc2 : k ≤ c := by omega
    have hk1c : k1 ≤ c := by omega
    have hk1b : k1 ≤ 1001 := by omega
    rw [hk1]
    by_cases hn1 : m = n
    · subst hn1
      have hr2 : (if m = m then (if wh = true then (old, old, false) else (p, p, decide (qs.reverse.length = 0))) else _) = (b, b2, true) := hr
      rw [if_pos rfl] at hr2
      cases wh with
      | true =>
        rw [if_pos rfl] at hr2
        cases hr2
      | false =>
        rw [if_neg (by decide)] at hr2
        have hk0 : k = 0 := by
          have := (Prod.mk.inj (Prod.mk.inj hr2).2).2
          simpa [hqk] using this
        have eb : p = b := (Prod.mk.inj hr2).1
        have eb2 : p = b2 := (Prod.mk.inj (Prod.mk.inj hr2).2).1
        subst hk0 eb2 eb
        have hx0 : w.cell? ⟨B, O, none⟩ = some (.slice x mm d) := hx1
        have HR : Hid (∀ w', Below w.heap.size w w' → TwoSaid w p p (.returned (.tuple #[.slice x mm d, .slice x mm d])) w') := hide (fun w' hb => ⟨x, mm, d, x, mm, d, rfl, hm, hpp, hx2.low hb, hm, hpp, hx2.low hb, hb⟩)
        have hk1' : k1 = 1 := by omega
        subst hk1'
        clear hl hln hk hpa hpl hrev hpq hql hqk hr hr2 hx2 he elast hm hx1 e0 hkk
        go_enter Tryz.func87, Tryz.ntmps87
        go_wp2
        go_quiet (fail)
        go_wp2
        go_ret2
        exact unhide HR _ (lowN (Below.refl _ _) _)
    · have hr2 := hr
      rw [rootsP_cons_ne hn1] at hr2
      have hq : ((m : Int) == (n : Int)) = false := by simp; omega
      obtain ⟨g1, g2, _, _⟩ := half_is (n := n) (by omega) h2
      obtain ⟨hf, hhf⟩ : ∃ hf, half n = hf := ⟨_, rfl⟩
      rw [hhf] at g1 g2 hr2
      have HS := hide (fun wx => refSplit_any (n := n) (by omega) h2 wx)
      have HH := hide hhf
      by_cases hlt : m ≤ hf
      · rw [if_pos hlt] at hr2
        obtain ⟨b1, hb1⟩ : ∃ b1, (rootsP qs.reverse m hf wh old).2.1 = b1 := ⟨_, rfl⟩
        have hr3 : rootsP qs.reverse m hf wh old = (b, b1, true) := by
          have h3 := (Prod.mk.inj (Prod.mk.inj hr2).2).2
          exact Prod.ext (Prod.mk.inj hr2).1 (Prod.ext hb1 h3)
        have hbe : nodeL b1 p = b2 := by rw [← hb1]; exact (Prod.mk.inj (Prod.mk.inj hr2).2).1
        have HREC := hide (two_any k (m := m) (n := hf) (wh := wh) (lc := lc) hqk (by omega) hkc2 hql hln hln2 h1 hlt (by omega) hpq hl hr3)
        have HX2 := hide hx2
        have HBE := hide hbe
        have HM := hide hm
        clear hr hr2 hr3 hb1 hbe hpq hql hl hln hqk hpa hpl hk hrev he elast hx2 hm hhf hk1 hkc
        go_enter Tryz.func87, Tryz.ntmps87
        go_wp2_with (go_at_call 88; fail)
        refine (unhide HS _).mono ?_
        rintro e w6 ⟨rfl, rfl⟩
        rw [unhide HH]
        go_wp2_with (go_at_call 87; fail)
        refine (unhide HREC).mono ?_
        rintro e w7 ⟨va, vn, vc, ua, un, uc, rfl, y1, y2, y3, z1, z2, z3, y4⟩
        have hc7 : w7.cell? ⟨B, O + k, none⟩ = some (.slice x mm d) := (y4.cell (lt_of_cell hx1)).trans hx1
        have HND := hide (refNode_any (c := uc) (c2 := d) (b := b1) (b2 := p) z1 (unhide HM) z2 hpp z3 ((unhide HX2).low y4))
        have HV := hide (And.intro y1 (And.intro y3 y4))
        clear y1 y3 z1 z3 y4 hx1 HREC HS
        go_wp2_with (go_at_call 89; fail)
        refine (unhide HND).mono ?_
        rintro e w8 ⟨v, rfl, o, bl⟩
        obtain ⟨a8, c8, rfl, hb8, _, _⟩ := OwnB.at o
        have HR : Hid (TwoSaid w6 b b2 (.returned (.tuple #[.slice va vn vc, .slice a8 (nodeL b1 p).length c8])) w8) := hide (by
          obtain ⟨y1, y3, y4⟩ := unhide HV
          exact ⟨va, vn, vc, a8, _, c8, rfl, y1, y2, y3.low bl, by rw [unhide HBE], by rw [node_len]; omega, by rw [← unhide HBE]; exact hb8, low_trans y4 bl⟩)
        clear o bl hb8 HND HV
        go_wp2
        go_ret2
        exact unhide HR
      · rw [if_neg hlt] at hr2
        obtain ⟨m2, hm2⟩ : ∃ m2, m - hf = m2 := ⟨_, rfl⟩
        obtain ⟨n2, hn2⟩ : ∃ n2, n - hf = n2 := ⟨_, rfl⟩
        rw [hm2, hn2] at hr2
        obtain ⟨b0, hb0⟩ : ∃ b0, (rootsP qs.reverse m2 n2 false old).1 = b0 := ⟨_, rfl⟩
        obtain ⟨b1, hb1⟩ : ∃ b1, (rootsP qs.reverse m2 n2 false old).2.1 = b1 := ⟨_, rfl⟩
        have hr3 : rootsP qs.reverse m2 n2 false old = (b0, b1, true) := by
          have h3 := (Prod.mk.inj (Prod.mk.inj hr2).2).2
          exact Prod.ext hb0 (Prod.ext hb1 h3)
        have hbe0 : nodeL p b0 = b := by rw [← hb0]; exact (Prod.mk.inj hr2).1
        have hbe : nodeL p b1 = b2 := by rw [← hb1]; exact (Prod.mk.inj (Prod.mk.inj hr2).2).1
        exact two_right (k := k) (k1 := k1) (hf := hf) (m2 := m2) (n2 := n2) hhf hk1 (by omega) hkc2 hk1b h2 hmn hlt hm2 hn2 hx1 hm hpp hx2 hbe0 hbe hn1 (two_any k (m := m2) (n := n2) (wh := false) (lc := lc) hqk (by omega) hkc2 hql hln hln2 (by omega) (by omega) (by omega) hpq hl hr3)
end Go.Proofs.YtkpmbbeidcpclaaGreatDoor
