/-
  The hash that a leaf and its path make: the reference's way.
-/
import Derived.Test.YtkpmbbeidcpclaaGreatDoorGood
import Derived.Test.YtkpmbbeidcpclaaGreatDoorRefL
import Derived.Deep.RegionHeld3
namespace Go.Proofs.YtkpmbbeidcpclaaGreatDoor
open Go.RowKit

/-- What climb answers. -/
def ClimbSaid (w : World) (b : Bs) (e : Ending) (w' : World) : Prop := ∃ va vn vc, e = .returned (.slice va vn vc) ∧ b.length = vn ∧ vn ≤ 100000000 ∧ BAt w' va b ∧ Below w.heap.size w w'

set_option maxRecDepth 100000 in
set_option maxHeartbeats 2000000 in
theorem climb_any : ∀ (k : Nat) {w : World} {a la : Option Addr} {c ln lc i n : Nat} {ps : List Bs} {leaf b : Bs} (_ : ps.length = k) (_ : k ≤ 1000) (_ : k ≤ c) (_ : ∀ p ∈ ps, p.length ≤ 100000000) (_ : leaf.length = ln) (_ : ln ≤ 100000000) (_ : 1 ≤ n) (_ : n ≤ 1048576) (_ : i < n) (_ : PAt w a ps) (_ : BAt w la leaf) (_ : rootP ps.reverse i n leaf = (b, true)),
    Calls Tryz.prog 85 #[.int .i64 (i : Int), .int .i64 (n : Int), .slice la ln lc, .slice a k c] w (ClimbSaid w b)
  | 0, w, a, la, c, ln, lc, i, n, ps, leaf, b, hk, _, _, _, hln, hln2, h1, h2, hi, _, hl, hr => by
    have hp : ps = [] := List.length_eq_zero_iff.1 hk
    subst hp
    have hr2 : (if n = 1 then (leaf, true) else ([], false)) = (b, true) := hr
    by_cases hn1 : n = 1
    · subst hn1
      rw [if_pos rfl] at hr2
      cases hr2
      have HR : Hid (ClimbSaid w leaf (.returned (.slice la ln lc)) w) := hide ⟨la, ln, lc, rfl, hln, hln2, hl, Below.refl _ _⟩
      clear hl hln hk hr
      go_enter Tryz.func85, Tryz.ntmps85
      go_wp2
      go_ret
      exact unhide HR
    · rw [if_neg hn1] at hr2
      cases hr2
  | k + 1, w, a, la, c, ln, lc, i, n, ps, leaf, b, hk, hk2, hkc, hpl, hln, hln2, h1, h2, hi, hpa, hl, hr => by
    obtain ⟨qs, p, rfl⟩ : ∃ qs p, ps = qs ++ [p] := ⟨ps.dropLast, ps.getLast (by intro e; rw [e] at hk; simp at hk), (List.dropLast_concat_getLast _).symm⟩
    have hqk : qs.length = k := by simpa using hk
    have hrev : (qs ++ [p]).reverse = p :: qs.reverse := by simp
    rw [hrev] at hr
    by_cases hn1 : n = 1
    · subst hn1
      have hr2 : (leaf, false) = (b, true) := hr
      cases hr2
    · have hr2 : (if i < half n then (nodeL (rootP qs.reverse i (half n) leaf).1 p, (rootP qs.reverse i (half n) leaf).2) else (nodeL p (rootP qs.reverse (i - half n) (n - half n) leaf).1, (rootP qs.reverse (i - half n) (n - half n) leaf).2)) = (b, true) := by
        have e : rootP (p :: qs.reverse) i n leaf = if n = 1 then _ else _ := rfl
        rw [e, if_neg hn1] at hr
        exact hr
      have hq : ((n : Int) == 1) = false := by simp; omega
      obtain ⟨g1, g2, _, _⟩ := half_is (by omega) h2
      obtain ⟨B, O, rfl, he⟩ : ∃ B O, a = some ⟨B, O, none⟩ ∧ ∀ k' (hk' : k' < (qs ++ [p]).length), ∃ x c, w.cell? ⟨B, O + k', none⟩ = some (.slice x ((qs ++ [p])[k']).length c) ∧ BAt w x ((qs ++ [p])[k']) := by
        rcases hpa.els with h0 | h
        · simp at h0
        · exact h
      have hpq : PAt w (some ⟨B, O, none⟩) qs := by
        have := hpa.front k
        rw [← hqk, List.take_left] at this
        exact this
      obtain ⟨x, d, hx1, hx2⟩ := he k (by simp; omega)
      have elast : (qs ++ [p])[k]'(by simp; omega) = p := by rw [List.getElem_append_right (by omega)]; simp [hqk]
      rw [elast] at hx1 hx2
      have hpp : p.length ≤ 100000000 := hpl p (by simp)
      have hql : ∀ x ∈ qs, x.length ≤ 100000000 := fun x hx => hpl x (by simp [hx])
      obtain ⟨k1, hk1⟩ : ∃ k1, k + 1 = k1 := ⟨_, rfl⟩
      obtain ⟨hf, hhf⟩ : ∃ hf, half n = hf := ⟨_, rfl⟩
      rw [hhf] at g1 g2 hr2
      obtain ⟨m, hm⟩ : ∃ m, p.length = m := ⟨_, rfl⟩
      rw [hm] at hx1 hpp
      have HS := hide (fun wx => refSplit_any (n := n) (by omega) h2 wx)
      have HH := hide hhf
      have e0 : (k1 : Int) - 1 = (k : Int) := by omega
      have hkk : (k : Int) < (k1 : Int) := by omega
      have hkkn : k < k1 := by omega
      have hkc2 : k ≤ c := by omega
      have hk1c : k1 ≤ c := by omega
      have hk1b : k1 ≤ 1001 := by omega
      have HX2 := hide hx2
      rw [hk1]
      by_cases hlt : i < hf
      · rw [if_pos hlt] at hr2
        obtain ⟨b1, hb1⟩ : ∃ b1, (rootP qs.reverse i hf leaf).1 = b1 := ⟨_, rfl⟩
        have hr3 : rootP qs.reverse i hf leaf = (b1, true) := by
          have := (Prod.mk.inj hr2).2
          exact Prod.ext hb1 this
        have hbe : nodeL b1 p = b := by rw [← hb1]; exact (Prod.mk.inj hr2).1
        have HREC : Hid (∀ wx, (wx.cell? ⟨B, O + k, none⟩ = some (.slice x m d) ∧ Below w.heap.size w wx) → Calls Tryz.prog 85 #[.int .i64 (i : Int), .int .i64 (hf : Int), .slice la ln lc, .slice (some ⟨B, O, none⟩) k c] wx fun e w' => ∃ va vn vc, e = .returned (.slice va vn vc) ∧ Hid (b1.length = vn ∧ vn ≤ 100000000 ∧ BAt w' va b1) ∧ w'.cell? ⟨B, O + k, none⟩ = some (.slice x m d) ∧ Below w.heap.size w w') := hide (fun wx ⟨hc, hb⟩ => by
          refine (climb_any k (i := i) (n := hf) (lc := lc) hqk (by omega) hkc2 hql hln hln2 (by omega) (by omega) hlt (hpq.low hb) (hl.low hb) hr3).mono ?_
          rintro e w' ⟨va, vn, vc, rfl, y1, y2, y3, y4⟩
          exact ⟨va, vn, vc, rfl, hide ⟨y1, y2, y3⟩, (y4.cell (lt_of_cell hc)).trans hc, low_trans hb y4⟩)
        have HND : Hid (∀ wx va vn vc, Hid (b1.length = vn ∧ vn ≤ 100000000 ∧ BAt wx va b1) → (wx.cell? ⟨B, O + k, none⟩ = some (.slice x m d) ∧ Below w.heap.size w wx) → Calls Tryz.prog 89 #[.slice va vn vc, .slice x m d] wx fun e w' => ∃ va' vn' vc', e = .returned (.slice va' vn' vc') ∧ Hid (ClimbSaid w b (.returned (.slice va' vn' vc')) w') ∧ w'.cell? ⟨B, O + k, none⟩ = some (.slice x m d) ∧ Below w.heap.size w w') := hide (fun wx va vn vc hh ⟨hc, hb⟩ => by
          obtain ⟨y1, y2, y3⟩ := unhide hh
          refine (refNode_any (c := vc) (c2 := d) (b := b1) (b2 := p) y1 hm y2 hpp y3 (hx2.low hb)).mono ?_
          rintro e w' ⟨v, rfl, o, bl⟩
          obtain ⟨a8, c8, rfl, hb8, _, _⟩ := OwnB.at o
          refine ⟨a8, _, c8, rfl, hide ⟨a8, _, c8, rfl, by rw [hbe], by rw [node_len]; omega, by rw [← hbe]; exact hb8, low_trans hb bl⟩, (bl.cell (lt_of_cell hc)).trans hc, low_trans hb bl⟩)
        have hB0 : Below w.heap.size w w := Below.refl _ _
        clear hr hr2 hr3 hb1 hbe hpq hql hl hln hqk hpa hpl hk hrev he elast hx2 hm hhf hk1 hkc HX2
        go_enter Tryz.func85, Tryz.ntmps85
        go_wp2_with (go_at_call 88; fail)
        refine (unhide HS _).mono ?_
        rintro e w6 ⟨rfl, rfl⟩
        rw [unhide HH]
        go_wp2
        go_region_held3 (fun w' => w'.cell? ⟨B, O + k, none⟩ = some (.slice x m d) ∧ Below w6.heap.size w6 w')
          (first | assumption | exact ⟨by assumption, (Below.refl _ _).drew⟩ | exact ⟨by assumption, by assumption⟩ | exact ⟨by assumption, Below.drew (by assumption)⟩ | go_keep)
          ((first | (go_at_call 85; refine (unhide HREC _ (by assumption)).mono ?_; rintro e w7 ⟨va, vn, vc, rfl, hv7, hc7, hb7⟩) | (go_at_call 89; refine (unhide HND _ _ _ _ hv7 (by assumption)).mono ?_; rintro e w8 ⟨va8, vn8, vc8, rfl, hv8, hc8, hb8⟩)))
        have HV8 := hv8
        clear hv8 hv7
        go_wp2
        go_ret
        exact unhide HV8
      · rw [if_neg hlt] at hr2
        obtain ⟨i2, hi2⟩ : ∃ i2, i - hf = i2 := ⟨_, rfl⟩
        obtain ⟨n2, hn2⟩ : ∃ n2, n - hf = n2 := ⟨_, rfl⟩
        rw [hi2, hn2] at hr2
        obtain ⟨b1, hb1⟩ : ∃ b1, (rootP qs.reverse i2 n2 leaf).1 = b1 := ⟨_, rfl⟩
        have hr3 : rootP qs.reverse i2 n2 leaf = (b1, true) := by
          have := (Prod.mk.inj hr2).2
          exact Prod.ext hb1 this
        have hbe : nodeL p b1 = b := by rw [← hb1]; exact (Prod.mk.inj hr2).1
        have HREC : Hid (∀ wx, (wx.cell? ⟨B, O + k, none⟩ = some (.slice x m d) ∧ Below w.heap.size w wx) → Calls Tryz.prog 85 #[.int .i64 (i2 : Int), .int .i64 (n2 : Int), .slice la ln lc, .slice (some ⟨B, O, none⟩) k c] wx fun e w' => ∃ va vn vc, e = .returned (.slice va vn vc) ∧ Hid (b1.length = vn ∧ vn ≤ 100000000 ∧ BAt w' va b1) ∧ w'.cell? ⟨B, O + k, none⟩ = some (.slice x m d) ∧ Below w.heap.size w w') := hide (fun wx ⟨hc, hb⟩ => by
          refine (climb_any k (i := i2) (n := n2) (lc := lc) hqk (by omega) hkc2 hql hln hln2 (by omega) (by omega) (by omega) (hpq.low hb) (hl.low hb) hr3).mono ?_
          rintro e w' ⟨va, vn, vc, rfl, y1, y2, y3, y4⟩
          exact ⟨va, vn, vc, rfl, hide ⟨y1, y2, y3⟩, (y4.cell (lt_of_cell hc)).trans hc, low_trans hb y4⟩)
        have HND : Hid (∀ wx va vn vc, Hid (b1.length = vn ∧ vn ≤ 100000000 ∧ BAt wx va b1) → (wx.cell? ⟨B, O + k, none⟩ = some (.slice x m d) ∧ Below w.heap.size w wx) → Calls Tryz.prog 89 #[.slice x m d, .slice va vn vc] wx fun e w' => ∃ va' vn' vc', e = .returned (.slice va' vn' vc') ∧ Hid (ClimbSaid w b (.returned (.slice va' vn' vc')) w') ∧ w'.cell? ⟨B, O + k, none⟩ = some (.slice x m d) ∧ Below w.heap.size w w') := hide (fun wx va vn vc hh ⟨hc, hb⟩ => by
          obtain ⟨y1, y2, y3⟩ := unhide hh
          refine (refNode_any (c := d) (c2 := vc) (b := p) (b2 := b1) hm y1 hpp y2 (hx2.low hb) y3).mono ?_
          rintro e w' ⟨v, rfl, o, bl⟩
          obtain ⟨a8, c8, rfl, hb8, _, _⟩ := OwnB.at o
          refine ⟨a8, _, c8, rfl, hide ⟨a8, _, c8, rfl, by rw [hbe], by rw [node_len]; omega, by rw [← hbe]; exact hb8, low_trans hb bl⟩, (bl.cell (lt_of_cell hc)).trans hc, low_trans hb bl⟩)
        have hB0 : Below w.heap.size w w := Below.refl _ _
        have e1 : (i : Int) - (hf : Int) = (i2 : Int) := by omega
        have e2 : (n : Int) - (hf : Int) = (n2 : Int) := by omega
        have w1 := wrapI i2 (by omega)
        have w2 := wrapI n2 (by omega)
        clear hi2 hn2 hr hr2 hr3 hb1 hbe hpq hql hl hln hqk hpa hpl hk hrev he elast hx2 hm hhf hk1 hkc HX2
        go_enter Tryz.func85, Tryz.ntmps85
        go_wp2_with (go_at_call 88; fail)
        refine (unhide HS _).mono ?_
        rintro e w6 ⟨rfl, rfl⟩
        rw [unhide HH]
        go_wp2
        go_region_held3 (fun w' => w'.cell? ⟨B, O + k, none⟩ = some (.slice x m d) ∧ Below w6.heap.size w6 w')
          (first | assumption | exact ⟨by assumption, (Below.refl _ _).drew⟩ | exact ⟨by assumption, by assumption⟩ | exact ⟨by assumption, Below.drew (by assumption)⟩ | go_keep)
          ((first | (go_at_call 85; refine (unhide HREC _ (by assumption)).mono ?_; rintro e w7 ⟨va, vn, vc, rfl, hv7, hc7, hb7⟩) | (go_at_call 89; refine (unhide HND _ _ _ _ hv7 (by assumption)).mono ?_; rintro e w8 ⟨va8, vn8, vc8, rfl, hv8, hc8, hb8⟩)))
        have HV8 := hv8
        clear hv8 hv7
        go_wp2
        go_ret
        exact unhide HV8
end Go.Proofs.YtkpmbbeidcpclaaGreatDoor
