/-
  The hashes that a proof of a longer log makes: the program's way.
-/
import Derived.Test.YtkpmbbeidcpclaaGreatDoorSubP
namespace Go.Proofs.YtkpmbbeidcpclaaGreatDoor
open Go.RowKit

/-- What rootsBy answers. -/
def RootsSaid (w : World) (rp : List Bs) (m n : Nat) (wh : Bool) (old : Bs) (e : Ending) (w' : World) : Prop := ∃ va vn vc ua un uc b b2 ok, e = .returned (.tuple #[.slice va vn vc, .slice ua un uc, .bool ok]) ∧ rootsP rp m n wh old = (b, b2, ok) ∧ b.length = vn ∧ vn ≤ 100000000 ∧ BAt w' va b ∧ b2.length = un ∧ un ≤ 100000000 ∧ BAt w' ua b2 ∧ Below w.heap.size w w'

set_option maxRecDepth 100000 in
set_option maxHeartbeats 4000000 in
theorem rootsBy_any : ∀ (k : Nat) {w : World} {a la : Option Addr} {c ln lc m n : Nat} {wh : Bool} {ps : List Bs} {old : Bs} (_ : ps.length = k) (_ : k ≤ 1000) (_ : k ≤ c) (_ : ∀ p ∈ ps, p.length ≤ 100000000) (_ : old.length = ln) (_ : ln ≤ 100000000) (_ : 1 ≤ m) (_ : m ≤ n) (_ : n ≤ 1048576) (_ : PAt w a ps) (_ : BAt w la old),
    Calls Tryz.prog 111 #[.slice a k c, .int .i64 (m : Int), .int .i64 (n : Int), .bool wh, .slice la ln lc] w (RootsSaid w ps.reverse m n wh old)
  | 0, w, a, la, c, ln, lc, m, n, wh, ps, old, hk, _, _, _, hln, hln2, h1, hmn, h2, _, hl => by
    have hp : ps = [] := List.length_eq_zero_iff.1 hk
    subst hp
    by_cases hn1 : m = n
    · subst hn1
      cases wh with
      | true =>
        have HR : Hid (RootsSaid w [].reverse m m true old (.returned (.tuple #[.slice la ln lc, .slice la ln lc, .bool true])) w) := hide ⟨la, ln, lc, la, ln, lc, old, old, true, rfl, by show (if m = m then _ else _) = _; rw [if_pos rfl]; rfl, hln, hln2, hl, hln, hln2, hl, Below.refl _ _⟩
        clear hl hln hk
        go_enter Tryz.func111, Tryz.ntmps111
        go_wp2
        exact bodyPost_ret (by simp [results, Tryz.results111, go_sem]) rfl (unhide HR)
      | false =>
        have HR : Hid (RootsSaid w [].reverse m m false old (.returned (.tuple #[.slice none 0 0, .slice none 0 0, .bool false])) w) := hide ⟨none, 0, 0, none, 0, 0, [], [], false, rfl, by show (if m = m then _ else _) = _; rw [if_pos rfl]; rfl, rfl, by omega, ⟨Or.inl rfl⟩, rfl, by omega, ⟨Or.inl rfl⟩, Below.refl _ _⟩
        clear hl hln hk
        go_enter Tryz.func111, Tryz.ntmps111
        go_wp2
        exact bodyPost_ret (by simp [results, Tryz.results111, go_sem]) rfl (unhide HR)
    · have hq : ((m : Int) == (n : Int)) = false := by simp; omega
      have HR : Hid (RootsSaid w [].reverse m n wh old (.returned (.tuple #[.slice none 0 0, .slice none 0 0, .bool false])) w) := hide ⟨none, 0, 0, none, 0, 0, [], [], false, rfl, rootsP_nil_ne hn1 _ _, rfl, by omega, ⟨Or.inl rfl⟩, rfl, by omega, ⟨Or.inl rfl⟩, Below.refl _ _⟩
      clear hl hln hk
      go_enter Tryz.func111, Tryz.ntmps111
      go_wp2
      exact bodyPost_ret (by simp [results, Tryz.results111, go_sem]) rfl (unhide HR)
  | k + 1, w, a, la, c, ln, lc, m, n, wh, ps, old, hk, hk2, hkc, hpl, hln, hln2, h1, hmn, h2, hpa, hl => by
    obtain ⟨qs, p, rfl⟩ : ∃ qs p, ps = qs ++ [p] := ⟨ps.dropLast, ps.getLast (by intro e; rw [e] at hk; simp at hk), (List.dropLast_concat_getLast _).symm⟩
    have hqk : qs.length = k := by simpa using hk
    have hrev : (qs ++ [p]).reverse = p :: qs.reverse := by simp
    have hz : (((k + 1 : Nat) : Int) == 0) = false := by simp; omega
    obtain ⟨B, O, rfl⟩ : ∃ B O, a = some ⟨B, O, none⟩ := by
      rcases hpa.els with h0 | ⟨B, O, e, _⟩
      · simp at h0
      · exact ⟨B, O, e⟩
    have HAP := apart_any (n := k) (p := p) hk (by rw [List.getElem?_append_right (by omega), hqk]; simp) (by omega) hkc hpa
    have hpq : PAt w (some ⟨B, O, none⟩) qs := by
      have := hpa.front k
      rw [← hqk, List.take_left] at this
      exact this
    have hpp : p.length ≤ 100000000 := hpl p (by simp)
    have hql : ∀ x ∈ qs, x.length ≤ 100000000 := fun x hx => hpl x (by simp [hx])
    obtain ⟨k1, hk1⟩ : ∃ k1, k + 1 = k1 := ⟨_, rfl⟩
    rw [hrev]
    rw [hk1] at hz HAP ⊢
    by_cases hn1 : m = n
    · subst hn1
      cases wh with
      | true =>
        have HR : Hid (RootsSaid w (p :: qs.reverse) m m true old (.returned (.tuple #[.slice la ln lc, .slice la ln lc, .bool false])) w) := hide ⟨la, ln, lc, la, ln, lc, old, old, false, rfl, by show (if m = m then _ else _) = _; rw [if_pos rfl]; rfl, hln, hln2, hl, hln, hln2, hl, Below.refl _ _⟩
        clear hl hln hk hpa hpl hrev HAP hpq hql hqk
        go_enter Tryz.func111, Tryz.ntmps111
        go_wp2
        exact bodyPost_ret (by simp [results, Tryz.results111, go_sem]) rfl (unhide HR)
      | false =>
        have HR : Hid (∀ x d w', Below w.heap.size w w' → BAt w x p → RootsSaid w (p :: qs.reverse) m m false old (.returned (.tuple #[.slice x p.length d, .slice x p.length d, .bool (decide (k = 0))])) w') := hide (fun x d w' hb hx => ⟨x, p.length, d, x, p.length, d, p, p, decide (k = 0), rfl, by
          show (if m = m then _ else _) = _
          rw [if_pos rfl]
          simp [hqk], rfl, hpp, hx.low hb, rfl, hpp, hx.low hb, hb⟩)
        have HA := hide HAP
        have hdz : ((k : Int) == 0) = decide (k = 0) := by rw [Bool.eq_iff_iff]; simp
        clear hl hln hk hpa hpl hrev HAP hpq hql hqk
        go_enter Tryz.func111, Tryz.ntmps111
        go_wp2_with (go_at_call 109; fail)
        refine (unhide HA).mono ?_
        rintro e w5 ⟨x, d, rfl, hx, q, hw5⟩
        have hb5 : Below w.heap.size w w5 := by rw [hw5]; exact lowN (Below.refl _ _) _
        have HX5 := hide hx
        have HB5 := hide hb5
        clear hx hw5 hb5 HA
        obtain ⟨pl, hpl2⟩ : ∃ pl, p.length = pl := ⟨_, rfl⟩
        rw [hpl2] at hpp
        rw [hpl2] at HR ⊢
        clear hpl2
        go_wp2
        exact bodyPost_ret (by simp [results, Tryz.results111, go_sem]) rfl (unhide HR x d _ (unhide HB5) (unhide HX5))
    · have hq : ((m : Int) == (n : Int)) = false := by simp; omega
      obtain ⟨g1, g2, _, _⟩ := half_is (n := n) (by omega) h2
      obtain ⟨hf, hhf⟩ : ∃ hf, half n = hf := ⟨_, rfl⟩
      rw [hhf] at g1 g2
      have HHF := hide (fun wx => firstHalf_any (n := n) (by omega) h2 wx)
      have HH := hide hhf
      have HA := hide HAP
      have HPQ := hide hpq
      have HQL := hide hql
      have HLf := hide hl
      have HLn := hide hln
      have HQK := hide hqk
      have hkc2 : k ≤ c := by omega
      have hf1 : 1 ≤ hf := by omega
      have hf2 : hf ≤ 1048576 := by omega
      clear HAP hpq hql hl hln hqk hpa hpl hk hrev hkc hhf hk1
      by_cases hlt : m ≤ hf
      · go_enter Tryz.func111, Tryz.ntmps111
        go_wp2_with (go_at_call 109; fail)
        refine (unhide HA).mono ?_
        rintro e w5 ⟨x, d, rfl, hx, q, hw5⟩
        have hb5 : Below w.heap.size w w5 := by rw [hw5]; exact lowN (Below.refl _ _) _
        have HX5 := hide (hx.low hb5)
        have HB5 := hide hb5
        clear hx hw5 hb5 HA
        go_wp2_with (go_at_call 110; fail)
        refine (unhide HHF _).mono ?_
        rintro e w6 ⟨rfl, rfl⟩
        rw [unhide HH]
        go_wp2_with (go_at_call 111; fail)
        refine (rootsBy_any k (m := m) (n := hf) (wh := wh) (lc := lc) (unhide HQK) (by omega) hkc2 (unhide HQL) (unhide HLn) hln2 h1 hlt hf2 ((unhide HPQ).low (unhide HB5)) ((unhide HLf).low (unhide HB5))).mono ?_
        rintro e w7 ⟨va, vn, vc, ua, un, uc, b, b2, ok, rfl, hr7, hbl, hvn, hbb, hul, hun, hub, hb7⟩
        have hx6 := unhide HX5
        have HND := hide (node_any (c := uc) (c2 := d) (b := b2) (b2 := p) hul rfl hun hpp hub (hx6.low hb7))
        have HFin : Hid (rootsP (p :: qs.reverse) m n wh old = (b, nodeL b2 p, ok)) := hide (by rw [rootsP_cons_ne hn1, unhide HH, if_pos hlt, hr7])
        have HB7 := hide (low_trans (unhide HB5) hb7)
        have HBB := hide hbb
        have HBL := hide hbl
        clear hr7 hbl hbb hb7 hx6 HX5 HB5 hul hun hub
        go_wp2_with (go_at_call 72; fail)
        refine (unhide HND).mono ?_
        rintro e w8 ⟨v8, rfl, o8, b8⟩
        obtain ⟨a8, c8, rfl, hb8, _, _⟩ := OwnB.at o8
        have HR : Hid (RootsSaid w (p :: qs.reverse) m n wh old (.returned (.tuple #[.slice va vn vc, .slice a8 (nodeL b2 p).length c8, .bool ok])) w8) := hide ⟨va, vn, vc, a8, _, c8, b, nodeL b2 p, ok, rfl, unhide HFin, unhide HBL, hvn, (unhide HBB).low b8, rfl, by rw [node_len]; omega, hb8, low_trans (unhide HB7) b8⟩
        clear o8 b8 hb8 HND
        go_wp2
        exact bodyPost_ret (by simp [results, Tryz.results111, go_sem]) rfl (unhide HR)
      · obtain ⟨m2, hm2⟩ : ∃ m2, m - hf = m2 := ⟨_, rfl⟩
        obtain ⟨n2, hn2⟩ : ∃ n2, n - hf = n2 := ⟨_, rfl⟩
        have e1 : (m : Int) - (hf : Int) = (m2 : Int) := by omega
        have e2 : (n : Int) - (hf : Int) = (n2 : Int) := by omega
        have HM2 := hide hm2
        have HN2 := hide hn2
        have m21 : 1 ≤ m2 := by omega
        have n22 : n2 ≤ 1048576 := by omega
        have mn2 : m2 ≤ n2 := by omega
        clear hm2 hn2
        go_enter Tryz.func111, Tryz.ntmps111
        go_wp2_with (go_at_call 109; fail)
        refine (unhide HA).mono ?_
        rintro e w5 ⟨x, d, rfl, hx, q, hw5⟩
        have hb5 : Below w.heap.size w w5 := by rw [hw5]; exact lowN (Below.refl _ _) _
        have HX5 := hide (hx.low hb5)
        have HB5 := hide hb5
        clear hx hw5 hb5 HA
        go_wp2_with (go_at_call 110; fail)
        refine (unhide HHF _).mono ?_
        rintro e w6 ⟨rfl, rfl⟩
        rw [unhide HH]
        go_wp2_with (go_at_call 111; fail)
        refine (rootsBy_any k (m := m2) (n := n2) (wh := false) (lc := lc) (unhide HQK) (by omega) hkc2 (unhide HQL) (unhide HLn) hln2 m21 mn2 n22 ((unhide HPQ).low (unhide HB5)) ((unhide HLf).low (unhide HB5))).mono ?_
        rintro e w7 ⟨va, vn, vc, ua, un, uc, b, b2, ok, rfl, hr7, hbl, hvn, hbb, hul, hun, hub, hb7⟩
        have hx6 := (unhide HX5).low hb7
        have HND := hide (node_any (c := d) (c2 := vc) (b := p) (b2 := b) rfl hbl hpp hvn hx6 hbb)
        have HFin : Hid (rootsP (p :: qs.reverse) m n wh old = (nodeL p b, nodeL p b2, ok)) := hide (by rw [rootsP_cons_ne hn1, unhide HH, if_neg hlt, unhide HM2, unhide HN2, hr7])
        have HB7 := hide (low_trans (unhide HB5) hb7)
        have HX6 := hide hx6
        have HUB := hide hub
        have HUL := hide hul
        clear hr7 hbl hbb hb7 hx6 HX5 HB5 hul hub
        go_wp2_with (go_at_call 72; fail)
        refine (unhide HND).mono ?_
        rintro e w8 ⟨v8, rfl, o8, b8⟩
        obtain ⟨a8, c8, rfl, hb8, _, _⟩ := OwnB.at o8
        have HND2 := hide (node_any (c := d) (c2 := uc) (b := p) (b2 := b2) rfl (unhide HUL) hpp hun ((unhide HX6).low b8) ((unhide HUB).low b8))
        have HB8 := hide (low_trans (unhide HB7) b8)
        have HO8 := hide hb8
        obtain ⟨n8, hn8⟩ : ∃ n8, (nodeL p b).length = n8 := ⟨_, rfl⟩
        rw [hn8]
        have HN8 := hide hn8
        clear o8 b8 hb8 HND hn8 HUL HUB
        go_wp2_with (go_at_call 72; fail)
        refine (unhide HND2).mono ?_
        rintro e w9 ⟨v9, rfl, o9, b9⟩
        obtain ⟨a9, c9, rfl, hb9, _, _⟩ := OwnB.at o9
        have HR : Hid (RootsSaid w (p :: qs.reverse) m n wh old (.returned (.tuple #[.slice a8 n8 c8, .slice a9 (nodeL p b2).length c9, .bool ok])) w9) := hide ⟨a8, n8, c8, a9, _, c9, nodeL p b, nodeL p b2, ok, rfl, unhide HFin, unhide HN8, by rw [← unhide HN8, node_len]; omega, (unhide HO8).low b9, rfl, by rw [node_len]; omega, hb9, low_trans (unhide HB8) b9⟩
        clear o9 b9 hb9 HND2 HO8 HB8
        go_wp2
        exact bodyPost_ret (by simp [results, Tryz.results111, go_sem]) rfl (unhide HR)
end Go.Proofs.YtkpmbbeidcpclaaGreatDoor
