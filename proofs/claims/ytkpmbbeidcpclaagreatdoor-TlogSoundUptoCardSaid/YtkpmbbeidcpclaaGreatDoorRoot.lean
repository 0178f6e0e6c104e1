/-
  The hash that a leaf and its path make: the program's way.
-/
import Derived.Test.YtkpmbbeidcpclaaGreatDoorChk
namespace Go.Proofs.YtkpmbbeidcpclaaGreatDoor
open Go.RowKit

/-- By the path from its end: the hash, and whether there are just as many as it takes. -/
def rootP : List Bs → Nat → Nat → Bs → Bs × Bool
  | [], _, n, leaf => if n = 1 then (leaf, true) else ([], false)
  | p :: r, i, n, leaf =>
    if n = 1 then (leaf, false)
    else if i < half n then (nodeL (rootP r i (half n) leaf).1 p, (rootP r i (half n) leaf).2)
    else (nodeL p (rootP r (i - half n) (n - half n) leaf).1, (rootP r (i - half n) (n - half n) leaf).2)

theorem node_len (a b : Bs) : (nodeL a b).length = 32 := by
  unfold nodeL shaL
  simp only
  rw [List.length_flatMap]
  rfl

set_option maxHeartbeats 1000000 in
theorem apart_any {w : World} {B O n c : Nat} {ps : List Bs} {p : Bs} (hn : ps.length = n + 1) (hp : ps[n]? = some p) (hN : n ≤ 1073741824) (hc : n + 1 ≤ c) (h : PAt w (some ⟨B, O, none⟩) ps) :
    Calls Tryz.prog 109 #[.slice (some ⟨B, O, none⟩) (n + 1) c] w fun e w' => ∃ x d, e = .returned (.tuple #[.slice (some ⟨B, O, none⟩) n c, .slice x p.length d]) ∧ BAt w x p ∧ ∃ q, w' = w.drewN q := by
  rcases h.els with h0 | ⟨B', O', ha, he⟩
  · rw [h0] at hn; simp at hn
  · cases ha
    obtain ⟨x, d, h1, h2⟩ := he n (by omega)
    have ep : ps[n]'(by omega) = p := by rw [List.getElem?_eq_getElem (by omega)] at hp; exact Option.some.inj hp
    rw [ep] at h1 h2
    obtain ⟨m, hm⟩ : ∃ m, p.length = m := ⟨_, rfl⟩
    rw [hm] at h1 ⊢
    have HB := hide h2
    obtain ⟨k, hk⟩ : ∃ k, n + 1 = k := ⟨_, rfl⟩
    have q2 : (k : Int) - 1 = (n : Int) := by omega
    have q3 : (n : Int) < (k : Int) := by omega
    have q4 : n ≤ c := by omega
    have q5 : (n : Int) ≤ (c : Int) := by omega
    have hkb : k ≤ 1073741825 := by omega
    have hkc : k ≤ c := by omega
    have hnk : n < k := by omega
    rw [hk]
    clear hm h2 he hp ep hn hk hc h
    go_enter Tryz.func109, Tryz.ntmps109
    go_wp2
    go_quiet (fail)
    go_wp2
    go_ret2
    exact ⟨x, d, rfl, unhide HB, nq, rfl⟩
/-- What rootBy answers. -/
def RootSaid (w : World) (rp : List Bs) (i n : Nat) (leaf : Bs) (e : Ending) (w' : World) : Prop := ∃ va vn vc b ok, e = .returned (.tuple #[.slice va vn vc, .bool ok]) ∧ rootP rp i n leaf = (b, ok) ∧ b.length = vn ∧ vn ≤ 100000000 ∧ BAt w' va b ∧ Below w.heap.size w w'

set_option maxRecDepth 100000 in
set_option maxHeartbeats 2000000 in
theorem rootBy_any : ∀ (k : Nat) {w : World} {a la : Option Addr} {c ln lc i n : Nat} {ps : List Bs} {leaf : Bs} (_ : ps.length = k) (_ : k ≤ 1000) (_ : k ≤ c) (_ : ∀ p ∈ ps, p.length ≤ 100000000) (_ : leaf.length = ln) (_ : ln ≤ 100000000) (_ : 1 ≤ n) (_ : n ≤ 1048576) (_ : i < n) (_ : PAt w a ps) (_ : BAt w la leaf),
    Calls Tryz.prog 79 #[.slice a k c, .int .i64 (i : Int), .int .i64 (n : Int), .slice la ln lc] w (RootSaid w ps.reverse i n leaf)
  | 0, w, a, la, c, ln, lc, i, n, ps, leaf, hk, _, _, _, hln, hln2, h1, h2, hi, _, hl => by
    have hp : ps = [] := List.length_eq_zero_iff.1 hk
    subst hp
    by_cases hn1 : n = 1
    · subst hn1
      have HR : Hid (∀ w', w' = w → RootSaid w [].reverse i 1 leaf (.returned (.tuple #[.slice la ln lc, .bool true])) w') := hide (fun w' e => ⟨la, ln, lc, leaf, true, rfl, rfl, hln, hln2, by rw [e]; exact hl, by rw [e]; exact Below.refl _ _⟩)
      clear hl hln hk
      go_enter Tryz.func79, Tryz.ntmps79
      go_wp2
      go_ret2
      exact unhide HR _ rfl
    · have hq : ((n : Int) == 1) = false := by simp; omega
      have HR : Hid (∀ w', w' = w → RootSaid w [].reverse i n leaf (.returned (.tuple #[.slice none 0 0, .bool false])) w') := hide (fun w' e => ⟨none, 0, 0, [], false, rfl, by show (if n = 1 then _ else _) = _; rw [if_neg hn1], rfl, by omega, ⟨Or.inl rfl⟩, by rw [e]; exact Below.refl _ _⟩)
      clear hl hln hk
      go_enter Tryz.func79, Tryz.ntmps79
      go_wp2
      go_ret2
      exact unhide HR _ rfl
  | k + 1, w, a, la, c, ln, lc, i, n, ps, leaf, hk, hk2, hkc, hpl, hln, hln2, h1, h2, hi, hpa, hl => by
    obtain ⟨qs, p, rfl⟩ : ∃ qs p, ps = qs ++ [p] := ⟨ps.dropLast, ps.getLast (by intro e; rw [e] at hk; simp at hk), (List.dropLast_concat_getLast _).symm⟩
    have hqk : qs.length = k := by simpa using hk
    have hrev : (qs ++ [p]).reverse = p :: qs.reverse := by simp
    rw [hrev]
    by_cases hn1 : n = 1
    · subst hn1
      have HR : Hid (∀ w', w' = w → RootSaid w (p :: qs.reverse) i 1 leaf (.returned (.tuple #[.slice la ln lc, .bool false])) w') := hide (fun w' e => ⟨la, ln, lc, leaf, false, rfl, rfl, hln, hln2, by rw [e]; exact hl, by rw [e]; exact Below.refl _ _⟩)
      have hz : (((k + 1 : Nat) : Int) == 0) = false := by simp; omega
      obtain ⟨k1, hk1⟩ : ∃ k1, k + 1 = k1 := ⟨_, rfl⟩
      rw [hk1] at hz ⊢
      clear hl hln hk hpa hpl hrev
      go_enter Tryz.func79, Tryz.ntmps79
      go_wp2
      go_ret2
      exact unhide HR _ rfl
    · have hq : ((n : Int) == 1) = false := by simp; omega
      have hz : (((k + 1 : Nat) : Int) == 0) = false := by simp; omega
      obtain ⟨g1, g2, _, _⟩ := half_is (by omega) h2
      obtain ⟨B, O, rfl⟩ : ∃ B O, a = some ⟨B, O, none⟩ := by
        rcases hpa.els with h0 | ⟨B, O, e, _⟩
        · simp at h0
        · exact ⟨B, O, e⟩
      have HAP := apart_any (n := k) (p := p) hk (by rw [List.getElem?_append_right (by omega), hqk]; simp) (by omega) hkc hpa
      have hpq : PAt w (some ⟨B, O, none⟩) qs := by
        have := hpa.front k
        rw [← hqk, List.take_left] at this
        exact this
      have hpp : p.length ≤ 100000000 := hpl p (by simp)
      have hql : ∀ x ∈ qs, x.length ≤ 100000000 := fun x hx => hpl x (by simp [hx])
      obtain ⟨k1, hk1⟩ : ∃ k1, k + 1 = k1 := ⟨_, rfl⟩
      rw [hk1] at hz HAP ⊢
      obtain ⟨hf, hhf⟩ : ∃ hf, half n = hf := ⟨_, rfl⟩
      rw [hhf] at g1 g2
      have HHF := hide (fun wx => firstHalf_any (n := n) (by omega) h2 wx)
      have HH := hide hhf
      have HA := hide HAP
      have HPQ := hide hpq
      have HQL := hide hql
      have HLf := hide hl
      have HLn := hide hln
      have HQK := hide hqk
      have hkc2 : k ≤ c := by omega
      have hf1 : 1 ≤ hf := by omega
      have hf2 : hf ≤ 1048576 := by omega
      clear HAP hpq hql hl hln hqk hpa hpl hk hrev hkc hhf hk1
      by_cases hlt : i < hf
      · go_enter Tryz.func79, Tryz.ntmps79
        go_wp2_with (go_at_call 109; fail)
        refine (unhide HA).mono ?_
        rintro e w5 ⟨x, d, rfl, hx, q, hw5⟩
        have hb5 : Below w.heap.size w w5 := by rw [hw5]; exact lowN (Below.refl _ _) _
        have HX5 := hide (hx.low hb5)
        have HB5 := hide hb5
        clear hx hw5 hb5 HA
        go_wp2_with (go_at_call 110; fail)
        refine (unhide HHF _).mono ?_
        rintro e w6 ⟨rfl, rfl⟩
        rw [unhide HH]
        go_wp2_with (go_at_call 79; fail)
        refine (rootBy_any k (i := i) (n := hf) (lc := lc) (unhide HQK) (by omega) hkc2 (unhide HQL) (unhide HLn) hln2 hf1 hf2 hlt ((unhide HPQ).low (unhide HB5)) ((unhide HLf).low (unhide HB5))).mono ?_
        rintro e w7 ⟨va, vn, vc, b, ok, rfl, hr7, hbl, hvn, hbb, hb7⟩
        have hx6 := unhide HX5
        have HND := hide (node_any (c := vc) (c2 := d) (b := b) (b2 := p) hbl rfl hvn hpp hbb (hx6.low hb7))
        have HFin : Hid (rootP (p :: qs.reverse) i n leaf = (nodeL b p, ok)) := hide (by show (if n = 1 then _ else if i < half n then _ else _) = _; rw [if_neg hn1, unhide HH, if_pos hlt, hr7])
        have HB7 := hide (low_trans (unhide HB5) hb7)
        clear hr7 hbl hvn hbb hb7 hx6 HX5 HB5
        go_wp2_with (go_at_call 72; fail)
        refine (unhide HND).mono ?_
        rintro e w8 ⟨v8, rfl, o8, b8⟩
        obtain ⟨a8, c8, rfl, hb8, _, _⟩ := OwnB.at o8
        have HR : Hid (RootSaid w (p :: qs.reverse) i n leaf (.returned (.tuple #[.slice a8 (nodeL b p).length c8, .bool ok])) w8) := hide ⟨a8, _, c8, nodeL b p, ok, rfl, unhide HFin, rfl, by rw [node_len]; omega, hb8, low_trans (unhide HB7) b8⟩
        clear o8 b8 hb8 HND
        go_wp2
        go_ret2
        exact unhide HR
      · obtain ⟨i2, hi2⟩ : ∃ i2, i - hf = i2 := ⟨_, rfl⟩
        obtain ⟨n2, hn2⟩ : ∃ n2, n - hf = n2 := ⟨_, rfl⟩
        have e1 : (i : Int) - (hf : Int) = (i2 : Int) := by omega
        have e2 : (n : Int) - (hf : Int) = (n2 : Int) := by omega
        have HI2 := hide hi2
        have HN2 := hide hn2
        have n21 : 1 ≤ n2 := by omega
        have n22 : n2 ≤ 1048576 := by omega
        have i22 : i2 < n2 := by omega
        clear hi2 hn2
        go_enter Tryz.func79, Tryz.ntmps79
        go_wp2_with (go_at_call 109; fail)
        refine (unhide HA).mono ?_
        rintro e w5 ⟨x, d, rfl, hx, q, hw5⟩
        have hb5 : Below w.heap.size w w5 := by rw [hw5]; exact lowN (Below.refl _ _) _
        have HX5 := hide (hx.low hb5)
        have HB5 := hide hb5
        clear hx hw5 hb5 HA
        go_wp2_with (go_at_call 110; fail)
        refine (unhide HHF _).mono ?_
        rintro e w6 ⟨rfl, rfl⟩
        rw [unhide HH]
        go_wp2_with (go_at_call 79; fail)
        refine (rootBy_any k (i := i2) (n := n2) (lc := lc) (unhide HQK) (by omega) hkc2 (unhide HQL) (unhide HLn) hln2 n21 n22 i22 ((unhide HPQ).low (unhide HB5)) ((unhide HLf).low (unhide HB5))).mono ?_
        rintro e w7 ⟨va, vn, vc, b, ok, rfl, hr7, hbl, hvn, hbb, hb7⟩
        have hx6 := unhide HX5
        have HND := hide (node_any (c := d) (c2 := vc) (b := p) (b2 := b) rfl hbl hpp hvn (hx6.low hb7) hbb)
        have HFin : Hid (rootP (p :: qs.reverse) i n leaf = (nodeL p b, ok)) := hide (by show (if n = 1 then _ else if i < half n then _ else _) = _; rw [if_neg hn1, unhide HH, if_neg hlt, unhide HI2, unhide HN2, hr7])
        have HB7 := hide (low_trans (unhide HB5) hb7)
        clear hr7 hbl hvn hbb hb7 hx6 HX5 HB5
        go_wp2_with (go_at_call 72; fail)
        refine (unhide HND).mono ?_
        rintro e w8 ⟨v8, rfl, o8, b8⟩
        obtain ⟨a8, c8, rfl, hb8, _, _⟩ := OwnB.at o8
        have HR : Hid (RootSaid w (p :: qs.reverse) i n leaf (.returned (.tuple #[.slice a8 (nodeL p b).length c8, .bool ok])) w8) := hide ⟨a8, _, c8, nodeL p b, ok, rfl, unhide HFin, rfl, by rw [node_len]; omega, hb8, low_trans (unhide HB7) b8⟩
        clear o8 b8 hb8 HND
        go_wp2
        go_ret2
        exact unhide HR
end Go.Proofs.YtkpmbbeidcpclaaGreatDoor
