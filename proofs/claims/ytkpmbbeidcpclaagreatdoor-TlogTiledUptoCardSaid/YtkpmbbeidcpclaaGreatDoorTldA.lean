/-
  The hash of the whole tree above some hashes.
-/
import Derived.Test.YtkpmbbeidcpclaaGreatDoorHshE
import Derived.Test.YtkpmbbeidcpclaaGreatDoorClimb
namespace Go.Proofs.YtkpmbbeidcpclaaGreatDoor
open Go.RowKit

/-- The hash of a whole tree of level v above hashes that stand one behind the other. -/
def wholeL : Nat → Bs → Bs
  | 0, b => b
  | v + 1, b => nodeL (wholeL v (b.take (32 * 2 ^ v))) (wholeL v (b.drop (32 * 2 ^ v)))
theorem whole_len : ∀ (v : Nat) (b : Bs), b.length = 32 * 2 ^ v → (wholeL v b).length = 32
  | 0, b, h => by simpa [wholeL] using h
  | v + 1, b, _ => node_len _ _

/-- What it is answered as. -/
def WholeSaid (w : World) (b : Bs) (e : Ending) (w' : World) : Prop := ∃ g c, e = .returned (.slice (some ⟨g, 0, none⟩) 32 c) ∧ OwnB w.heap.size w' (.slice (some ⟨g, 0, none⟩) 32 c) b ∧ Below w.heap.size w w'

theorem BAt.front' {w : World} {B O : Nat} {b : Bs} (h : BAt w (some ⟨B, O, none⟩) b) (n : Nat) : BAt w (some ⟨B, O, none⟩) (b.take n) := by
  rcases h.els with e | ⟨B', O', ea, he⟩
  · exact ⟨Or.inl (by rw [e]; simp)⟩
  · cases ea
    refine ⟨Or.inr ⟨B, O, rfl, fun k hk => ?_⟩⟩
    have hk' : k < b.length := by rw [List.length_take] at hk; omega
    rw [List.getElem_take]
    exact he k hk'
theorem BAt.back' {w : World} {B O : Nat} {b : Bs} (h : BAt w (some ⟨B, O, none⟩) b) (n : Nat) : BAt w (some ⟨B, O + n, none⟩) (b.drop n) := by
  rcases h.els with e | ⟨B', O', ea, he⟩
  · exact ⟨Or.inl (by rw [e]; simp)⟩
  · cases ea
    refine ⟨Or.inr ⟨B, O + n, rfl, fun k hk => ?_⟩⟩
    have hk' : n + k < b.length := by rw [List.length_drop] at hk; omega
    rw [List.getElem_drop, Nat.add_assoc]
    exact he (n + k) hk'

set_option maxRecDepth 100000 in
set_option maxHeartbeats 1000000 in
theorem whole_any : ∀ (v : Nat) {w : World} {B O n c : Nat} {b : Bs} (_ : v ≤ 20) (_ : b.length = n) (_ : 32 * 2 ^ v = n) (_ : n ≤ c) (_ : c ≤ maxLen) (_ : BAt w (some ⟨B, O, none⟩) b),
    Calls Tryz.prog 55 #[.slice (some ⟨B, O, none⟩) n c] w (WholeSaid w (wholeL v b))
  | 0, w, B, O, n, c, b, hv, hb, hn, hnc, hcm, h => by
    simp at hn
    subst hn
    have HC := hide (clone_any (c := c) hb (by omega) h)
    have H32 := hide hb
    clear h hb
    go_enter Tryz.func55, Tryz.ntmps55
    go_wp2_with (go_at_call 63; fail)
    refine (unhide HC).mono ?_
    rintro e w1 ⟨v1, rfl, o1, b1⟩
    obtain ⟨g1, c1, rfl, _⟩ := OwnB.adr o1 (unhide H32)
    have HR : Hid (WholeSaid w (wholeL 0 b) (.returned (.slice (some ⟨g1, 0, none⟩) 32 c1)) w1) := hide ⟨g1, c1, rfl, o1, b1⟩
    clear o1 b1
    go_wp2
    go_ret
    exact unhide HR
  | v + 1, w, B, O, n, c, b, hv, hb, hn, hnc, hcm, h => by
    obtain ⟨s, hs⟩ : ∃ s, 32 * 2 ^ v = s := ⟨_, rfl⟩
    have hs1 : 32 ≤ s := by rw [← hs]; have := Nat.one_le_two_pow (n := v); omega
    have hsb : s ≤ 33554432 := by
      rw [← hs]
      have : 2 ^ v ≤ 2 ^ 20 := Nat.pow_le_pow_right (by decide) (by omega)
      omega
    have hn2 : n = s + s := by rw [← hn, ← hs, Nat.pow_succ]; omega
    have hmt : wholeL (v + 1) b = nodeL (wholeL v (b.take s)) (wholeL v (b.drop s)) := by rw [← hs]; rfl
    obtain ⟨c2, hc2⟩ : ∃ c2, c - s = c2 := ⟨_, rfl⟩
    have l1 : (b.take s).length = s := by rw [List.length_take]; omega
    have l2 : (b.drop s).length = s := by rw [List.length_drop]; omega
    have p1 := h.front' s
    have p2 := h.back' s
    have r1 := whole_len v (b.take s) (by rw [l1, hs])
    have r2 := whole_len v (b.drop s) (by rw [l2, hs])
    have HA : Hid (∀ wx, Below w.heap.size w wx → Calls Tryz.prog 55 #[.slice (some ⟨B, O, none⟩) s c] wx fun e w' => ∃ va vc, e = .returned (.slice va 32 vc) ∧ Hid (BAt w' va (wholeL v (b.take s)) ∧ Below wx.heap.size wx w') ∧ Below w.heap.size w w') := hide (fun wx hbx => by
      refine (whole_any v (by omega) l1 hs (by omega) hcm (p1.low hbx)).mono ?_
      rintro e w' ⟨g, c', rfl, o, bl⟩
      obtain ⟨g', c'', e1, hb'⟩ := OwnB.adr o r1
      obtain ⟨e2, _, _⟩ := Value.slice.inj e1
      exact ⟨_, c', rfl, hide ⟨by rw [e2]; exact hb', bl⟩, low_trans hbx bl⟩)
    have HB : Hid (∀ wx, Below w.heap.size w wx → Calls Tryz.prog 55 #[.slice (some ⟨B, O + s, none⟩) s c2] wx fun e w' => ∃ va vc, e = .returned (.slice va 32 vc) ∧ Hid (BAt w' va (wholeL v (b.drop s)) ∧ Below wx.heap.size wx w') ∧ Below w.heap.size w w') := hide (fun wx hbx => by
      refine (whole_any v (by omega) l2 hs (by omega) (by omega) (p2.low hbx)).mono ?_
      rintro e w' ⟨g, c', rfl, o, bl⟩
      obtain ⟨g', c'', e1, hb'⟩ := OwnB.adr o r2
      obtain ⟨e2, _, _⟩ := Value.slice.inj e1
      exact ⟨_, c', rfl, hide ⟨by rw [e2]; exact hb', bl⟩, low_trans hbx bl⟩)
    have HND : Hid (∀ w0 w7 w8 va vc ua uc, Hid (BAt w7 va (wholeL v (b.take s)) ∧ Below w0.heap.size w0 w7) → Hid (BAt w8 ua (wholeL v (b.drop s)) ∧ Below w7.heap.size w7 w8) → Below w.heap.size w w8 → Calls Tryz.prog 72 #[.slice va 32 vc, .slice ua 32 uc] w8 fun e w' => ∃ g c', e = .returned (.slice (some ⟨g, 0, none⟩) 32 c') ∧ Hid (WholeSaid w (wholeL (v + 1) b) (.returned (.slice (some ⟨g, 0, none⟩) 32 c')) w') ∧ Below w.heap.size w w') := hide (fun w0 w7 w8 va vc ua uc h7 h8 hbx => by
      refine (node_any (c := vc) (c2 := uc) r1 r2 (by omega) (by omega) ((unhide h7).1.low (unhide h8).2) (unhide h8).1).mono ?_
      rintro e w' ⟨v', rfl, o, bl⟩
      obtain ⟨g, c', rfl, _⟩ := OwnB.adr o (node_len _ _)
      exact ⟨g, c', rfl, hide ⟨g, c', rfl, by rw [hmt]; exact OwnB.less hbx.size o, low_trans hbx bl⟩, low_trans hbx bl⟩)
    have hB0 : Below w.heap.size w w := Below.refl _ _
    have k1 : s ≤ c := by omega
    have k2 : (s : Int) ≤ (c : Int) := by omega
    have k3 : s ≤ n := by omega
    have k4 : (s : Int) ≤ (n : Int) := by omega
    have k5 : ¬ (c = s) := by omega
    have k6 : ((n : Int) == 32) = false := by simp; omega
    have k7 : (n : Int).tdiv 2 = (s : Int) := by rw [Int.tdiv_eq_ediv_of_nonneg (by omega)]; omega
    have k8 : n - s = s := by omega
    have hcm' : c ≤ 9223372036854775807 := hcm
    clear hb hn hmt hs l1 l2 p1 p2 h r1 r2 hn2
    go_enter Tryz.func55, Tryz.ntmps55
    go_wp2
    go_region_held3 (fun w' => Below w.heap.size w w')
      (first | assumption | exact (Below.refl _ _).drew | exact Below.drew (by assumption) | go_keep)
      ((first | (go_at_call_of 55 (Value.slice (some ⟨B, O, none⟩) s c); refine (unhide HA _ (by assumption)).mono ?_; rintro e w7 ⟨va7, vc7, rfl, hv7, hb7⟩) | (go_at_call_of 55 (Value.slice (some ⟨B, O + s, none⟩) s c2); refine (unhide HB _ (by assumption)).mono ?_; rintro e w8 ⟨va8, vc8, rfl, hv8, hb8⟩) | (go_at_call 72; refine (unhide HND _ _ _ _ _ _ _ hv7 hv8 (by assumption)).mono ?_; rintro e w9 ⟨g9, c9, rfl, hv9, hb9⟩)))
    have HV9 := hv9
    clear hv9 hv8 hv7
    go_wp2
    go_ret
    exact unhide HV9

end Go.Proofs.YtkpmbbeidcpclaaGreatDoor
