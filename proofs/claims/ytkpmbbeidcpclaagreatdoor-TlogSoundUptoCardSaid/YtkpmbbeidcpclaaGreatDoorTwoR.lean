/-
  The hashes that a proof of a longer log makes, and how many it has: the reference's way.
-/
import Derived.Test.YtkpmbbeidcpclaaGreatDoorSubP
import Derived.Test.YtkpmbbeidcpclaaGreatDoorClimb
namespace Go.Proofs.YtkpmbbeidcpclaaGreatDoor
open Go.RowKit

set_option maxHeartbeats 1000000 in
theorem subSteps_any {m n : Nat} {wh : Bool} (h1 : 1 ≤ m) (hmn : m ≤ n) (h2 : n ≤ 1048576) (w : World) : Calls Tryz.prog 86 #[.int .i64 (m : Int), .int .i64 (n : Int), .bool wh] w fun e w' => e = .returned (.int .i64 (subN 20 m n wh : Int)) ∧ w' = w := by
  go_enter Tryz.func86, Tryz.ntmps86
  go_wp2
  go_loop [0, 1, 2, 7, 8] (fun v0 v1 v2 v7 _ => ∃ (f i j k : Nat) (u : Bool), v0 = .int .i64 (i : Int) ∧ v1 = .int .i64 (j : Int) ∧ v2 = .bool u ∧ v7 = .int .i64 (k : Int) ∧ 1 ≤ i ∧ i ≤ j ∧ j ≤ 1048576 ∧ j ≤ 2 ^ f ∧ f + k ≤ 20 ∧ subN 20 m n wh = k + subN f i j u) (fun _ v1 _ _ _ => (intOf v1).toNat)
  case atStart => exact ⟨20, m, n, 0, wh, rfl, rfl, rfl, rfl, h1, hmn, h2, Nat.le_trans h2 (by decide), by omega, by omega⟩
  case round =>
    obtain ⟨f, i, j, k, u, rfl, rfl, rfl, rfl, hi1, hij, hj2, hf, hfk, hst⟩ := hrel
    by_cases hm : i = j
    · subst hm
      rw [subN_eq] at hst
      cases u with
      | true =>
        have HE : Hid (subN 20 m n wh = k) := hide (by rw [hst]; rfl)
        clear hst hf
        go_wp2
        go_ret
        exact ⟨by rw [unhide HE]; rfl, rfl⟩
      | false =>
        have HE : Hid (subN 20 m n wh = k + 1) := hide (by rw [hst]; rfl)
        clear hst hf
        go_wp2
        go_ret
        exact ⟨by rw [unhide HE]; push_cast; rfl, rfl⟩
    · obtain ⟨g1, g2, _, _⟩ := half_is (n := j) (by omega) hj2
      obtain ⟨f', rfl⟩ : ∃ f', f = f' + 1 := by
        cases f with
        | zero => exfalso; simp at hf; omega
        | succ f' => exact ⟨f', rfl⟩
      have hh := half_le (f := f') (n := j) (by omega) hj2 hf
      have HS := hide (fun wx => refSplit_any (n := j) (by omega) hj2 wx)
      rw [subN_ne hm] at hst
      obtain ⟨s, hs⟩ : ∃ s, half j = s := ⟨_, rfl⟩
      rw [hs] at g1 g2 hh hst
      have HHS := hide hs
      have hq : ((i : Int) != (j : Int)) = true := by simp; omega
      clear hs hf
      by_cases hjs : i ≤ s
      · rw [if_pos hjs] at hst
        have HST := hide hst
        have HHH := hide hh
        clear hst hh
        go_wp2_with (go_at_call 88; fail)
        refine (unhide HS _).mono ?_
        rintro e w1 ⟨rfl, rfl⟩
        rw [unhide HHS]
        go_wp2
        go_round
        case rel => exact ⟨f', i, s, k + 1, u, rfl, rfl, rfl, by push_cast; rfl, hi1, hjs, by omega, unhide HHH, by omega, by rw [unhide HST]; omega⟩
        case measure => simp [intOf]; omega
      · rw [if_neg hjs] at hst
        obtain ⟨i2, hi2⟩ : ∃ i2, i - s = i2 := ⟨_, rfl⟩
        obtain ⟨j2, hj2'⟩ : ∃ j2, j - s = j2 := ⟨_, rfl⟩
        rw [hi2, hj2'] at hst
        have e1 : (i : Int) - (s : Int) = (i2 : Int) := by omega
        have e2 : (j : Int) - (s : Int) = (j2 : Int) := by omega
        have HST := hide hst
        have HHH : Hid (j2 ≤ 2 ^ f') := hide (by omega)
        have a1 : 1 ≤ i2 := by omega
        have a2 : i2 ≤ j2 := by omega
        have a3 : j2 ≤ 1048576 := by omega
        have a4 : j2 < j := by omega
        clear hst hh hi2 hj2'
        go_wp2_with (go_at_call 88; fail)
        refine (unhide HS _).mono ?_
        rintro e w1 ⟨rfl, rfl⟩
        rw [unhide HHS]
        go_wp2
        go_round
        case rel => exact ⟨f', i2, j2, k + 1, false, rfl, rfl, rfl, by push_cast; rfl, a1, a2, a3, unhide HHH, by omega, by rw [unhide HST]; omega⟩
        case measure => simp [intOf]; omega

/-- What two answers. -/
def TwoSaid (w : World) (b b2 : Bs) (e : Ending) (w' : World) : Prop := ∃ va vn vc ua un uc, e = .returned (.tuple #[.slice va vn vc, .slice ua un uc]) ∧ b.length = vn ∧ vn ≤ 100000000 ∧ BAt w' va b ∧ b2.length = un ∧ un ≤ 100000000 ∧ BAt w' ua b2 ∧ Below w.heap.size w w'

set_option maxRecDepth 100000 in
set_option maxHeartbeats 2000000 in
theorem two_right {w : World} {B O k k1 c ln lc m n hf m2 n2 mm d : Nat} {la x : Option Addr} {wh : Bool} {p b0 b1 b b2 : Bs} (hhf : half n = hf) (hk1 : k + 1 = k1) (hk1c : k1 ≤ c) (hkc2 : k ≤ c) (hk1b : k1 ≤ 1001) (h2 : n ≤ 1048576) (hmn : m ≤ n) (hlt : ¬ m ≤ hf) (hm2 : m - hf = m2) (hn2 : n - hf = n2)
    (hx1 : w.cell? ⟨B, O + k, none⟩ = some (.slice x mm d)) (hm : p.length = mm) (hpp : mm ≤ 100000000) (hx2 : BAt w x p) (hbe0 : nodeL p b0 = b) (hbe : nodeL p b1 = b2) (hn1 : m ≠ n)
    (hrec : Calls Tryz.prog 87 #[.int .i64 (m2 : Int), .int .i64 (n2 : Int), .bool false, .slice la ln lc, .slice (some ⟨B, O, none⟩) k c] w (TwoSaid w b0 b1)) :
    Calls Tryz.prog 87 #[.int .i64 (m : Int), .int .i64 (n : Int), .bool wh, .slice la ln lc, .slice (some ⟨B, O, none⟩) k1 c] w (TwoSaid w b b2) := by
  have hq : ((m : Int) == (n : Int)) = false := by simp; omega
  have e0 : (k1 : Int) - 1 = (k : Int) := by omega
  have hkk : (k : Int) < (k1 : Int) := by omega
  have hkkn : k < k1 := by omega
  obtain ⟨g1, g2, _, _⟩ := half_is (n := n) (by
    have : hf ≠ 0 := by rw [← hhf]; unfold half; exact Nat.ne_of_gt (Nat.two_pow_pos _)
    omega) h2
  rw [hhf] at g1 g2
  have HS := hide (fun wx => refSplit_any (n := n) (by
    have : hf ≠ 0 := by rw [← hhf]; unfold half; exact Nat.ne_of_gt (Nat.two_pow_pos _)
    omega) h2 wx)
  have HH := hide hhf
  have HREC := hide hrec
  have HX2 := hide hx2
  have HBE := hide hbe
  have HBE0 := hide hbe0
  have HM := hide hm
  have e1 : (m : Int) - (hf : Int) = (m2 : Int) := by omega
  have e2 : (n : Int) - (hf : Int) = (n2 : Int) := by omega
  clear hrec hx2 hbe hbe0 hm hhf hk1 hm2 hn2
  go_enter Tryz.func87, Tryz.ntmps87
  go_wp2_with (go_at_call 88; fail)
  refine (unhide HS _).mono ?_
  rintro e w6 ⟨rfl, rfl⟩
  rw [unhide HH]
  go_wp2_with (go_at_call 87; fail)
  refine (unhide HREC).mono ?_
  rintro e w7 ⟨va, vn, vc, ua, un, uc, rfl, y1, y2, y3, z1, z2, z3, y4⟩
  have hc7 : w7.cell? ⟨B, O + k, none⟩ = some (.slice x mm d) := (y4.cell (lt_of_cell hx1)).trans hx1
  have hx7 := (unhide HX2).low y4
  have HND0 : Hid (∀ wx, (wx.cell? ⟨B, O + k, none⟩ = some (.slice x mm d) ∧ Below w7.heap.size w7 wx) → Calls Tryz.prog 89 #[.slice x mm d, .slice va vn vc] wx fun e w' => ∃ va' vn' vc', e = .returned (.slice va' vn' vc') ∧ Hid ((nodeL p b0).length = vn' ∧ vn' ≤ 100000000 ∧ BAt w' va' (nodeL p b0) ∧ Below wx.heap.size wx w') ∧ w'.cell? ⟨B, O + k, none⟩ = some (.slice x mm d) ∧ Below w7.heap.size w7 w') := hide (fun wx ⟨hc, hb⟩ => by
    refine (refNode_any (c := d) (c2 := vc) (b := p) (b2 := b0) (unhide HM) y1 hpp y2 (hx7.low hb) (y3.low hb)).mono ?_
    rintro e w' ⟨v, rfl, o, bl⟩
    obtain ⟨a8, c8, rfl, hb8, _, _⟩ := OwnB.at o
    exact ⟨a8, _, c8, rfl, hide ⟨rfl, by rw [node_len]; omega, hb8, bl⟩, (bl.cell (lt_of_cell hc)).trans hc, low_trans hb bl⟩)
  have HND1 : Hid (∀ wx, (wx.cell? ⟨B, O + k, none⟩ = some (.slice x mm d) ∧ Below w7.heap.size w7 wx) → Calls Tryz.prog 89 #[.slice x mm d, .slice ua un uc] wx fun e w' => ∃ va' vn' vc', e = .returned (.slice va' vn' vc') ∧ Hid ((nodeL p b1).length = vn' ∧ vn' ≤ 100000000 ∧ BAt w' va' (nodeL p b1) ∧ Below wx.heap.size wx w') ∧ w'.cell? ⟨B, O + k, none⟩ = some (.slice x mm d) ∧ Below w7.heap.size w7 w') := hide (fun wx ⟨hc, hb⟩ => by
    refine (refNode_any (c := d) (c2 := uc) (b := p) (b2 := b1) (unhide HM) z1 hpp z2 (hx7.low hb) (z3.low hb)).mono ?_
    rintro e w' ⟨v, rfl, o, bl⟩
    obtain ⟨a8, c8, rfl, hb8, _, _⟩ := OwnB.at o
    exact ⟨a8, _, c8, rfl, hide ⟨rfl, by rw [node_len]; omega, hb8, bl⟩, (bl.cell (lt_of_cell hc)).trans hc, low_trans hb bl⟩)
  have HY4 := hide y4
  have hB0 : Below w7.heap.size w7 w7 := Below.refl _ _
  clear y1 y3 z1 z3 y4 hx1 HREC HS hx7 y2 z2 HX2
  go_wp2
  go_region_held3 (fun w' => w'.cell? ⟨B, O + k, none⟩ = some (.slice x mm d) ∧ Below w7.heap.size w7 w')
    (first | assumption | exact ⟨by assumption, (Below.refl _ _).drew⟩ | exact ⟨by assumption, by assumption⟩ | exact ⟨by assumption, Below.drew (by assumption)⟩ | go_keep)
    ((first | (go_at_call_of 89 (Value.slice va vn vc); refine (unhide HND0 _ (by assumption)).mono ?_; rintro e w8 ⟨va8, vn8, vc8, rfl, hv8, hc8, hb8⟩) | (go_at_call_of 89 (Value.slice ua un uc); refine (unhide HND1 _ (by assumption)).mono ?_; rintro e w9 ⟨va9, vn9, vc9, rfl, hv9, hc9, hb9⟩)))
  have HR : Hid (TwoSaid w6 b b2 (.returned (.tuple #[.slice va8 vn8 vc8, .slice va9 vn9 vc9])) w9) := hide (by
    obtain ⟨y1, y2, y3, y4⟩ := unhide hv8
    obtain ⟨z1, z2, z3, z4⟩ := unhide hv9
    rw [unhide HBE0] at y1 y3
    rw [unhide HBE] at z1 z3
    exact ⟨va8, vn8, vc8, va9, vn9, vc9, rfl, y1, y2, y3.low z4, z1, z2, z3, low_trans (unhide HY4) hb9⟩)
  clear hv8 hv9 hb8 hb9 hc8 hc9
  go_wp2
  go_ret2
  exact unhide HR

end Go.Proofs.YtkpmbbeidcpclaaGreatDoor
