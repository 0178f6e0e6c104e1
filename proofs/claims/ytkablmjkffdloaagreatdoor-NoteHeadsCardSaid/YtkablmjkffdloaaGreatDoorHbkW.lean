/-
  Heads there and back: the law's walk.
-/
import Derived.Test.YtkablmjkffdloaaGreatDoorFstN
import Derived.Test.YtkablmjkffdloaaGreatDoorHedB
import Derived.Test.YtkablmjkffdloaaGreatDoorSameB
namespace Go.Proofs.YtkablmjkffdloaaGreatDoor
open Go.RowKit

theorem headT_len {n : Nat} {r : Bs} (hn : n ≤ 1048576) (hr : r.length = 32) : (headT n r).length ≤ 62 := by
  have h1 := dec_len hn
  have h2 := b64_len32 hr
  unfold headT headM
  simp
  omega

set_option maxRecDepth 100000 in
set_option maxHeartbeats 4000000 in
theorem headsBack_law {w : World} {x : Int} {a : Option Addr} {n c : Nat} {r t : Bs} (hg : Gx w) (hn : r.length = n) (hc : n ≤ c) (h : BAt w a r) :
    Calls Tryz.prog 15 #[.int .i64 x, .slice a n c, .string (ba t)] w fun e w' => e = .returned (.bool true) ∧ Below w.heap.size w w' := by
  have K0 := hide (noteFirst_any hg)
  have HG := hide hg
  have HN := hide hn
  have HH := hide h
  obtain ⟨tl, htl⟩ : ∃ tl, t.length = tl := ⟨_, rfl⟩
  have hsz : (ba t).size = tl := by rw [ba_size]; exact htl
  have HTL := hide htl
  clear hg hn h htl
  go_enter Tryz.func15, Tryz.ntmps15
  go_wp2_with (go_at_call 51; fail)
  refine (unhide K0).mono ?_
  rintro e w1 ⟨rfl, b1⟩
  have HB1 := hide b1
  clear b1 K0
  by_cases g1 : 4000 < n
  · have a1 : (4000 : Int) < (n : Int) := by omega
    go_wp2
    go_ret
    exact ⟨rfl, unhide HB1⟩
  have a1 : ¬ (4000 : Int) < (n : Int) := by omega
  by_cases g2 : 4000 < tl
  · have a2 : (4000 : Int) < (tl : Int) := by omega
    go_wp2
    go_ret
    exact ⟨rfl, unhide HB1⟩
  have a2 : ¬ (4000 : Int) < (tl : Int) := by omega
  by_cases hx : 0 ≤ x ∧ x ≤ 1048576 ∧ n = 32
  · obtain ⟨hx1, hx2, rfl⟩ := hx
    obtain ⟨N, rfl⟩ : ∃ N : Nat, x = (N : Int) := ⟨x.toNat, by omega⟩
    have hN : N ≤ 1048576 := by omega
    have K1 := hide (formatHead_ok (w := w1) (n := N) (c := c) hN (unhide HN) hc ((unhide HG).low (unhide HB1)).tab ((unhide HH).low (unhide HB1)))
    obtain ⟨T, hT⟩ : ∃ T, headT N r = T := ⟨_, rfl⟩
    rw [hT] at K1
    have HIH : Hid (isHead T N r) := hide ⟨hN, unhide HN, hT⟩
    have HTL2 : Hid (T.length ≤ 62) := hide (by rw [← hT]; exact headT_len hN (unhide HN))
    clear hT hx1 hx2
    go_wp2_with (go_at_call 64; fail)
    refine (unhide K1).mono ?_
    rintro e w2 ⟨rfl, b2⟩
    have HB2 := hide (low_trans (unhide HB1) b2)
    have K2 := hide (parseHead_ok (w := w2) (s := T) (n := N) (r := r) (by have := unhide HTL2; omega) (unhide HIH) ((unhide HG).low (unhide HB2)))
    clear b2 K1
    go_wp2_with (first
      | (go_at_call 19; refine (errno_any _ _).mono ?_; rintro e wn ⟨rfl, hwn⟩; rw [hwn]; clear hwn wn)
      | (go_at_call 66; fail))
    refine (unhide K2).mono ?_
    rintro e w3 ⟨v3, rfl, o3, b3⟩
    obtain ⟨a3, c3, rfl, at3, -, -⟩ := OwnB.at o3
    rw [unhide HN]
    obtain ⟨hb3, hhb3⟩ : ∃ hb3, w3.heap.size = hb3 := ⟨_, rfl⟩
    obtain ⟨W4, hW4⟩ : ∃ W4, w3.alloc (.cells #[.int .i64 (N : Int), .slice a3 32 c3] 97) = W4 := ⟨_, rfl⟩
    have b4 : Below w3.heap.size w3 W4 := by rw [← hW4]; exact lowA (Below.refl _ _) _
    have q4 : Blk W4 hb3 #[.int .i64 (N : Int), .slice a3 32 c3] 97 := by rw [← hW4, ← hhb3]; exact Blk.new _ _ _
    have HB4 := hide (low_trans (low_trans (unhide HB2) b3) b4)
    have K4 := hide (sameBytes_any (w := W4) (c := c3) (c2 := c) (unhide HN) (unhide HN) (by omega) (by omega) (at3.low b4) ((unhide HH).low (unhide HB4)))
    have dd : decide (r = r) = true := by simp
    rw [dd] at K4
    have HQ4 := hide q4
    have HW4 := hide hW4
    have HH3 := hide hhb3
    clear o3 b3 at3 b4 q4 hW4 hhb3 K2 dd
    go_wp2_with (go_at_call 23; fail)
    rw [unhide HW4, unhide HH3]
    refine (unhide K4).mono ?_
    rintro e wa ⟨rfl, q, hq⟩
    have ba4 : Below W4.heap.size W4 wa := by rw [hq]; exact lowN (Below.refl _ _) _
    have qa := (unhide HQ4).low ba4
    have ca0 := qa.cell 0
    have HBA := hide (low_trans (unhide HB4) ba4)
    clear hq ba4 qa K4
    by_cases hh : ∃ n' r', isHead t n' r'
    · obtain ⟨n', r', hh'⟩ := hh
      have K5 := hide (parseHead_ok (w := wa) (s := t) (n := n') (r := r') (by have := unhide HTL; omega) hh' ((unhide HG).low (unhide HBA)))
      obtain ⟨e1, e2, e3⟩ := hh'
      have HE2 := hide e2
      have HE3 := hide e3
      clear e2 e3
      go_wp2_with (first
        | (go_at_call 19; refine (errno_any _ _).mono ?_; rintro e wn ⟨rfl, hwn⟩; rw [hwn]; clear hwn wn)
        | (go_at_call 66; fail))
      refine (unhide K5).mono ?_
      rintro e w5 ⟨v5, rfl, o5, b5⟩
      obtain ⟨a5, c5, rfl, at5, hc5, -⟩ := OwnB.at o5
      rw [unhide HE2] at hc5 ⊢
      obtain ⟨hb5, hhb5⟩ : ∃ hb5, w5.heap.size = hb5 := ⟨_, rfl⟩
      obtain ⟨W6, hW6⟩ : ∃ W6, w5.alloc (.cells #[.int .i64 (n' : Int), .slice a5 32 c5] 97) = W6 := ⟨_, rfl⟩
      have b6 : Below w5.heap.size w5 W6 := by rw [← hW6]; exact lowA (Below.refl _ _) _
      have HB6 := hide (low_trans (low_trans (unhide HBA) b5) b6)
      have K6 := hide (formatHead_ok (w := W6) (n := n') (c := c5) e1 (unhide HE2) hc5 ((unhide HG).low (unhide HB6)).tab (at5.low b6))
      rw [unhide HE3] at K6
      have ss : ((ba t).toList == (ba t).toList) = true := by simp
      have HW6 := hide hW6
      clear o5 b5 at5 b6 hW6 K5 hhb5
      go_wp2_with (first
        | (go_at_call 19; refine (errno_any _ _).mono ?_; rintro e wn ⟨rfl, hwn⟩; rw [hwn]; clear hwn wn)
        | (go_at_call 64; fail))
      rw [unhide HW6]
      refine (unhide K6).mono ?_
      rintro e w7 ⟨rfl, b7⟩
      have HZ := hide (low_trans (unhide HB6) b7)
      clear b7 K6
      go_wp2_with (go_at_call 19; refine (errno_any _ _).mono ?_; rintro e wn ⟨rfl, hwn⟩; rw [hwn]; clear hwn wn)
      go_ret
      exact ⟨rfl, unhide HZ⟩
    · have K5 := hide (parseHead_bad (w := wa) (s := t) (by have := unhide HTL; omega) (fun n' r' h' => hh ⟨n', r', h'⟩) ((unhide HG).low (unhide HBA)))
      clear hh
      go_wp2_with (first
        | (go_at_call 19; refine (errno_any _ _).mono ?_; rintro e wn ⟨rfl, hwn⟩; rw [hwn]; clear hwn wn)
        | (go_at_call 66; fail))
      refine (unhide K5).mono ?_
      rintro e w5 ⟨rfl, b5⟩
      have HZ := hide (lowA (low_trans (unhide HBA) b5) (.cells #[.int .i64 0, .slice none 0 0] 97))
      clear b5 K5
      go_wp2_with (go_at_call 19; refine (errno_any _ _).mono ?_; rintro e wn ⟨rfl, hwn⟩; rw [hwn]; clear hwn wn)
      go_ret
      exact ⟨rfl, unhide HZ⟩
  · have K1 := hide (formatHead_bad (w := w1) (a := a) (n := n) (c := c) (x := x) (by
      rcases Int.lt_or_le x 0 with h | h
      · exact Or.inl h
      · rcases Int.lt_or_le 1048576 x with h2 | h2
        · exact Or.inr (Or.inl h2)
        · exact Or.inr (Or.inr (fun e => hx ⟨h, h2, e⟩))))
    clear hx
    go_wp2_with (go_at_call 64; fail)
    refine (unhide K1).mono ?_
    rintro e wa ⟨rfl, b2⟩
    have HBA := hide (low_trans (unhide HB1) b2)
    clear b2 K1
    by_cases hh : ∃ n' r', isHead t n' r'
    · obtain ⟨n', r', hh'⟩ := hh
      have K5 := hide (parseHead_ok (w := wa) (s := t) (n := n') (r := r') (by have := unhide HTL; omega) hh' ((unhide HG).low (unhide HBA)))
      obtain ⟨e1, e2, e3⟩ := hh'
      have HE2 := hide e2
      have HE3 := hide e3
      clear e2 e3
      go_wp2_with (first
        | (go_at_call 19; refine (errno_any _ _).mono ?_; rintro e wn ⟨rfl, hwn⟩; rw [hwn]; clear hwn wn)
        | (go_at_call 66; fail))
      refine (unhide K5).mono ?_
      rintro e w5 ⟨v5, rfl, o5, b5⟩
      obtain ⟨a5, c5, rfl, at5, hc5, -⟩ := OwnB.at o5
      rw [unhide HE2] at hc5 ⊢
      obtain ⟨hb5, hhb5⟩ : ∃ hb5, w5.heap.size = hb5 := ⟨_, rfl⟩
      obtain ⟨W6, hW6⟩ : ∃ W6, w5.alloc (.cells #[.int .i64 (n' : Int), .slice a5 32 c5] 97) = W6 := ⟨_, rfl⟩
      have b6 : Below w5.heap.size w5 W6 := by rw [← hW6]; exact lowA (Below.refl _ _) _
      have HB6 := hide (low_trans (low_trans (unhide HBA) b5) b6)
      have K6 := hide (formatHead_ok (w := W6) (n := n') (c := c5) e1 (unhide HE2) hc5 ((unhide HG).low (unhide HB6)).tab (at5.low b6))
      rw [unhide HE3] at K6
      have ss : ((ba t).toList == (ba t).toList) = true := by simp
      have HW6 := hide hW6
      clear o5 b5 at5 b6 hW6 K5 hhb5
      go_wp2_with (first
        | (go_at_call 19; refine (errno_any _ _).mono ?_; rintro e wn ⟨rfl, hwn⟩; rw [hwn]; clear hwn wn)
        | (go_at_call 64; fail))
      rw [unhide HW6]
      refine (unhide K6).mono ?_
      rintro e w7 ⟨rfl, b7⟩
      have HZ := hide (low_trans (unhide HB6) b7)
      clear b7 K6
      go_wp2_with (go_at_call 19; refine (errno_any _ _).mono ?_; rintro e wn ⟨rfl, hwn⟩; rw [hwn]; clear hwn wn)
      go_ret
      exact ⟨rfl, unhide HZ⟩
    · have K5 := hide (parseHead_bad (w := wa) (s := t) (by have := unhide HTL; omega) (fun n' r' h' => hh ⟨n', r', h'⟩) ((unhide HG).low (unhide HBA)))
      clear hh
      go_wp2_with (first
        | (go_at_call 19; refine (errno_any _ _).mono ?_; rintro e wn ⟨rfl, hwn⟩; rw [hwn]; clear hwn wn)
        | (go_at_call 66; fail))
      refine (unhide K5).mono ?_
      rintro e w5 ⟨rfl, b5⟩
      have HZ := hide (lowA (low_trans (unhide HBA) b5) (.cells #[.int .i64 0, .slice none 0 0] 97))
      clear b5 K5
      go_wp2_with (go_at_call 19; refine (errno_any _ _).mono ?_; rintro e wn ⟨rfl, hwn⟩; rw [hwn]; clear hwn wn)
      go_ret
      exact ⟨rfl, unhide HZ⟩
end Go.Proofs.YtkablmjkffdloaaGreatDoor
