/-
  Heads printed and read: the law's walk.
-/
import Derived.Test.YtkablmjkffdloaaGreatDoorHbkW
import Derived.Test.YtkablmjkffdloaaGreatDoorHedE
namespace Go.Proofs.YtkablmjkffdloaaGreatDoor
open Go.RowKit

theorem isHead_inj {t : Bs} {n n' : Nat} {r r' : Bs} (h : isHead t n r) (h' : isHead t n' r') : n = n' ∧ r = r' := by
  have e := head_pieces n r
  rw [h.2.2, ← h'.2.2, head_pieces n' r'] at e
  simp only [List.cons.injEq] at e
  obtain ⟨-, e1, e2, -⟩ := e
  refine ⟨?_, (b64_inj e2).symm⟩
  have := congrArg decV e1
  rw [decV_dec, decV_dec] at this
  exact this.symm

set_option maxRecDepth 100000 in
set_option maxHeartbeats 4000000 in
theorem heads_law {w : World} {x : Int} {a : Option Addr} {n c : Nat} {r t : Bs} (hg : Gx w) (hn : r.length = n) (hc : n ≤ c) (h : BAt w a r) :
    Calls Tryz.prog 13 #[.int .i64 x, .slice a n c, .string (ba t)] w fun e w' => e = .returned (.bool true) ∧ Below w.heap.size w w' := by
  have K0 := hide (noteFirst_any hg)
  have HG := hide hg
  have HN := hide hn
  have HH := hide h
  obtain ⟨tl, htl⟩ : ∃ tl, t.length = tl := ⟨_, rfl⟩
  have hsz : (ba t).size = tl := by rw [ba_size]; exact htl
  have HTL := hide htl
  clear hg hn h htl
  go_enter Tryz.func13, Tryz.ntmps13
  go_wp2_with (go_at_call 51; fail)
  refine (unhide K0).mono ?_
  rintro e w1 ⟨rfl, b1⟩
  have HB1 := hide b1
  clear b1 K0
  by_cases g1 : 4000 < n
  · have a1 : (4000 : Int) < (n : Int) := by omega
    go_wp2
    go_ret
    exact ⟨rfl, unhide HB1⟩
  have a1 : ¬ (4000 : Int) < (n : Int) := by omega
  by_cases g2 : 4000 < tl
  · have a2 : (4000 : Int) < (tl : Int) := by omega
    go_wp2
    go_ret
    exact ⟨rfl, unhide HB1⟩
  have a2 : ¬ (4000 : Int) < (tl : Int) := by omega
  by_cases hx : 0 ≤ x ∧ x ≤ 1048576 ∧ n = 32
  · obtain ⟨hx1, hx2, rfl⟩ := hx
    obtain ⟨N, rfl⟩ : ∃ N : Nat, x = (N : Int) := ⟨x.toNat, by omega⟩
    have hN : N ≤ 1048576 := by omega
    have K1 := hide (formatHead_ok (w := w1) (n := N) (c := c) hN (unhide HN) hc ((unhide HG).low (unhide HB1)).tab ((unhide HH).low (unhide HB1)))
    obtain ⟨T, hT⟩ : ∃ T, headT N r = T := ⟨_, rfl⟩
    rw [hT] at K1
    have HT := hide hT
    have sT : ((ba T).toList == (ba T).toList) = true := by simp
    clear hT hx1 hx2
    go_wp2_with (go_at_call 64; fail)
    refine (unhide K1).mono ?_
    rintro e w2 ⟨rfl, b2⟩
    have HB2 := hide (low_trans (unhide HB1) b2)
    have K2 := hide (refFormatHead_ok (w := w2) (n := N) (c := c) hN (unhide HN) ((unhide HG).low (unhide HB2)).tab ((unhide HH).low (unhide HB2)))
    rw [unhide HT] at K2
    clear b2 K1
    go_wp2_with (go_at_call 65; fail)
    refine (unhide K2).mono ?_
    rintro e wa ⟨rfl, b3⟩
    have HBA := hide (low_trans (unhide HB2) b3)
    clear b3 K2
    by_cases hh : ∃ n' r', isHead t n' r'
    · obtain ⟨n', r', hh'⟩ := hh
      have K5 := hide (parseHead_ok (w := wa) (s := t) (n := n') (r := r') (by have := unhide HTL; omega) hh' ((unhide HG).low (unhide HBA)))
      have HHD := hide hh'
      have HE2 := hide hh'.2.1
      clear hh'
      go_wp2_with (go_at_call 66; fail)
      refine (unhide K5).mono ?_
      rintro e w5 ⟨v5, rfl, o5, b5⟩
      obtain ⟨a5, c5, rfl, at5, -, -⟩ := OwnB.at o5
      rw [unhide HE2]
      obtain ⟨hb5, hhb5⟩ : ∃ hb5, w5.heap.size = hb5 := ⟨_, rfl⟩
      obtain ⟨W6, hW6⟩ : ∃ W6, w5.alloc (.cells #[.int .i64 (n' : Int), .slice a5 32 c5] 97) = W6 := ⟨_, rfl⟩
      have b6 : Below w5.heap.size w5 W6 := by rw [← hW6]; exact lowA (Below.refl _ _) _
      have q6 : Blk W6 hb5 #[.int .i64 (n' : Int), .slice a5 32 c5] 97 := by rw [← hW6, ← hhb5]; exact Blk.new _ _ _
      have HA5 := hide (at5.low b6)
      clear o5 at5
      have HB6 := hide (low_trans (low_trans (unhide HBA) b5) b6)
      have K7 := hide (refParse_any (w := W6) (s := t) (by have := unhide HTL; omega) ((unhide HG).low (unhide HB6)).tab)
      have HQ6 := hide q6
      have HW6 := hide hW6
      have HH5 := hide hhb5
      clear b5 b6 q6 hW6 hhb5 K5
      go_wp2_with (go_at_call 67; fail)
      rw [unhide HW6, unhide HH5]
      refine (unhide K7).mono ?_
      rintro e w7 ⟨x7, v7, y7, rfl, hs7, b7⟩
      obtain ⟨a7, c7, rfl, at7⟩ : ∃ a7 c7, v7 = .slice a7 32 c7 ∧ y7 = 0 ∧ x7 = (n' : Int) ∧ BAt w7 a7 r' := by
        rcases hs7 with ⟨m, q, hm, rfl, rfl, o7⟩ | ⟨hno, -⟩
        · obtain ⟨rfl, rfl⟩ := isHead_inj hm (unhide HHD)
          obtain ⟨a7, c7, rfl, at7, -, -⟩ := OwnB.at o7
          exact ⟨a7, c7, by rw [unhide HE2], rfl, rfl, at7⟩
        · exact absurd (unhide HHD) (hno _ _)
      obtain ⟨rfl, rfl, at7⟩ := at7
      have K8 := hide (sameBytes_any (w := w7) (c := c5) (c2 := c7) (unhide HE2) (unhide HE2) (by omega) (by omega) ((unhide HA5).low b7) at7)
      rw [decide_eq_true rfl] at K8
      have q7 := (unhide HQ6).low b7
      have k70 := q7.cell 0
      have k71 := q7.cell 1
      have HQ7 := hide q7
      have HB7 := hide (low_trans (unhide HB6) b7)
      clear b7 q7 hs7 K7
      go_wp2_with (go_at_call 23; fail)
      refine (unhide K8).mono ?_
      rintro e w8 ⟨rfl, q, hq⟩
      have b8 : Below w7.heap.size w7 w8 := by rw [hq]; exact lowN (Below.refl _ _) _
      have q8 := (unhide HQ7).low b8
      have k80 := q8.cell 0
      have HZ := hide (low_trans (unhide HB7) b8)
      clear hq b8 q8 K8 k70 k71
      go_wp2_with (go_at_call 19; refine (errno_any _ _).mono ?_; rintro e wn ⟨rfl, hwn⟩; rw [hwn]; clear hwn wn)
      go_ret
      exact ⟨rfl, unhide HZ⟩
    · have K5 := hide (parseHead_bad (w := wa) (s := t) (by have := unhide HTL; omega) (fun n' r' h' => hh ⟨n', r', h'⟩) ((unhide HG).low (unhide HBA)))
      have HHD : Hid (∀ n' r', ¬ isHead t n' r') := hide (fun n' r' h' => hh ⟨n', r', h'⟩)
      clear hh
      go_wp2_with (go_at_call 66; fail)
      refine (unhide K5).mono ?_
      rintro e w5 ⟨rfl, b5⟩
      obtain ⟨hb5, hhb5⟩ : ∃ hb5, w5.heap.size = hb5 := ⟨_, rfl⟩
      obtain ⟨W6, hW6⟩ : ∃ W6, w5.alloc (.cells #[.int .i64 0, .slice none 0 0] 97) = W6 := ⟨_, rfl⟩
      have b6 : Below w5.heap.size w5 W6 := by rw [← hW6]; exact lowA (Below.refl _ _) _
      have q6 : Blk W6 hb5 #[.int .i64 0, .slice none 0 0] 97 := by rw [← hW6, ← hhb5]; exact Blk.new _ _ _
      have HB6 := hide (low_trans (low_trans (unhide HBA) b5) b6)
      have K7 := hide (refParse_any (w := W6) (s := t) (by have := unhide HTL; omega) ((unhide HG).low (unhide HB6)).tab)
      have HQ6 := hide q6
      have HW6 := hide hW6
      have HH5 := hide hhb5
      clear b5 b6 q6 hW6 hhb5 K5
      go_wp2_with (go_at_call 67; fail)
      rw [unhide HW6, unhide HH5]
      refine (unhide K7).mono ?_
      rintro e w7 ⟨x7, v7, y7, rfl, hs7, b7⟩
      obtain ⟨rfl, rfl, rfl⟩ : v7 = .slice none 0 0 ∧ y7 = 15 ∧ x7 = 0 := by
        rcases hs7 with ⟨m, q, hm, -⟩ | ⟨-, h1, h2, h3⟩
        · exact absurd hm (unhide HHD _ _)
        · exact ⟨h2, h3, h1⟩
      have K8 := hide (sameBytes_any (w := w7) (a := none) (a2 := none) (n := 0) (n2 := 0) (c := 0) (c2 := 0) (b := []) (b2 := []) rfl rfl (by omega) (by omega) ⟨Or.inl rfl⟩ ⟨Or.inl rfl⟩)
      rw [decide_eq_true rfl] at K8
      have q7 := (unhide HQ6).low b7
      have k70 := q7.cell 0
      have k71 := q7.cell 1
      have HQ7 := hide q7
      have HB7 := hide (low_trans (unhide HB6) b7)
      clear b7 q7 hs7 K7
      go_wp2_with (go_at_call 23; fail)
      refine (unhide K8).mono ?_
      rintro e w8 ⟨rfl, q, hq⟩
      have b8 : Below w7.heap.size w7 w8 := by rw [hq]; exact lowN (Below.refl _ _) _
      have q8 := (unhide HQ7).low b8
      have k80 := q8.cell 0
      have HZ := hide (low_trans (unhide HB7) b8)
      clear hq b8 q8 K8 k70 k71
      go_wp2_with (go_at_call 19; refine (errno_any _ _).mono ?_; rintro e wn ⟨rfl, hwn⟩; rw [hwn]; clear hwn wn)
      go_ret
      exact ⟨rfl, unhide HZ⟩
  · have hbad : x < 0 ∨ 1048576 < x ∨ n ≠ 32 := by
      rcases Int.lt_or_le x 0 with h | h
      · exact Or.inl h
      · rcases Int.lt_or_le 1048576 x with h2 | h2
        · exact Or.inr (Or.inl h2)
        · exact Or.inr (Or.inr (fun e => hx ⟨h, h2, e⟩))
    have K1 := hide (formatHead_bad (w := w1) (a := a) (n := n) (c := c) (x := x) hbad)
    have HBD := hide hbad
    clear hx hbad
    go_wp2_with (go_at_call 64; fail)
    refine (unhide K1).mono ?_
    rintro e w2 ⟨rfl, b2⟩
    have HB2 := hide (low_trans (unhide HB1) b2)
    have K2 := hide (refFormatHead_bad (w := w2) (a := a) (n := n) (c := c) (x := x) (unhide HBD))
    clear b2 K1
    go_wp2_with (go_at_call 65; fail)
    refine (unhide K2).mono ?_
    rintro e wa ⟨rfl, b3⟩
    have HBA := hide (low_trans (unhide HB2) b3)
    clear b3 K2
    by_cases hh : ∃ n' r', isHead t n' r'
    · obtain ⟨n', r', hh'⟩ := hh
      have K5 := hide (parseHead_ok (w := wa) (s := t) (n := n') (r := r') (by have := unhide HTL; omega) hh' ((unhide HG).low (unhide HBA)))
      have HHD := hide hh'
      have HE2 := hide hh'.2.1
      clear hh'
      go_wp2_with (go_at_call 66; fail)
      refine (unhide K5).mono ?_
      rintro e w5 ⟨v5, rfl, o5, b5⟩
      obtain ⟨a5, c5, rfl, at5, -, -⟩ := OwnB.at o5
      rw [unhide HE2]
      obtain ⟨hb5, hhb5⟩ : ∃ hb5, w5.heap.size = hb5 := ⟨_, rfl⟩
      obtain ⟨W6, hW6⟩ : ∃ W6, w5.alloc (.cells #[.int .i64 (n' : Int), .slice a5 32 c5] 97) = W6 := ⟨_, rfl⟩
      have b6 : Below w5.heap.size w5 W6 := by rw [← hW6]; exact lowA (Below.refl _ _) _
      have q6 : Blk W6 hb5 #[.int .i64 (n' : Int), .slice a5 32 c5] 97 := by rw [← hW6, ← hhb5]; exact Blk.new _ _ _
      have HA5 := hide (at5.low b6)
      clear o5 at5
      have HB6 := hide (low_trans (low_trans (unhide HBA) b5) b6)
      have K7 := hide (refParse_any (w := W6) (s := t) (by have := unhide HTL; omega) ((unhide HG).low (unhide HB6)).tab)
      have HQ6 := hide q6
      have HW6 := hide hW6
      have HH5 := hide hhb5
      clear b5 b6 q6 hW6 hhb5 K5
      go_wp2_with (go_at_call 67; fail)
      rw [unhide HW6, unhide HH5]
      refine (unhide K7).mono ?_
      rintro e w7 ⟨x7, v7, y7, rfl, hs7, b7⟩
      obtain ⟨a7, c7, rfl, at7⟩ : ∃ a7 c7, v7 = .slice a7 32 c7 ∧ y7 = 0 ∧ x7 = (n' : Int) ∧ BAt w7 a7 r' := by
        rcases hs7 with ⟨m, q, hm, rfl, rfl, o7⟩ | ⟨hno, -⟩
        · obtain ⟨rfl, rfl⟩ := isHead_inj hm (unhide HHD)
          obtain ⟨a7, c7, rfl, at7, -, -⟩ := OwnB.at o7
          exact ⟨a7, c7, by rw [unhide HE2], rfl, rfl, at7⟩
        · exact absurd (unhide HHD) (hno _ _)
      obtain ⟨rfl, rfl, at7⟩ := at7
      have K8 := hide (sameBytes_any (w := w7) (c := c5) (c2 := c7) (unhide HE2) (unhide HE2) (by omega) (by omega) ((unhide HA5).low b7) at7)
      rw [decide_eq_true rfl] at K8
      have q7 := (unhide HQ6).low b7
      have k70 := q7.cell 0
      have k71 := q7.cell 1
      have HQ7 := hide q7
      have HB7 := hide (low_trans (unhide HB6) b7)
      clear b7 q7 hs7 K7
      go_wp2_with (go_at_call 23; fail)
      refine (unhide K8).mono ?_
      rintro e w8 ⟨rfl, q, hq⟩
      have b8 : Below w7.heap.size w7 w8 := by rw [hq]; exact lowN (Below.refl _ _) _
      have q8 := (unhide HQ7).low b8
      have k80 := q8.cell 0
      have HZ := hide (low_trans (unhide HB7) b8)
      clear hq b8 q8 K8 k70 k71
      go_wp2_with (go_at_call 19; refine (errno_any _ _).mono ?_; rintro e wn ⟨rfl, hwn⟩; rw [hwn]; clear hwn wn)
      go_ret
      exact ⟨rfl, unhide HZ⟩
    · have K5 := hide (parseHead_bad (w := wa) (s := t) (by have := unhide HTL; omega) (fun n' r' h' => hh ⟨n', r', h'⟩) ((unhide HG).low (unhide HBA)))
      have HHD : Hid (∀ n' r', ¬ isHead t n' r') := hide (fun n' r' h' => hh ⟨n', r', h'⟩)
      clear hh
      go_wp2_with (go_at_call 66; fail)
      refine (unhide K5).mono ?_
      rintro e w5 ⟨rfl, b5⟩
      obtain ⟨hb5, hhb5⟩ : ∃ hb5, w5.heap.size = hb5 := ⟨_, rfl⟩
      obtain ⟨W6, hW6⟩ : ∃ W6, w5.alloc (.cells #[.int .i64 0, .slice none 0 0] 97) = W6 := ⟨_, rfl⟩
      have b6 : Below w5.heap.size w5 W6 := by rw [← hW6]; exact lowA (Below.refl _ _) _
      have q6 : Blk W6 hb5 #[.int .i64 0, .slice none 0 0] 97 := by rw [← hW6, ← hhb5]; exact Blk.new _ _ _
      have HB6 := hide (low_trans (low_trans (unhide HBA) b5) b6)
      have K7 := hide (refParse_any (w := W6) (s := t) (by have := unhide HTL; omega) ((unhide HG).low (unhide HB6)).tab)
      have HQ6 := hide q6
      have HW6 := hide hW6
      have HH5 := hide hhb5
      clear b5 b6 q6 hW6 hhb5 K5
      go_wp2_with (go_at_call 67; fail)
      rw [unhide HW6, unhide HH5]
      refine (unhide K7).mono ?_
      rintro e w7 ⟨x7, v7, y7, rfl, hs7, b7⟩
      obtain ⟨rfl, rfl, rfl⟩ : v7 = .slice none 0 0 ∧ y7 = 15 ∧ x7 = 0 := by
        rcases hs7 with ⟨m, q, hm, -⟩ | ⟨-, h1, h2, h3⟩
        · exact absurd hm (unhide HHD _ _)
        · exact ⟨h2, h3, h1⟩
      have K8 := hide (sameBytes_any (w := w7) (a := none) (a2 := none) (n := 0) (n2 := 0) (c := 0) (c2 := 0) (b := []) (b2 := []) rfl rfl (by omega) (by omega) ⟨Or.inl rfl⟩ ⟨Or.inl rfl⟩)
      rw [decide_eq_true rfl] at K8
      have q7 := (unhide HQ6).low b7
      have k70 := q7.cell 0
      have k71 := q7.cell 1
      have HQ7 := hide q7
      have HB7 := hide (low_trans (unhide HB6) b7)
      clear b7 q7 hs7 K7
      go_wp2_with (go_at_call 23; fail)
      refine (unhide K8).mono ?_
      rintro e w8 ⟨rfl, q, hq⟩
      have b8 : Below w7.heap.size w7 w8 := by rw [hq]; exact lowN (Below.refl _ _) _
      have q8 := (unhide HQ7).low b8
      have k80 := q8.cell 0
      have HZ := hide (low_trans (unhide HB7) b8)
      clear hq b8 q8 K8 k70 k71
      go_wp2_with (go_at_call 19; refine (errno_any _ _).mono ?_; rintro e wn ⟨rfl, hwn⟩; rw [hwn]; clear hwn wn)
      go_ret
      exact ⟨rfl, unhide HZ⟩
end Go.Proofs.YtkablmjkffdloaaGreatDoor
