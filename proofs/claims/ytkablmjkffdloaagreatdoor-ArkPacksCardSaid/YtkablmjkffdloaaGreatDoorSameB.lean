/-
  Bytes held against bytes; lists of hashes.
-/
import Derived.Test.YtkablmjkffdloaaGreatDoorLeaf
namespace Go.Proofs.YtkablmjkffdloaaGreatDoor
open Go.RowKit

theorem u8_ne {x y : UInt8} : ((x.toNat : Int) != (y.toNat : Int)) = !decide (x = y) := by
  rw [Bool.eq_iff_iff]
  simp only [bne_iff_ne, ne_eq, Bool.not_eq_true', decide_eq_false_iff_not]
  constructor
  · intro h e; exact h (by rw [e])
  · intro h e; exact h (UInt8.toNat_inj.1 (by omega))

set_option maxHeartbeats 1000000 in
theorem sameBytes_any {w : World} {a a2 : Option Addr} {n c n2 c2 : Nat} {b b2 : Bs} (hn : b.length = n) (hn2 : b2.length = n2) (hN : n ≤ 1073741824) (hN2 : n2 ≤ 1073741824) (h : BAt w a b) (h2 : BAt w a2 b2) :
    Calls Tryz.prog 23 #[.slice a n c, .slice a2 n2 c2] w fun e w' => e = .returned (.bool (decide (b = b2))) ∧ ∃ q, w' = w.drewN q := by
  have HN := hide hn
  have HN2 := hide hn2
  have H := hide h
  have H2 := hide h2
  clear hn hn2 h h2
  by_cases he : n = n2
  · subst he
    go_enter Tryz.func23, Tryz.ntmps23
    go_wp2
    go_loopw [5] (fun v5 wr => ∃ k q : Nat, k ≤ n ∧ v5 = .int .i64 (k : Int) ∧ wr = w.drewN q ∧ b.take k = b2.take k) (fun v5 _ => n - (intOf v5).toNat)
    case atStart => exact ⟨0, 0, Nat.zero_le _, rfl, rfl, rfl⟩
    case round =>
      obtain ⟨k, q, hk, rfl, rfl, htk⟩ := hrel
      by_cases hlt : k < n
      · have hkb : k < b.length := by rw [unhide HN]; exact hlt
        have hkb2 : k < b2.length := by rw [unhide HN2]; exact hlt
        obtain ⟨B, O, rfl, k1⟩ := (unhide H).at hkb
        obtain ⟨B2, O2, rfl, k2⟩ := (unhide H2).at hkb2
        obtain ⟨x, hx⟩ : ∃ x, b[k] = x := ⟨_, rfl⟩
        obtain ⟨y, hy⟩ : ∃ y, b2[k] = y := ⟨_, rfl⟩
        rw [hx] at k1
        rw [hy] at k2
        have m1 : (w.drewN q).cell? ⟨B, O + k, none⟩ = some (.int .u8 (x.toNat : Int)) := k1
        have m2 : (w.drewN q).cell? ⟨B2, O2 + k, none⟩ = some (.int .u8 (y.toNat : Int)) := k2
        have hq := u8_ne (x := x) (y := y)
        by_cases hxy : x = y
        · have HT : Hid (b.take (k + 1) = b2.take (k + 1)) := hide (by
            rw [List.take_add_one, List.take_add_one, htk, List.getElem?_eq_getElem hkb, List.getElem?_eq_getElem hkb2, hx, hy, hxy])
          have hq2 : ((x.toNat : Int) != (y.toNat : Int)) = false := by rw [hq, decide_eq_true hxy]; rfl
          clear htk hx hy hq hxy hkb hkb2
          go_wp2
          go_quiet (fail)
          go_wp2
          go_roundw
          case rel => exact ⟨k + 1, q + nq, hlt, by push_cast; rfl, by first | rfl | rw [World.drewN_drewN], unhide HT⟩
          case measure => simp [intOf]; omega
        · have HT : Hid (decide (b = b2) = false) := hide (by
            rw [decide_eq_false_iff_not]
            intro e
            subst e
            exact hxy (hx.symm.trans hy))
          have hq2 : ((x.toNat : Int) != (y.toNat : Int)) = true := by rw [hq, decide_eq_false hxy]; rfl
          clear htk hx hy hq hxy hkb hkb2
          go_wp2
          go_quiet (fail)
          go_wp2
          go_ret
          exact ⟨by rw [unhide HT]; rfl, q + nq, by first | rfl | rw [World.drewN_drewN]⟩
      · have HT : Hid (decide (b = b2) = true) := hide (by
          rw [decide_eq_true_iff]
          have e1 : b.take k = b := List.take_of_length_le (by rw [unhide HN]; omega)
          have e2 : b2.take k = b2 := List.take_of_length_le (by rw [unhide HN2]; omega)
          rw [e1, e2] at htk
          exact htk)
        clear htk
        go_wp2
        go_ret
        exact ⟨by rw [unhide HT]; rfl, q, rfl⟩
  · have HT : Hid (decide (b = b2) = false) := hide (by
      rw [decide_eq_false_iff_not]
      intro e
      exact he (by rw [← unhide HN, ← unhide HN2, e]))
    have hq : ((n : Int) != (n2 : Int)) = true := by simp; omega
    go_enter Tryz.func23, Tryz.ntmps23
    go_wp2
    go_ret
    exact ⟨by rw [unhide HT]; rfl, 0, rfl⟩

end Go.Proofs.YtkablmjkffdloaaGreatDoor
