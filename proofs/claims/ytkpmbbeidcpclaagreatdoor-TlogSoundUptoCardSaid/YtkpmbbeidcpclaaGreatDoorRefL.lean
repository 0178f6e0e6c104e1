/-
  The reference's hashes of a leaf and of a node; where a tree is parted.
-/
import Derived.Test.YtkpmbbeidcpclaaGreatDoorRefK
namespace Go.Proofs.YtkpmbbeidcpclaaGreatDoor
open Go.RowKit

/-- A row of one byte, just made. -/
theorem own_one (w : World) (x : UInt8) : OwnB w.heap.size (w.alloc (.cells #[.int .u8 (x.toNat : Int)] 5)) (.slice (some ⟨w.heap.size, 0, none⟩) 1 1) [x] :=
  ⟨rfl, Or.inr ⟨w.heap.size, 1, _, rfl, Nat.le_refl _, heap_alloc_new w _, Nat.le_refl _, by unfold maxLen; omega, rfl, rfl⟩⟩

theorem refSha_own {w : World} {B : Nat} {v : Value} {b : Bs} (h : OwnB B w v b) (hl : b.length ≤ 1000000000) : Calls Tryz.prog 73 #[v] w fun e w' => ∃ v', e = .returned v' ∧ OwnB w.heap.size w' v' (shaL b) ∧ Below w.heap.size w w' := by
  obtain ⟨a, c, rfl, hb, _, _⟩ := OwnB.at h
  exact refSha_any rfl hl hb

set_option maxRecDepth 100000 in
set_option maxHeartbeats 1000000 in
theorem refLeaf_any {w : World} {a : Option Addr} {n c : Nat} {b : Bs} (hn : b.length = n) (hN : n ≤ 100000000) (h : BAt w a b) :
    Calls Tryz.prog 34 #[.slice a n c] w fun e w' => ∃ v, e = .returned v ∧ OwnB w.heap.size w' v (leafL b) ∧ Below w.heap.size w w' := by
  obtain ⟨W1, hW1⟩ : ∃ W1, w.alloc (.cells #[.int .u8 0] 5) = W1 := ⟨_, rfl⟩
  have hb1 : Below w.heap.size w W1 := by rw [← hW1]; exact (Below.refl _ _).alloc (Nat.le_refl _) _
  have ho : OwnB w.heap.size W1 (.slice (some ⟨w.heap.size, 0, none⟩) 1 1) [0] := by rw [← hW1]; exact own_one w 0
  obtain ⟨v2, w2, happ, o2, g2⟩ := app_at (c := c) hn (h.low hb1) ho hb1.size (by simp; omega)
  have hb2 : Below w.heap.size w w2 := hb1.trans (g2.low hb1.size (OwnB.base ho))
  have HS := hide (refSha_own o2 (by simp; omega))
  have HW1 := hide hW1
  have HB2 := hide hb2
  clear ho o2 g2 hb1 hb2 hW1 h hn
  go_enter Tryz.func34, Tryz.ntmps34
  go_wp2_with (at_builtin; rw [unhide HW1]; refine Lib.wpList_append_run _ rfl _ _ _ _ rfl _ _ rfl rfl _ _ happ ?_)
  refine (unhide HS).mono ?_
  rintro e w3 ⟨v3, rfl, o3, b3⟩
  have HD : Hid (OwnB w.heap.size w3 v3 (leafL b) ∧ Below w.heap.size w w3) := hide ⟨OwnB.less (unhide HB2).size o3, low_trans (unhide HB2) b3⟩
  clear o3 b3
  go_wp2
  go_ret
  exact ⟨_, rfl, (unhide HD).1, (unhide HD).2⟩

set_option maxRecDepth 100000 in
set_option maxHeartbeats 1000000 in
theorem refNode_any {w : World} {a a2 : Option Addr} {n c n2 c2 : Nat} {b b2 : Bs} (hn : b.length = n) (hn2 : b2.length = n2) (hN : n ≤ 100000000) (hN2 : n2 ≤ 100000000) (h : BAt w a b) (h2 : BAt w a2 b2) :
    Calls Tryz.prog 89 #[.slice a n c, .slice a2 n2 c2] w fun e w' => ∃ v, e = .returned v ∧ OwnB w.heap.size w' v (nodeL b b2) ∧ Below w.heap.size w w' := by
  obtain ⟨W1, hW1⟩ : ∃ W1, w.alloc (.cells #[.int .u8 1] 5) = W1 := ⟨_, rfl⟩
  have hb1 : Below w.heap.size w W1 := by rw [← hW1]; exact (Below.refl _ _).alloc (Nat.le_refl _) _
  have ho : OwnB w.heap.size W1 (.slice (some ⟨w.heap.size, 0, none⟩) 1 1) [1] := by rw [← hW1]; exact own_one w 1
  obtain ⟨v2, w2, happ, o2, g2⟩ := app_at (c := c) hn (h.low hb1) ho hb1.size (by simp; omega)
  have hb2 : Below w.heap.size w w2 := hb1.trans (g2.low hb1.size (OwnB.base ho))
  obtain ⟨v3, w3, happ3, o3, g3⟩ := app_at (c := c2) hn2 (h2.low hb2) o2 hb2.size (by simp; omega)
  have hb3 : Below w.heap.size w w3 := hb2.trans (g3.low hb2.size (OwnB.base o2))
  have e3 : ([1] ++ b) ++ b2 = 1 :: (b ++ b2) := rfl
  rw [e3] at o3
  have HS := hide (refSha_own o3 (by simp; omega))
  have HW1 := hide hW1
  have HB3 := hide hb3
  clear ho o2 g2 o3 g3 hb1 hb2 hb3 hW1 h hn h2 hn2 e3
  go_enter Tryz.func89, Tryz.ntmps89
  go_wp2_with (at_builtin; first | (rw [unhide HW1]; refine Lib.wpList_append_run _ rfl (.tmp 5) (.tmp 6) _ _ rfl _ _ rfl rfl _ _ happ ?_) | refine Lib.wpList_append_run _ rfl (.tmp 7) (.tmp 8) _ _ rfl _ _ rfl rfl _ _ happ3 ?_)
  refine (unhide HS).mono ?_
  rintro e w4 ⟨v4, rfl, o4, b4⟩
  have HD : Hid (OwnB w.heap.size w4 v4 (nodeL b b2) ∧ Below w.heap.size w w4) := hide ⟨OwnB.less (unhide HB3).size o4, low_trans (unhide HB3) b4⟩
  clear o4 b4
  go_wp2
  go_ret
  exact ⟨_, rfl, (unhide HD).1, (unhide HD).2⟩

end Go.Proofs.YtkpmbbeidcpclaaGreatDoor
