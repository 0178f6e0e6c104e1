/-
  The first look of each law.
-/
import Derived.Test.YtkpmbbeidcpclaaGreatDoorPath
import Derived.Test.YtkpmbbeidcpclaaGreatDoorLeaf
namespace Go.Proofs.YtkpmbbeidcpclaaGreatDoor
open Go.RowKit

theorem errno_any (n : Int) (w : World) : Calls Tryz.prog 21 #[.int .i64 n] w fun e w' => e = .returned (.int .i64 n) ∧ w' = w := by
  go_enter Tryz.func21, Tryz.ntmps21
  go_wp2
  go_ret
  exact ⟨rfl, rfl⟩

def emptyHex : Bs := [54, 101, 51, 52, 48, 98, 57, 99, 102, 102, 98, 51, 55, 97, 57, 56, 57, 99, 97, 53, 52, 52, 101, 54, 98, 98, 55, 56, 48, 97, 50, 99, 55, 56, 57, 48, 49, 100, 51, 102, 98, 51, 51, 55, 51, 56, 55, 54, 56, 53, 49, 49, 97, 51, 48, 54, 49, 55, 97, 102, 97, 48, 49, 100]
theorem hex_empty : hexL (leafL []) = emptyHex := by decide +kernel

theorem split_five (w : World) : Calls Tryz.prog 29 #[.int .i64 5] w fun e w' => e = .returned (.tuple #[.int .i64 1, .int .i64 1, .int .i64 0]) ∧ Below w.heap.size w w' := by
  refine (split_any (index := 5) (by decide) w).mono ?_
  rintro e w' ⟨r, v, rfl, hr, h1, h2, hb⟩
  have s3 : stored 3 = 4 := by decide
  have s4 : stored 4 = 7 := by decide
  have hr3 : r = 3 := by
    apply Classical.byContradiction
    intro hne
    by_cases hlt : r < 3
    · have := stored_mono (m := r + 1) (n := 3) (by omega) (by decide)
      omega
    · have := stored_mono (m := 4) (n := r) (by omega) (by omega)
      omega
  subst hr3
  have hv : v = 1 := by omega
  subst hv
  exact ⟨rfl, hb⟩

theorem path_first {w : World} (hg : Gd w) : Calls Tryz.prog 17 #[.agg #[.int .i64 2, .int .i64 0, .int .i64 1, .int .i64 1]] w fun e w' => e = .returned (.tuple #[.string ⟨#[116, 105, 108, 101, 47, 50, 47, 48, 47, 48, 48, 49, 46, 112, 47, 49]⟩, .int .i64 0]) ∧ Below w.heap.size w w' := by
  have h := path_good (H := 2) (L := 0) (N := 1) (W := 1) (p := 4) (s := 0) (a := 1048576) (b := 4) (c := 262144) hg (by decide) (by decide) (by decide) (by decide) (by decide) (by decide) (by decide) (by decide) (by decide) (by decide) (by decide) (by decide)
  refine h.mono ?_
  rintro e w' ⟨rfl, hgr⟩
  refine ⟨?_, Gr.low hgr⟩
  have e1 : pathL 2 0 1 1 4 = [116, 105, 108, 101, 47, 50, 47, 48, 47, 48, 48, 49, 46, 112, 47, 49] := by
    unfold pathL dirL groupL
    rw [dec_small (n := 2) (by decide), dec_small (n := 0) (by decide), dec_small (n := 1) (by decide)]
    decide
  rw [e1]
  rfl

set_option maxHeartbeats 1000000 in
set_option maxRecDepth 100000 in
theorem first_any {w : World} (hg : Gd w) : Calls Tryz.prog 6 #[] w fun e w' => e = .returned (.bool true) ∧ Below w.heap.size w w' := by
  have HG := hide hg
  clear hg
  go_enter Tryz.func6, Tryz.ntmps6
  go_wp2_with (go_at_call 27; fail)
  refine (leaf_any (b := []) (n := 0) rfl (by decide) ⟨Or.inl rfl⟩).mono ?_
  rintro e w1 ⟨v1, rfl, o1, b1⟩
  obtain ⟨a1, c1, rfl, hb1, h11, h12⟩ := OwnB.at o1
  have hl : (leafL []).length = 32 := by decide +kernel
  rw [hl]
  have HH := hide (hex_any (c := c1) hl (by decide) hb1)
  have HB1 := hide b1
  clear o1 b1 hb1 h11 h12 hl
  go_wp2_with (go_at_call 26; fail)
  refine (unhide HH).mono ?_
  rintro e w2 ⟨rfl, b2⟩
  rw [hex_empty]
  have HB2 := hide (low_trans (unhide HB1) b2)
  clear b2 HH HB1
  go_wp2_with (go_at_call 28; fail)
  have hi := index_any (v := 2) (k := 0) (p := 4) (q := 3) (by decide) (by decide) (by decide) (by decide) w2
  refine hi.mono ?_
  clear hi
  rintro e w3 ⟨rfl, rfl⟩
  have e6 : ((stored 3 + 2 : Nat) : Int) = 6 := by decide
  rw [e6]
  clear e6
  go_wp2_with (go_at_call 29; fail)
  refine (split_five _).mono ?_
  rintro e w4 ⟨rfl, b4⟩
  have HB4 := hide (low_trans (unhide HB2) b4)
  clear b4 HB2
  go_wp2_with (go_at_call 10; fail)
  have ht := tileOf_any (h := 2) (n := 5) (v := 0) (k := 4) (row := 0) (d := 0) (s := 0) (a := 5) (p := 4) (x := 4) (q := 1) (b := 4) (t := 1) (by decide) (by decide) (by decide) (by decide) (by decide) (by decide) (by decide) (by decide) (by decide) (by decide) (by decide) (by decide) (by decide) (by decide) (by decide) w4
  refine ht.mono ?_
  clear ht
  rintro e w5 ⟨rfl, b5⟩
  have HB5 := hide (low_trans (unhide HB4) b5)
  clear b5 HB4
  have em : ((min 1 4 : Nat) : Int) = 1 := by decide
  rw [em]
  clear em
  go_wp2_with (go_at_call 17; fail)
  obtain ⟨w6, hw6⟩ : ∃ w6, w5.alloc (.cells #[.int .i64 2, .int .i64 0, .int .i64 1, .int .i64 1] 31) = w6 := ⟨_, rfl⟩
  have hb6 : Below w.heap.size w w6 := by rw [← hw6]; exact (unhide HB5).alloc (unhide HB5).size _
  rw [hw6]
  refine (path_first ((unhide HG).low hb6)).mono ?_
  rintro e w7 ⟨rfl, b7⟩
  have HB7 := hide (low_trans hb6 b7)
  clear b7 hb6 hw6 HB5
  unfold emptyHex
  go_wp2_with (go_at_call 21; refine (errno_any _ _).mono ?_; rintro e w8 ⟨rfl, rfl⟩)
  go_ret
  exact ⟨rfl, unhide HB7⟩
end Go.Proofs.YtkpmbbeidcpclaaGreatDoor
