/-
  The reference's order of one file.
-/
import Derived.Test.YtkablmjkffdloaaGreatDoorSumB
import Derived.Laws.OwnMore
import Derived.Lib.AppendZeros
import Derived.Test.YtkablmjkffdloaaGreatDoorLow
namespace Go.Proofs.YtkablmjkffdloaaGreatDoor
open Go.RowKit

/-- append of no file. -/
theorem app_noF {B : Nat} {w : World} {v : Value} {xs : List Fl} (ho : FRow B w v xs) : (Builtin.append_ #[22, 22] 22 #[v, .slice none 0 0]).run Tryz.prog w = .ok v w := by
  obtain ⟨i0, hi, _, _, _⟩ := info_parts info56
  exact run_append_owned_none (P := Tryz.prog) (w := w) B 22 22 56 i0 2 Tryz.underlying22 hi v xs.length (flsV xs) ho
/-- append of a file, laid into a block of its own. -/
theorem app_F {B : Nat} {w W1 : World} {v : Value} {xs : List Fl} {x : Fl} (ho : FRow B w v xs) (hB : B ≤ w.heap.size) (hl : xs.length ≤ 1000000) (hW : w.alloc (.cells #[.string (ba x.nm), .slice x.a x.n x.c] 56) = W1) :
    ∃ v' w', (Builtin.append_ #[22, 22] 22 #[v, .slice (some ⟨w.heap.size, 0, none⟩) 1 1]).run Tryz.prog W1 = .ok v' w' ∧ FRow B w' v' (xs ++ [x]) ∧ Below B w w' := by
  obtain ⟨i0, hi, hz0, hz1, hz2⟩ := info_parts info56
  have b1 : Below w.heap.size w W1 := by rw [← hW]; exact (Below.refl _ _).alloc (Nat.le_refl _) _
  have hz : Blk W1 w.heap.size #[.string (ba x.nm), .slice x.a x.n x.c] 56 := by rw [← hW]; exact Blk.new _ _ _
  have ho1 : FRow B W1 v xs := by
    refine ⟨ho.1, ?_⟩
    rcases ho.2 with ⟨e, e0⟩ | ⟨g, cap, cur, e, q1, q2, q3⟩
    · exact Or.inl ⟨e, e0⟩
    · exact Or.inr ⟨g, cap, cur, e, q1, (b1.block g (Array.getElem?_eq_some_iff.1 q2).1).trans q2, q3⟩
  obtain ⟨v', w', r1, r2, r3, _, r5⟩ := run_append_own_at (P := Tryz.prog) W1 B 22 22 56 i0 _ 2 40 Tryz.underlying22 hi hz0 hz1 hz2 rfl (by decide) v xs.length (flsV xs) ho1 ⟨w.heap.size, 0, none⟩ 1 1 [.string (ba x.nm), .slice x.a x.n x.c] rfl (fun j u hj => by
    match j, hj with
    | 0, hj => simp at hj; rw [← hj]; exact hz.cell 0
    | 1, hj => simp at hj; rw [← hj]; exact hz.cell 1) (fun u hu => by simp at hu; rcases hu with rfl | rfl <;> rfl) (by unfold maxLen; omega) (by omega) (Nat.le_trans hB b1.size)
  refine ⟨v', w', r1, ?_, ⟨r3.os.trans b1.os, r3.tape.trans b1.tape, r3.output.trans b1.output, Nat.le_trans b1.size r3.size, fun k hk => ?_⟩⟩
  · unfold FRow
    rw [flsV_append, List.length_append]
    exact r2
  · rw [r3.block k (Nat.lt_of_lt_of_le hk (Nat.le_trans hB b1.size)) (fun e => by
      rcases ho.2 with ⟨e1, _⟩ | ⟨g, cap, cur, e1, q1, _⟩
      · rw [e1] at e; cases e
      · rw [e1] at e
        have : k = g := Option.some.inj e
        omega), b1.block k (Nat.lt_of_lt_of_le hk hB)]

set_option maxRecDepth 100000 in
set_option maxHeartbeats 1000000 in
theorem byN_one {w : World} {B : Nat} {x : Fl} (h0 : w.cell? ⟨B, 0, none⟩ = some (.string (ba x.nm))) (h1 : w.cell? ⟨B, 1, none⟩ = some (.slice x.a x.n x.c)) :
    Calls Tryz.prog 22 #[.slice (some ⟨B, 0, none⟩) 1 1] w fun e w' => ∃ v, e = .returned v ∧ FRow w.heap.size w' v [x] ∧ Below w.heap.size w w' := by
  have H0 := hide h0
  have H1 := hide h1
  clear h0 h1
  go_enter Tryz.func22, Tryz.ntmps22
  go_wp2
  go_loopw [3, 4, 5, 6] (fun v3 v4 _ _ wr => (v4 = .int .i64 0 ∧ v3 = .slice none 0 0 ∧ wr = w) ∨ (v4 = .int .i64 1 ∧ FRow w.heap.size wr v3 [x] ∧ Below w.heap.size w wr)) (fun _ v4 _ _ _ => 1 - (intOf v4).toNat)
  case atStart => exact Or.inl ⟨rfl, rfl, rfl⟩
  case round =>
    rename World => wr
    rcases hrel with ⟨rfl, rfl, rfl⟩ | ⟨rfl, hr, hb⟩
    · go_wp2
      refine wp_loop_rounds 1 ?_
      rw [rounds_succ]
      go_wp2
      go_quiet (fail)
      obtain ⟨wx, hwx⟩ : ∃ wx, wr.drewN nq = wx := ⟨_, rfl⟩
      have bx : Below wr.heap.size wr wx := by rw [← hwx]; exact lowN (Below.refl _ _) _
      have hsx : wx.heap.size = wr.heap.size := by rw [← hwx]; rfl
      have h0 := (bx.cell (lt_of_cell (unhide H0))).trans (unhide H0)
      have h1 := (bx.cell (lt_of_cell (unhide H1))).trans (unhide H1)
      rw [hwx]
      obtain ⟨W1, hW1⟩ : ∃ W1, wx.alloc (.cells #[] 56) = W1 := ⟨_, rfl⟩
      have b1 : Below wx.heap.size wx W1 := by rw [← hW1]; exact (Below.refl _ _).alloc (Nat.le_refl _) _
      have q1 : Blk W1 wx.heap.size #[] 56 := by rw [← hW1]; exact Blk.new _ _ _
      have hr1 : FRow wx.heap.size W1 (.slice (some ⟨wx.heap.size, 0, none⟩) 0 0) [] := ⟨rfl, Or.inr ⟨_, 0, #[], rfl, Nat.le_refl _, q1, Nat.le_refl _, Nat.zero_le _, rfl, rfl⟩⟩
      have ha1 := app_noF hr1
      obtain ⟨W2, hW2⟩ : ∃ W2, W1.alloc (.cells #[.string (ba x.nm), .slice x.a x.n x.c] 56) = W2 := ⟨_, rfl⟩
      obtain ⟨v2, w2, ha2, hr2, b2⟩ := app_F hr1 b1.size (by simp) hW2
      have ha3 := app_noF hr2
      have k0 := (b1.cell (lt_of_cell h0)).trans h0
      have k1 := (b1.cell (lt_of_cell h1)).trans h1
      rw [hsx] at hr2 b2
      have HR : Hid (FRow wr.heap.size w2 v2 [x] ∧ Below wr.heap.size wr w2) := hide ⟨hr2, bx.trans ((b1.mono (Nat.le_of_eq hsx.symm)).trans b2)⟩
      have HW1 := hide hW1
      have HW2 := hide hW2
      obtain ⟨a2, c2, hv2, _, _⟩ := FRow.at hr2
      clear b1 q1 hr1 hr2 b2 hW1 hW2 bx hwx h0 h1 hsx
      subst hv2
      go_wp2_with (at_builtin; first | (rw [unhide HW1]; refine Lib.wpList_append_run _ rfl (.tmp 33) (.tmp 36) 22 22 (by rfl) (.slice (some ⟨wx.heap.size, 0, none⟩) 0 0) (.slice none 0 0) (by rfl) (by rfl) _ _ ha1 ?_) | (rw [unhide HW2]; refine Lib.wpList_append_run _ rfl (.tmp 38) (.tmp 43) 22 22 (by rfl) _ _ (by rfl) (by rfl) _ _ ha2 ?_) | (refine Lib.wpList_append_run _ rfl (.tmp 45) (.tmp 48) 22 22 (by rfl) _ (.slice none 0 0) (by rfl) (by rfl) _ _ ha3 ?_))
      exact ⟨Or.inr ⟨rfl, (unhide HR).1, (unhide HR).2⟩, by simp [intOf]⟩
    · have HR := hide (And.intro hr hb)
      clear hr hb
      go_wp2
      go_ret
      exact ⟨_, rfl, (unhide HR).1, (unhide HR).2⟩
end Go.Proofs.YtkablmjkffdloaaGreatDoor
