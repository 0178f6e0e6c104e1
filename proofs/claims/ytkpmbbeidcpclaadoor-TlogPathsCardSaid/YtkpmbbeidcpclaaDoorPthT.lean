/-
  ParsePath at a tile's path.
-/
import Derived.Test.YtkpmbbeidcpclaaDoorPthS
namespace Go.Proofs.YtkpmbbeidcpclaaDoor
open Go.RowKit

set_option maxRecDepth 100000 in
set_option maxHeartbeats 1000000 in
theorem parse_any {H L N W p s a b c : Nat} {w : World} (hg : Gd w) (h1 : 1 ≤ H) (h8 : H ≤ 8) (hp : 2 ^ H = p) (hW : 1 ≤ W) (hWp : W ≤ p) (hs : H * L = s) (hs20 : s ≤ 20) (ha : 1048576 / 2 ^ s = a) (hb : N * p = b) (hba : b + W ≤ a) (hc : a / p = c) (hNc : N ≤ c) (hN : N < 1000) :
    Calls Tryd.prog 43 #[.string (ba (pathL H L N W p))] w fun e w' => e = .returned (.tuple #[tileV H L N W, .int .i64 0]) ∧ Below w.heap.size w w' := by
  have hL : L < 1000 := by
    have : 1 * L ≤ H * L := Nat.mul_le_mul_right _ h1
    omega
  have hp8 : p ≤ 256 := by rw [← hp]; exact Nat.pow_le_pow_right (by decide) h8
  have hW3 : W < 1000 := by omega
  obtain ⟨W0, hW0⟩ : ∃ W0, w.alloc (.cells #[.int .i64 0, .int .i64 0, .int .i64 0, .int .i64 0] 72) = W0 := ⟨_, rfl⟩
  have b0 : Below w.heap.size w W0 := by rw [← hW0]; exact (Below.refl _ _).alloc (Nat.le_refl _) _
  have hZ : Blk W0 w.heap.size #[.int .i64 0, .int .i64 0, .int .i64 0, .int .i64 0] 72 := by rw [← hW0]; exact Blk.new _ _ _
  have HR := hide (fun (wx : World) (hb : Below w.heap.size w wx) => readPath_any h1 h8 hL hN hW3 hp (hg.low hb))
  have HP := hide (fun (wx : World) (hx : Below w.heap.size w wx) => path_good (hg.low hx) h1 h8 hp hW hWp hs hs20 ha hb hba hc hNc)
  have HZ := hide hZ
  have HB0 := hide b0
  have HW0 := hide hW0
  obtain ⟨P, hP⟩ : ∃ P, ba (pathL H L N W p) = P := ⟨_, rfl⟩
  rw [hP] at HR HP ⊢
  clear hP hZ b0 hW0 hg hs ha hb hba hc hNc
  unfold tileV at HR HP
  go_enter Tryd.func43, Tryd.ntmps43
  go_wp2_with (go_at_call 90; fail)
  rw [unhide HW0]
  refine (unhide HR _ (unhide HB0)).mono ?_
  rintro e w1 ⟨rfl, b1⟩
  have c1 := low_trans (unhide HB0) b1
  have HZ1 := hide ((unhide HZ).low b1)
  have HC1 := hide c1
  clear b1 HR c1
  go_wp2_with (go_at_call 42; fail)
  obtain ⟨W1, hW1⟩ : ∃ W1, w1.alloc (.cells #[.int .i64 (H : Int), .int .i64 (L : Int), .int .i64 (N : Int), .int .i64 (W : Int)] 72) = W1 := ⟨_, rfl⟩
  have d1 : Below w1.heap.size w1 W1 := by rw [← hW1]; exact (Below.refl _ _).alloc (Nat.le_refl _) _
  have hT : Blk W1 w1.heap.size #[.int .i64 (H : Int), .int .i64 (L : Int), .int .i64 (N : Int), .int .i64 (W : Int)] 72 := by rw [← hW1]; exact Blk.new _ _ _
  have HZ1b := hide ((unhide HZ1).low d1)
  have HC1b := hide (low_trans (unhide HC1) d1)
  rw [hW1]
  obtain ⟨g, hgg⟩ : ∃ g, w1.heap.size = g := ⟨_, rfl⟩
  rw [hgg] at hT ⊢
  have HT := hide hT
  clear hgg hT d1 hW1 HZ1 HC1
  refine (unhide HP _ (unhide HC1b)).mono ?_
  rintro e w2 ⟨rfl, kk, os, hw2⟩
  have b2 : Below W1.heap.size W1 w2 := Gr.low ⟨kk, os, hw2⟩
  have hblk := (unhide HZ1b).low b2
  have hT2 := (unhide HT).low b2
  have HZ2 := hide hblk
  have HC2 := hide (low_trans (unhide HC1b) b2)
  have f0 := hblk.free 0
  have f1 := hblk.free 1
  have f2 := hblk.free 2
  have f3 := hblk.free 3
  have e0 := hblk.cell 0
  have e1 := hblk.cell 1
  have e2 := hblk.cell 2
  have e3 := hblk.cell 3
  have t0 := hT2.cell 0
  have t1 := hT2.cell 1
  have t2 := hT2.cell 2
  have t3 := hT2.cell 3
  clear hblk b2 HZ1b HC1b hw2 HP hT2
  go_wp2
  have hfin := ((((unhide HZ2).set 0 (.int .i64 (H : Int))).set 1 (.int .i64 (L : Int))).set 2 (.int .i64 (N : Int))).set 3 (.int .i64 (W : Int))
  have HB := unhide HC2
  exact bodyPost_ret (v := .tuple #[tileV H L N W, .int .i64 0])
      (by
        have hl := run_loadVar_row (P := Tryd.prog) _ w.heap.size 72 72 _ (0, 0) _ hfin Tryd.underlying72 rfl size72
        simp only [results, Tryd.results43]
        simp [asAddr, hl, tileV]) rfl
      ⟨rfl, (((HB.setCell (Nat.le_refl _) _).setCell (Nat.le_refl _) _).setCell (Nat.le_refl _) _).setCell (Nat.le_refl _) _⟩
end Go.Proofs.YtkpmbbeidcpclaaDoor
