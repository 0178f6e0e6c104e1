/-
  Tiles: which one has a hash.
-/
import Derived.Test.YtkpmbbeidcpclaaGreatDoorOnes
namespace Go.Proofs.YtkpmbbeidcpclaaGreatDoor
open Go.RowKit

def heightB (h : Int) : Bool := decide (1 ≤ h) && decide (h ≤ 8)
theorem height_any (h : Int) (w : World) : Calls Tryz.prog 44 #[.int .i64 h] w fun e w' => e = .returned (.bool (heightB h)) ∧ w' = w := by
  by_cases h1 : 1 ≤ h
  · have HT : Hid (heightB h = decide (h ≤ 8)) := hide (by unfold heightB; simp [h1])
    go_enter Tryz.func44, Tryz.ntmps44
    go_wp2
    go_ret
    exact ⟨by rw [unhide HT]; rfl, rfl⟩
  · have HT : Hid (heightB h = false) := hide (by unfold heightB; simp [h1])
    go_enter Tryz.func44, Tryz.ntmps44
    go_wp2
    go_ret
    exact ⟨by rw [unhide HT]; rfl, rfl⟩
theorem height_nat {h : Nat} (h1 : 1 ≤ h) (h8 : h ≤ 8) : heightB (h : Int) = true := by
  unfold heightB
  rw [decide_eq_true (by omega : (1 : Int) ≤ (h : Int)), decide_eq_true (by omega : (h : Int) ≤ 8)]
  rfl

theorem size72 : (Tryz.prog.info? 31).map (·.size) = some 4 := by kernel_rfl
/-- a: how many hashes of that level there are; p: how many a full tile has; b: those ahead of the tile. -/
theorem widest_any {h n row k s a p b t : Nat} (h8 : h ≤ 8) (hs : h * row = s) (hs64 : s ≤ 63) (hn : n ≤ 1048576) (ha : n / 2 ^ s = a) (hp : 2 ^ h = p) (hb : k * p = b) (hk : b ≤ 1048576) (hba : b + t = a) (w : World) :
    Calls Tryz.prog 47 #[.int .i64 (h : Int), .int .i64 (n : Int), .int .i64 (row : Int), .int .i64 (k : Int)] w fun e w' => e = .returned (.agg #[.int .i64 (h : Int), .int .i64 (row : Int), .int .i64 (k : Int), .int .i64 ((min t p : Nat) : Int)]) ∧ Below w.heap.size w w' := by
  have e1 : (h : Int) * (row : Int) = (s : Int) := by rw [← hs]; push_cast; rfl
  have e2 : (n : Int) / 2 ^ s = (a : Int) := by rw [pow_int, ← Int.natCast_ediv, ha]
  have e3 : (2 : Int) ^ h = (p : Int) := by rw [pow_int, hp]
  have e4 : (k : Int) * (p : Int) = (b : Int) := by rw [← hb]; push_cast; rfl
  have e5 : (a : Int) - (b : Int) = (t : Int) := by omega
  have hp2 : p ≤ 256 := by
    rw [← hp]
    exact Nat.le_trans (Nat.pow_le_pow_right (by decide) h8) (by decide)
  have ha2 : a ≤ 1048576 := by rw [← ha]; exact Nat.le_trans (Nat.div_le_self _ _) hn
  have hmin : Hid (min (t : Int) (p : Int) = ((min t p : Nat) : Int)) := hide (by omega)
  clear hs ha hp hb hba
  go_enter Tryz.func47, Tryz.ntmps47
  go_wp2
  go_quiet (fail)
  go_wp2
  have HB : Below w.heap.size w ((w.alloc (.cells #[.int .i64 0, .int .i64 0, .int .i64 0, .int .i64 0] 31)).drewN nq) := lowN ((Below.refl _ _).alloc (Nat.le_refl _) _) _
  have hblk : Blk ((w.alloc (.cells #[.int .i64 0, .int .i64 0, .int .i64 0, .int .i64 0] 31)).drewN nq) w.heap.size #[.int .i64 0, .int .i64 0, .int .i64 0, .int .i64 0] 31 := Blk.new w _ 31
  have hfin := (((hblk.set 0 (.int .i64 (h : Int))).set 1 (.int .i64 (row : Int))).set 2 (.int .i64 (k : Int))).set 3 (.int .i64 (min (t : Int) (p : Int)))
  exact bodyPost_ret (v := .agg #[.int .i64 (h : Int), .int .i64 (row : Int), .int .i64 (k : Int), .int .i64 (min (t : Int) (p : Int))]) (results_cell_row Tryz.results47 _ _ w.heap.size 31 _ (0, 0) _ rfl hfin Tryz.underlying31 rfl size72) rfl
    ⟨by rw [unhide hmin], (((HB.setCell (Nat.le_refl _) _).setCell (Nat.le_refl _) _).setCell (Nat.le_refl _) _).setCell (Nat.le_refl _) _⟩

/-- The tile of a hash: v = h row + d. -/
theorem tileOf_any {h n v k row d s a p x q b t : Nat} (h1 : 1 ≤ h) (h8 : h ≤ 8) (hn : n ≤ 1048576) (hv : v ≤ 20) (hk : (k + 1) * 2 ^ v ≤ n) (hr : v / h = row) (hs : h * row = s) (hd : s + d = v) (ha : n / 2 ^ s = a) (hp : 2 ^ h = p) (hx : k * 2 ^ d = x) (hx2 : x ≤ 1048576) (hq : x / p = q) (hb : q * p = b) (hba : b + t = a) (w : World) :
    Calls Tryz.prog 10 #[.int .i64 (h : Int), .int .i64 (n : Int), .int .i64 (v : Int), .int .i64 (k : Int)] w fun e w' => e = .returned (.tuple #[.agg #[.int .i64 (h : Int), .int .i64 (row : Int), .int .i64 (q : Int), .int .i64 ((min t p : Nat) : Int)], .int .i64 0]) ∧ Below w.heap.size w w' := by
  have T1 := hide (height_nat h1 h8)
  have T2 := hide (sizeB_nat hn)
  have T3 : Hid (treeB (v : Int) (k : Int) (n : Int) = true) := hide (tree_nat hv hk)
  have e0 : (v : Int) / (h : Int) = (row : Int) := by rw [← Int.natCast_ediv, hr]
  have e1 : (h : Int) * (row : Int) = (s : Int) := by rw [← hs]; push_cast; rfl
  have e2 : (v : Int) - (s : Int) = (d : Int) := by omega
  have e3 : (k : Int) * 2 ^ d = (x : Int) := by rw [← hx]; push_cast; rfl
  have e4 : (x : Int) / 2 ^ h = (q : Int) := by rw [pow_int, ← Int.natCast_ediv, hp, hq]
  have hbx : b ≤ x := by rw [← hb, ← hq]; exact Nat.div_mul_le_self _ _
  have HW : Hid (∀ wx : World, Calls Tryz.prog 47 #[.int .i64 (h : Int), .int .i64 (n : Int), .int .i64 (row : Int), .int .i64 (q : Int)] wx fun e w' => e = .returned (.agg #[.int .i64 (h : Int), .int .i64 (row : Int), .int .i64 (q : Int), .int .i64 ((min t p : Nat) : Int)]) ∧ Below wx.heap.size wx w') := hide (fun wx => widest_any h8 hs (by omega) hn ha hp hb (by omega) hba wx)
  have hd20 : d ≤ 20 := by omega
  have hs20 : s ≤ 20 := by omega
  have hrow : row ≤ 20 := by rw [← hr]; exact Nat.le_trans (Nat.div_le_self _ _) hv
  have hkb : k ≤ 1048576 := by
    have : k * 1 ≤ k * 2 ^ d := Nat.mul_le_mul_left _ Nat.one_le_two_pow
    omega
  have hne : (h : Int) ≠ 0 := by omega
  clear hk hr hs hd ha hp hx hq hb hba
  go_enter Tryz.func10, Tryz.ntmps10
  go_wp2_with (go_at_call 44; fail)
  refine (height_any _ _).mono ?_
  rintro e w1 ⟨rfl, rfl⟩
  rw [unhide T1]
  go_wp2_with (go_at_call 45; fail)
  refine (size_any _ _).mono ?_
  rintro e w2 ⟨rfl, rfl⟩
  rw [unhide T2]
  go_wp2_with (go_at_call 46; fail)
  refine (isTree_any _).mono ?_
  rintro e w3 ⟨rfl, rfl⟩
  rw [unhide T3]
  go_wp2_with (go_at_call 47; fail)
  refine (unhide HW _).mono ?_
  rintro e w4 ⟨rfl, b4⟩
  have hblk := (Blk.new w #[.int .i64 0, .int .i64 0, .int .i64 0, .int .i64 0] 31).low b4
  have HB4 := hide b4
  have HK := hide hblk
  have c0 := hblk.free 0
  have c1 := hblk.free 1
  have c2 := hblk.free 2
  have c3 := hblk.free 3
  have d0 := hblk.cell 0
  have d1 := hblk.cell 1
  have d2 := hblk.cell 2
  have d3 := hblk.cell 3
  clear b4 hblk
  go_wp2
  have hfin := ((((unhide HK).set 0 (.int .i64 (h : Int))).set 1 (.int .i64 (row : Int))).set 2 (.int .i64 (q : Int))).set 3 (.int .i64 ((min t p : Nat) : Int))
  have HB : Below w.heap.size w w4 := low_trans ((Below.refl _ _).alloc (Nat.le_refl _) _) (unhide HB4)
  exact bodyPost_ret (v := .tuple #[.agg #[.int .i64 (h : Int), .int .i64 (row : Int), .int .i64 (q : Int), .int .i64 ((min t p : Nat) : Int)], .int .i64 0])
    (by
      have hl := run_loadVar_row (P := Tryz.prog) _ w.heap.size 31 31 _ (0, 0) _ hfin Tryz.underlying31 rfl size72
      simp only [results, Tryz.results10]
      simp [asAddr, hl]) rfl
    ⟨rfl, (((HB.setCell (Nat.le_refl _) _).setCell (Nat.le_refl _) _).setCell (Nat.le_refl _) _).setCell (Nat.le_refl _) _⟩
end Go.Proofs.YtkpmbbeidcpclaaGreatDoor
