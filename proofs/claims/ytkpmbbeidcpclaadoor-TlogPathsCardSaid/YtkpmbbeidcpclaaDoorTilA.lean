/-
  All tiles of a log.
-/
import Derived.Test.YtkpmbbeidcpclaaDoorTile
import Derived.Test.YtkpmbbeidcpclaaDoorLeaf
import Derived.Lib.AppendZeros
namespace Go.Proofs.YtkpmbbeidcpclaaDoor
open Go.RowKit

/-- A tile: height, row, number, width. -/
structure Ti where
  h : Nat
  l : Nat
  n : Nat
  w : Nat
def tisV : List Ti → List Value
  | [] => []
  | t :: r => .int .i64 (t.h : Int) :: .int .i64 (t.l : Int) :: .int .i64 (t.n : Int) :: .int .i64 (t.w : Int) :: tisV r
theorem tisV_append (a b : List Ti) : tisV (a ++ b) = tisV a ++ tisV b := by
  induction a with
  | nil => rfl
  | cons x r ih => simp [tisV, ih]
theorem tisV_len (a : List Ti) : (tisV a).length = a.length * 4 := by
  induction a with
  | nil => rfl
  | cons x r ih => simp [tisV, ih]; omega
/-- A row of tiles. -/
abbrev TiAt (base : Nat) (w : World) (v : Value) (ts : List Ti) : Prop := w.ownsRow base 72 4 v ts.length (tisV ts)

theorem info72 : (Tryd.prog.info? 72).map (fun i => (i.zero, i.size, i.bytes)) = some (some (.agg #[.int .i64 0, .int .i64 0, .int .i64 0, .int .i64 0]), 4, 32) := by kernel_rfl

theorem row72 {w : World} {base n : Nat} {v : Value} {xs : List Value} {g : Nat} (h : w.ownsRow base 72 4 v n xs) (hg : v.ownBlock = some g) : base ≤ g ∧ g < w.heap.size := by
  rcases h.2 with ⟨rfl, _⟩ | ⟨g', cap, cur, rfl, hb, hh, _⟩
  · cases hg
  · cases hg; exact ⟨hb, (Array.getElem?_eq_some_iff.1 hh).1⟩
theorem TiAt.low {base : Nat} {w w' : World} {v : Value} {ts : List Ti} (h : TiAt base w v ts) (b : Below w.heap.size w w') : TiAt base w' v ts := by
  refine ⟨h.1, ?_⟩
  rcases h.2 with ⟨rfl, hn⟩ | ⟨g, cap, cur, rfl, hb, hh, r⟩
  · exact Or.inl ⟨rfl, hn⟩
  · exact Or.inr ⟨g, cap, cur, rfl, hb, (b.block g (Array.getElem?_eq_some_iff.1 hh).1).trans hh, r⟩

/-- append of one tile, laid into a block of its own. -/
theorem app_tile {base : Nat} {w W1 : World} {v : Value} {ts : List Ti} {t : Ti} (h : TiAt base w v ts) (hB : base ≤ w.heap.size) (hl : ts.length ≤ 4000000) (hW : w.alloc (.cells #[.int .i64 (t.h : Int), .int .i64 (t.l : Int), .int .i64 (t.n : Int), .int .i64 (t.w : Int)] 72) = W1) :
    ∃ v' w', (Builtin.append_ #[65, 65] 65 #[v, .slice (some ⟨w.heap.size, 0, none⟩) 1 1]).run Tryd.prog W1 = .ok v' w' ∧ TiAt base w' v' (ts ++ [t]) ∧ Below base w w' := by
  obtain ⟨i0, hi, hz0, hz1, hz2⟩ := info_parts info72
  have b1 : Below w.heap.size w W1 := by rw [← hW]; exact (Below.refl _ _).alloc (Nat.le_refl _) _
  have hz : Blk W1 w.heap.size #[.int .i64 (t.h : Int), .int .i64 (t.l : Int), .int .i64 (t.n : Int), .int .i64 (t.w : Int)] 72 := by rw [← hW]; exact Blk.new _ _ _
  have h1 := TiAt.low h b1
  obtain ⟨v', w', r1, r2, r3, _, _⟩ := run_append_own_at (P := Tryd.prog) W1 base 65 65 72 i0 _ 4 32 Tryd.underlying65 hi hz0 hz1 hz2 rfl (by decide) v ts.length (tisV ts) h1 ⟨w.heap.size, 0, none⟩ 1 1 (tisV [t]) rfl (fun j u hj => by
    rw [WideShapes.add_plain, Nat.zero_add, hz.cell j]
    match j, hj with
    | 0, hj => exact hj
    | 1, hj => exact hj
    | 2, hj => exact hj
    | 3, hj => exact hj
    | j + 4, hj => simp [tisV] at hj) (fun u hu => by simp [tisV] at hu; rcases hu with rfl | rfl | rfl | rfl <;> rfl) (by unfold maxLen; omega) (by omega) (Nat.le_trans hB b1.size)
  refine ⟨v', w', r1, ?_, ⟨r3.os.trans b1.os, r3.tape.trans b1.tape, r3.output.trans b1.output, Nat.le_trans b1.size r3.size, fun k hk => ?_⟩⟩
  · unfold TiAt
    rw [tisV_append, List.length_append]
    exact r2
  · rw [r3.block k (Nat.lt_of_lt_of_le hk (Nat.le_trans hB b1.size)) (fun e => by
      have := (row72 h e.symm).1
      omega), b1.block k (Nat.lt_of_lt_of_le hk hB)]

/-- The first m tiles of a row of a hashes, p in a full tile. -/
def rowT (h r a p m : Nat) : List Ti := (List.range m).map fun k => ⟨h, r, k, min (a - k * p) p⟩
theorem rowT_snoc (h r a p m : Nat) : rowT h r a p (m + 1) = rowT h r a p m ++ [⟨h, r, m, min (a - m * p) p⟩] := by
  unfold rowT
  rw [List.range_succ, List.map_append]; rfl
/-- How many tiles a row has. -/
def rowN (a p : Nat) : Nat := (a + p - 1) / p
/-- All tiles from a row on. -/
def tilesF : Nat → Nat → Nat → Nat → List Ti
  | 0, _, _, _ => []
  | f + 1, h, n, r => if n / 2 ^ (h * r) = 0 then [] else rowT h r (n / 2 ^ (h * r)) (2 ^ h) (rowN (n / 2 ^ (h * r)) (2 ^ h)) ++ tilesF f h n (r + 1)

end Go.Proofs.YtkpmbbeidcpclaaDoor
