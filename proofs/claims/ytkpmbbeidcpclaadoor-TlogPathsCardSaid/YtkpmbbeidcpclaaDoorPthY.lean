/-
  A row of texts, and one more.
-/
import Derived.Test.YtkpmbbeidcpclaaDoorPthW
import Derived.Test.YtkpmbbeidcpclaaDoorHasS
namespace Go.Proofs.YtkpmbbeidcpclaaDoor
open Go.RowKit

def txsV (xs : List ByteArray) : List Value := xs.map Value.string
abbrev TxAt (base : Nat) (w : World) (v : Value) (xs : List ByteArray) : Prop := w.ownsRow base 9 1 v xs.length (txsV xs)
theorem info9 : (Tryd.prog.info? 9).map (fun i => (i.zero, i.size, i.bytes)) = some (some (.string ⟨#[]⟩), 1, 16) := by kernel_rfl

theorem TxAt.low {base : Nat} {w w' : World} {v : Value} {xs : List ByteArray} (h : TxAt base w v xs) (b : Below w.heap.size w w') : TxAt base w' v xs := by
  refine ⟨h.1, ?_⟩
  rcases h.2 with ⟨rfl, hn⟩ | ⟨g, cap, cur, rfl, hb, hh, r⟩
  · exact Or.inl ⟨rfl, hn⟩
  · exact Or.inr ⟨g, cap, cur, rfl, hb, (b.block g (Array.getElem?_eq_some_iff.1 hh).1).trans hh, r⟩
theorem row9 {w : World} {base n : Nat} {v : Value} {xs : List Value} {g : Nat} (h : w.ownsRow base 9 1 v n xs) (hg : v.ownBlock = some g) : base ≤ g ∧ g < w.heap.size := by
  rcases h.2 with ⟨rfl, _⟩ | ⟨g', cap, cur, rfl, hb, hh, _⟩
  · cases hg
  · cases hg; exact ⟨hb, (Array.getElem?_eq_some_iff.1 hh).1⟩

theorem app_text {base : Nat} {w W1 : World} {v : Value} {xs : List ByteArray} {t : ByteArray} (h : TxAt base w v xs) (hB : base ≤ w.heap.size) (hl : xs.length ≤ 4000000) (hW : w.alloc (.cells #[.string t] 9) = W1) :
    ∃ v' w', (Builtin.append_ #[68, 68] 68 #[v, .slice (some ⟨w.heap.size, 0, none⟩) 1 1]).run Tryd.prog W1 = .ok v' w' ∧ TxAt base w' v' (xs ++ [t]) ∧ Below base w w' := by
  obtain ⟨i0, hi, hz0, hz1, hz2⟩ := info_parts info9
  have b1 : Below w.heap.size w W1 := by rw [← hW]; exact (Below.refl _ _).alloc (Nat.le_refl _) _
  have hz : Blk W1 w.heap.size #[.string t] 9 := by rw [← hW]; exact Blk.new _ _ _
  have h1 := TxAt.low h b1
  obtain ⟨v', w', r1, r2, r3, _, _⟩ := run_append_own_at (P := Tryd.prog) W1 base 68 68 9 i0 _ 1 16 Tryd.underlying68 hi hz0 hz1 hz2 rfl (by decide) v xs.length (txsV xs) h1 ⟨w.heap.size, 0, none⟩ 1 1 (txsV [t]) rfl (fun j u hj => by
    rw [WideShapes.add_plain, Nat.zero_add, hz.cell j]
    match j, hj with
    | 0, hj => exact hj
    | j + 1, hj => simp [txsV] at hj) (fun u hu => by simp [txsV] at hu; subst hu; rfl) (by unfold maxLen; omega) (by omega) (Nat.le_trans hB b1.size)
  refine ⟨v', w', r1, ?_, ⟨r3.os.trans b1.os, r3.tape.trans b1.tape, r3.output.trans b1.output, Nat.le_trans b1.size r3.size, fun k hk => ?_⟩⟩
  · unfold TxAt
    have e : txsV (xs ++ [t]) = txsV xs ++ txsV [t] := by unfold txsV; rw [List.map_append]
    rw [e, List.length_append]
    exact r2
  · rw [r3.block k (Nat.lt_of_lt_of_le hk (Nat.le_trans hB b1.size)) (fun e => by
      have := (row9 h e.symm).1
      omega), b1.block k (Nat.lt_of_lt_of_le hk hB)]
end Go.Proofs.YtkpmbbeidcpclaaDoor
