/-
  A path is read back.
-/
import Derived.Test.YtkpmbbeidcpclaaDoorPthQ
import Derived.Test.YtkpmbbeidcpclaaDoorTile
namespace Go.Proofs.YtkpmbbeidcpclaaDoor
open Go.RowKit

theorem Gd.cellM {w w' : World} (h : Gd w) (b : Below w.heap.size w w') : ∃ m, w'.cell? ⟨3, 0, none⟩ = some (.int .i64 m) := by
  obtain ⟨m, hm⟩ := h.ml
  exact ⟨m, (b.cell (lt_of_cell hm)).trans hm⟩

theorem atoi_is {b : Bs} {n : Int} (hl : b.length ≤ 18) (h : Lib.atoi b = some n) (w : World) : Calls Tryd.prog 115 #[.string (ba b)] w fun e w' => e = .returned (.tuple #[.int .i64 n, .nilIface]) ∧ Below w.heap.size w w' := by
  refine (Tryd.strconv_Atoi (ba b) n (by show b.toArray.size ≤ 18; simpa using hl) (by show Lib.atoi b.toArray.toList = _; simpa using h) w).mono ?_
  rintro e w' ⟨rfl, t, rfl⟩
  exact ⟨rfl, Lib.bytesWorld_below _ _ _⟩

theorem repl_is {c : UInt8} {b : Bs} (hl : b.length ≤ 1000) (h : c ∉ b) {m : Int} {w : World} (hm : w.cell? ⟨3, 0, none⟩ = some (.int .i64 m)) : Calls Tryd.prog 114 #[.string (ba b), .string ⟨#[c]⟩, .string ⟨#[]⟩] w fun e w' => e = .returned (.string (ba b)) ∧ Below w.heap.size w w' := by
  have hs : (ba b).size = b.length := by show b.toArray.size = _; simp
  refine (Tryd.strings_ReplaceAll (ba b) ⟨#[c]⟩ ⟨#[]⟩ m w (by rw [hs]; omega) hm (Nat.le_refl 1) (by
    have : (ByteArray.mk #[]).size = 0 := rfl
    rw [this, Nat.mul_zero, hs]; omega)).mono ?_
  rintro e w' ⟨rfl, bl⟩
  refine ⟨?_, bl⟩
  have e1 : Lib.replaceAll (ba b).data.toList (ByteArray.mk #[c]).data.toList (ByteArray.mk #[]).data.toList = b := by
    show Lib.replaceAll b.toArray.toList [c] [] = b
    exact replaceAll_no h
  rw [e1]; rfl

theorem split_is {H L N : Nat} (hN : N < 1000) (hH : H < 1000) (hL : L < 1000) {m : Int} {w : World} (hm : w.cell? ⟨3, 0, none⟩ = some (.int .i64 m)) : Calls Tryd.prog 113 #[.string (ba (dirL H L N)), .string ⟨#[47]⟩, .int .i64 4] w fun e w' => e = .returned (.slice (some ⟨w.heap.size, 0, none⟩) 4 4) ∧ w' = w.alloc (.cells #[.string ⟨#[116, 105, 108, 101]⟩, .string (ba (dig3 H)), .string (ba (dig3 L)), .string (ba (three N))] 9) := by
  have hlen : (dirL H L N).length ≤ 100 ∧ 4 ≤ (dirL H L N).length := by
    have a1 : (dig3 H).length ≤ 3 := (dig3_all ⟨H, hH⟩).2.2.2
    have a2 : (dig3 L).length ≤ 3 := (dig3_all ⟨L, hL⟩).2.2.2
    unfold dirL groupL
    rw [if_pos hN, dec_dig3 hH, dec_dig3 hL]
    simp [three]
    omega
  have hs : (ba (dirL H L N)).size = (dirL H L N).length := by show (dirL H L N).toArray.size = _; simp
  refine (Tryd.strings_SplitN (ba (dirL H L N)) ⟨#[47]⟩ 4 m w (by rw [hs]; omega) hm (by decide) (by omega) (by omega)).mono ?_
  have hmin : min 4 ((ba (dirL H L N)).size + 1) = 4 := by rw [hs]; omega
  rw [hmin]
  have hd : Lib.splitB ⟨#[47]⟩ 0 (4 - 1) (ba (dirL H L N)) = _ := dir_split hN hH hL
  rw [hd]
  rintro e w' ⟨rfl, rfl⟩
  exact ⟨rfl, rfl⟩

end Go.Proofs.YtkpmbbeidcpclaaDoor
