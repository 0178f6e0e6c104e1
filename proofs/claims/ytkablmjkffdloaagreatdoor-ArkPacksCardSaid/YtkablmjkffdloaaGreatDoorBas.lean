/-
  Bytes in memory; words of 32 bits as the walk spells them.
-/
import Derived.Test.YtkablmjkffdloaaGreatDoorProg
import Derived.Below
import Derived.WalkKit
import Derived.WalkLawsBesides
import Derived.WalkSpells
import Derived.Deep.QuietTactic
import Derived.BigQuiet
import Derived.Laws.BitsAllLaws
import Derived.Lib.Walk
import Derived.Laws.IdiomRangeMap
namespace Go.Proofs.YtkablmjkffdloaaGreatDoor
open Go.RowKit

theorem hide {p : Prop} (h : p) : Hid p := h
theorem unhide {p : Prop} (h : Hid p) : p := h

abbrev Bs := List UInt8

/-- Bytes lie at a slice. -/
structure BAt (w : World) (a : Option Addr) (xs : Bs) : Prop where
  els : xs = [] ∨ ∃ B O, a = some ⟨B, O, none⟩ ∧ ∀ k (hk : k < xs.length), w.cell? ⟨B, O + k, none⟩ = some (.int .u8 (xs[k].toNat : Int))

theorem lt_of_cell {w : World} {a : Addr} {v : Value} (h : w.cell? a = some v) : a.block < w.heap.size := by
  unfold World.cell? at h
  cases hb : w.heap[a.block]? with
  | none => simp [hb] at h
  | some o => exact (Array.getElem?_eq_some_iff.1 hb).1

theorem BAt.low {w w' : World} {a : Option Addr} {xs : Bs} (h : BAt w a xs) (hb : Below w.heap.size w w') : BAt w' a xs := by
  rcases h.els with h0 | ⟨B, O, ha, he⟩
  · exact ⟨Or.inl h0⟩
  · exact ⟨Or.inr ⟨B, O, ha, fun k hk => (hb.cell (lt_of_cell (he k hk))).trans (he k hk)⟩⟩

theorem BAt.at {w : World} {a : Option Addr} {xs : Bs} (h : BAt w a xs) {k : Nat} (hk : k < xs.length) : ∃ B O, a = some ⟨B, O, none⟩ ∧ w.cell? ⟨B, O + k, none⟩ = some (.int .u8 (xs[k].toNat : Int)) := by
  rcases h.els with h0 | ⟨B, O, ha, he⟩
  · rw [h0] at hk; simp at hk
  · exact ⟨B, O, ha, he k hk⟩

def Blk (w : World) (b : Nat) (cs : Array Value) (t : TypeId) : Prop := w.heap[b]? = some (.cells cs t (0, 0))
theorem Blk.cell {w : World} {b : Nat} {cs : Array Value} {t : TypeId} (h : Blk w b cs t) (i : Nat) : w.cell? ⟨b, i, none⟩ = cs[i]? := Lib.cell_of_heap h i
theorem Blk.free {w : World} {b : Nat} {cs : Array Value} {t : TypeId} (h : Blk w b cs t) (i : Nat) : w.frozen? ⟨b, i, none⟩ = false := Lib.frozen_of_heap h i
theorem Blk.lt {w : World} {b : Nat} {cs : Array Value} {t : TypeId} (h : Blk w b cs t) : b < w.heap.size := (Array.getElem?_eq_some_iff.1 h).1
theorem Blk.low {w w' : World} {b : Nat} {cs : Array Value} {t : TypeId} (h : Blk w b cs t) (hb : Below w.heap.size w w') : Blk w' b cs t := (hb.block b h.lt).trans h
theorem Blk.new (w : World) (cs : Array Value) (t : TypeId) : Blk (w.alloc (.cells cs t)) w.heap.size cs t := heap_alloc_new w _
theorem Blk.alloc {w : World} {b : Nat} {cs : Array Value} {t : TypeId} (h : Blk w b cs t) (o : Obj) : Blk (w.alloc o) b cs t := h.low ((Below.refl _ _).alloc (Nat.le_refl _) o)
theorem Blk.drew {w : World} {b : Nat} {cs : Array Value} {t : TypeId} (h : Blk w b cs t) : Blk w.drew b cs t := h
theorem heap_setCell_at {w : World} {F i : Nat} {cs : Array Value} {e : TypeId} {fr : Nat × Nat} (h : w.heap[F]? = some (.cells cs e fr)) (v : Value) :
    (w.setCell ⟨F, i, none⟩ v).heap[F]? = some (.cells (cs.setIfInBounds i v) e fr) := by
  simp only [World.setCell]
  rw [Array.getElem?_modify]
  simp [h]
theorem Blk.set {w : World} {b : Nat} {cs : Array Value} {t : TypeId} (h : Blk w b cs t) (i : Nat) (v : Value) : Blk (w.setCell ⟨b, i, none⟩ v) b (cs.setIfInBounds i v) t := heap_setCell_at h v
theorem Blk.other {w : World} {b : Nat} {cs : Array Value} {t : TypeId} (h : Blk w b cs t) {a : Addr} (hne : b ≠ a.block) (v : Value) : Blk (w.setCell a v) b cs t := (Below.heap_setCell _ _ _ _ hne).trans h
theorem low_trans {a b c : World} (h : Below a.heap.size a b) (k : Below b.heap.size b c) : Below a.heap.size a c := h.trans (k.mono h.size)

theorem u8_lt (c : UInt8) : c.toNat < 256 := UInt8.toNat_lt c
theorem u32_lt (x : UInt32) : x.toNat < 4294967296 := UInt32.toNat_lt x

/-! ### Words of 32 bits -/
theorem bx (x y : UInt32) : bits .xor .u32 (x.toNat : Int) (y.toNat : Int) = ((x ^^^ y).toNat : Int) := by
  rw [u32_xor_nat _ _ (u32_lt x) (u32_lt y), UInt32.toNat_xor]
theorem ban (x y : UInt32) : bits .and .u32 (x.toNat : Int) (y.toNat : Int) = ((x &&& y).toNat : Int) := by
  rw [u32_and_nat _ _ (u32_lt x) (u32_lt y), UInt32.toNat_and]
theorem bor (x y : UInt32) : bits .or .u32 (x.toNat : Int) (y.toNat : Int) = ((x ||| y).toNat : Int) := by
  rw [u32_or_nat _ _ (u32_lt x) (u32_lt y), UInt32.toNat_or]
theorem bnot (x : UInt32) : bits .xor .u32 4294967295 (x.toNat : Int) = ((~~~ x).toNat : Int) := by
  have h := bx 0xffffffff x
  have e : ((0xffffffff : UInt32) ^^^ x) = ~~~ x := by
    apply UInt32.toBitVec_inj.1
    simp
    exact BitVec.allOnes_xor
  rw [e] at h
  exact h
theorem wadd (x y : UInt32) : IntKind.u32.wrap ((x.toNat : Int) + (y.toNat : Int)) = ((x + y).toNat : Int) := by
  rw [IntKind.wrap_u32', UInt32.toNat_add]
  omega
theorem wneg (x : UInt32) : IntKind.u32.wrap (-(x.toNat : Int)) = ((-x).toNat : Int) := by
  have h := u32_lt x
  rw [IntKind.wrap_u32', UInt32.toNat_neg]
  have e : (2 : Nat) ^ 32 = 4294967296 := rfl
  first | omega | (rw [e]; omega) | (simp only [UInt32.size]; omega)
theorem shr1 (x : UInt32) : (x.toNat : Int) / (2 : Int) = ((x >>> 1).toNat : Int) := by
  rw [UInt32.toNat_shiftRight]
  have : (1 : UInt32).toNat % 32 = 1 := rfl
  rw [this, Nat.shiftRight_eq_div_pow]
  omega
theorem u8_32 (c : UInt8) : (c.toNat : Int) = (c.toUInt32.toNat : Int) := by rw [UInt8.toNat_toUInt32]

end Go.Proofs.YtkablmjkffdloaaGreatDoor
