/-
  The reference's SHA-256: words turned; rows of words; the loops of its body.
-/
import Derived.Test.YtkpmbbeidcpclaaDoorLeaf
import Derived.Test.YtkpmbbeidcpclaaDoorOnes
namespace Go.Proofs.YtkpmbbeidcpclaaDoor
open Go.RowKit

theorem turn_any (x : UInt32) {k j p q : Nat} (h0 : 0 < k) (hk : k < 32) (hj : k + j = 32) (hp : 2 ^ j = p) (hq : 2 ^ k = q) (w : World) : Calls Tryd.prog 95 #[.int .u32 (x.toNat : Int), .int .i64 (k : Int)] w fun e w' => e = .returned (.int .u32 ((rotr x k).toNat : Int)) ∧ ∃ m, w' = w.drewN m := by
  have e1 : (32 : Int) - (k : Int) = (j : Int) := by omega
  have e2 : (x.toNat : Int) / 2 ^ k = ((x >>> (UInt32.ofNat k)).toNat : Int) := by rw [pow_int, hq]; exact shrN x hk hq
  have e3 : (x.toNat : Int) * 2 ^ j % 4294967296 = ((x <<< (UInt32.ofNat j)).toNat : Int) := by rw [pow_int, hp]; exact shlN x (by omega) hp
  have e4 : bits .or .u32 ((x >>> (UInt32.ofNat k)).toNat : Int) ((x <<< (UInt32.ofNat j)).toNat : Int) = ((rotr x k).toNat : Int) := by
    rw [bor]
    unfold rotr
    rw [show 32 - k = j by omega, UInt32.or_comm]
  have hx := u32_lt x
  have hj32 : j < 32 := by omega
  obtain ⟨y, hy⟩ : ∃ y, x >>> (UInt32.ofNat k) = y := ⟨_, rfl⟩
  obtain ⟨z, hz⟩ : ∃ z, x <<< (UInt32.ofNat j) = z := ⟨_, rfl⟩
  rw [hy] at e2 e4
  rw [hz] at e3 e4
  clear hj hp hq hy hz
  go_enter Tryd.func95, Tryd.ntmps95
  go_wp2
  go_quiet (fail)
  go_wp2
  go_ret
  exact ⟨rfl, nq, rfl⟩

/-- A row of words. -/
abbrev WBlk (w : World) (B : Nat) (l : List UInt32) : Prop := Blk w B (l.map encW).toArray 115
theorem WBlk.at {w : World} {B : Nat} {l : List UInt32} (h : WBlk w B l) {i : Nat} (hi : i < l.length) : w.cell? ⟨B, i, none⟩ = some (.int .u32 (l[i].toNat : Int)) := by
  rw [h.cell i]
  simp [encW, hi]
theorem WBlk.put {w : World} {B : Nat} {l : List UInt32} (h : WBlk w B l) (i : Nat) (x : UInt32) : WBlk (w.setCell ⟨B, i, none⟩ (.int .u32 (x.toNat : Int))) B (l.set i x) := by
  have := h.set i (encW x)
  have e : ((l.map encW).toArray.setIfInBounds i (encW x)) = ((l.set i x).map encW).toArray := by simp
  rw [e] at this
  exact this

/-- Words lie at the front of a block. -/
def WAt (w : World) (B : Nat) (l : List UInt32) : Prop := ∀ k (hk : k < l.length), w.cell? ⟨B, k, none⟩ = some (.int .u32 (l[k].toNat : Int))
theorem WBlk.wat {w : World} {B : Nat} {l : List UInt32} (h : WBlk w B l) : WAt w B l := fun _ hk => h.at hk
theorem WAt.lt {w : World} {B : Nat} {l : List UInt32} (h : WAt w B l) (hl : 0 < l.length) : B < w.heap.size := lt_of_cell (h 0 hl)

/-- What a loop leaves that may write into one block alone. -/
structure Fr1 (B : Nat) (w w' : World) : Prop where
  os : w'.os = w.os
  tape : w'.tape = w.tape
  output : w'.output = w.output
  size : w.heap.size ≤ w'.heap.size
  block : ∀ k, k < w.heap.size → k ≠ B → w'.heap[k]? = w.heap[k]?
theorem Fr1.refl (B : Nat) (w : World) : Fr1 B w w := ⟨rfl, rfl, rfl, Nat.le_refl _, fun _ _ _ => rfl⟩
theorem Fr1.trans {B : Nat} {a b c : World} (h : Fr1 B a b) (k : Fr1 B b c) : Fr1 B a c := ⟨k.os.trans h.os, k.tape.trans h.tape, k.output.trans h.output, Nat.le_trans h.size k.size, fun i hi hn => (k.block i (Nat.lt_of_lt_of_le hi h.size) hn).trans (h.block i hi hn)⟩
theorem Fr1.set {B : Nat} {a w : World} (h : Fr1 B a w) (i : Nat) (v : Value) : Fr1 B a (w.setCell ⟨B, i, none⟩ v) := h.trans ⟨rfl, rfl, rfl, by simp [World.setCell], fun k _ hk => Below.heap_setCell _ _ _ _ hk⟩
theorem Fr1.drewN {B : Nat} {a w : World} (h : Fr1 B a w) (n : Nat) : Fr1 B a (w.drewN n) := h.trans ⟨rfl, rfl, rfl, Nat.le_refl _, fun _ _ _ => rfl⟩
theorem Fr1.drew {B : Nat} {a w : World} (h : Fr1 B a w) : Fr1 B a w.drew := h.trans ⟨rfl, rfl, rfl, Nat.le_refl _, fun _ _ _ => rfl⟩
theorem Fr1.blk {B C : Nat} {w w' : World} {cs : Array Value} {t : TypeId} (h : Fr1 B w w') (hne : C ≠ B) (hb : Blk w C cs t) : Blk w' C cs t := (h.block C hb.lt hne).trans hb

theorem Fr1.wat {B C : Nat} {w w' : World} {l : List UInt32} (h : Fr1 B w w') (hne : C ≠ B) (hl : 0 < l.length) (hb : WAt w C l) : WAt w' C l := fun k hk => (World.cell?_of_block (h.block C (hb.lt hl) hne)).trans (hb k hk)

/-- A piece of code that is left by one exit alone. -/
def OnExit (n : Nat) (Post : Act → World → Prop) : Exit → Act → World → Prop
  | .exit m, a, w => m = n ∧ Post a w
  | _, _, _ => False

theorem onExit_out {Q : Exit → Act → World → Prop} {n : Nat} : ∀ e a w, OnExit n (fun a w => Q (.exit n) a w) e a w → Q e a w := by
  intro e a w h
  cases e with
  | exit m => obtain ⟨rfl, h⟩ := h; exact h
  | _ => exact h.elim
theorem useLoop {P : Program} {c : Code} {Q : Exit → Act → World → Prop} {a : Act} {w : World} (n : Nat) (h : Code.wp P c (OnExit n (fun a w => Q (.exit n) a w)) a w) : Code.wp P c Q a w := Code.wp_mono onExit_out h

/-- The loops of a body, the outer ones ahead of those within them. -/
def loopsOf : Code → List Code
  | .loop c => c :: loopsOf c
  | .seq a b => loopsOf a ++ loopsOf b
  | .block _ c => loopsOf c
  | .scope c => loopsOf c
  | .cond _ a b => loopsOf a ++ loopsOf b
  | _ => []
noncomputable def body7 : Code := ((Tryd.f55.body.map loopsOf).getD []).getD 6 .skip
theorem body7_is : Tryd.f55.body.isSome = true := by kernel_rfl
end Go.Proofs.YtkpmbbeidcpclaaDoor
