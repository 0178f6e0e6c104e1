/-
  The contract of a file's crash.
-/
import Derived.Test.YtbdbobikiikbgaaDoorBudget
import Derived.BigRegion
namespace Go.Proofs.YtbdbobikiikbgaaDoor
open Go.RowKit Go.WideMaps Go.Maps Go.Sort

/-- How much of a file a crash leaves. -/
def crashN (e : Int) (len dur : Nat) : Nat := dur + min (max e 0).toNat (len - dur)
theorem crashN_le (e : Int) {len dur : Nat} (h : dur ≤ len) : crashN e len dur ≤ len := by unfold crashN; omega

/-- One block has turned. -/
structure Turn1 (b : Nat) (cs : Array Value) (t : TypeId) (w w' : World) : Prop where
  os : w'.os = w.os
  tape : w'.tape = w.tape
  output : w'.output = w.output
  size : w'.heap.size = w.heap.size
  own : w'.heap[b]? = some (.cells cs t (0, 0))
  block : ∀ k, k ≠ b → w'.heap[k]? = w.heap[k]?

theorem turn1_mk {w : World} {b : Nat} {v0 v1 : Value} {t : TypeId} {u0 u1 : Value} (h : w.heap[b]? = some (.cells #[v0, v1] t (0, 0))) (nq : Nat) :
    Turn1 b #[u0, u1] t w (((w.setCell ⟨b, 1, none⟩ u1).drew.drewN nq).setCell ⟨b, 0, none⟩ u0) := by
  have h1 := heap_setCell_at (i := 1) h u1
  have h2 : ((w.setCell ⟨b, 1, none⟩ u1).drew.drewN nq).heap[b]? = some (.cells (#[v0, v1].setIfInBounds 1 u1) t (0, 0)) := h1
  have h3 := heap_setCell_at (i := 0) h2 u0
  exact ⟨rfl, rfl, rfl, by simp [World.setCell, World.drewN, World.drew], by simpa using h3, fun k hk => (heap_setCell_ne (a := ⟨b, 0, none⟩) hk _).trans (heap_setCell_ne (a := ⟨b, 1, none⟩) hk _)⟩

set_option maxRecDepth 100000 in
set_option maxHeartbeats 2000000 in
theorem fileCrash_any (b len dur fc : Nat) (fa : Option Addr) (e : Int) (w : World) (hblk : w.heap[b]? = some (.cells #[.slice fa len fc, .int .i64 dur] 69 (0, 0))) (hd : dur ≤ len) (hl : len ≤ fc) (hl4 : len ≤ 1099511627776) (hfc : fc ≤ 9223372036854775807) (hn : fa = none → fc = 0) :
    Calls Tryd.prog 38 #[.pointer (some ⟨b, 0, none⟩), .int .i64 e] w fun en w' => en = .returned (.tuple #[]) ∧ Turn1 b #[.slice fa (crashN e len dur) fc, .int .i64 (crashN e len dur)] 69 w w' := by
  have k0 : w.cell? ⟨b, 0, none⟩ = some (.slice fa len fc) := cell_fs hblk rfl
  have k1 : w.cell? ⟨b, 1, none⟩ = some (.int .i64 dur) := cell_fs hblk rfl
  have f0 : w.frozen? ⟨b, 0, none⟩ = false := free_fs hblk
  have f1 : w.frozen? ⟨b, 1, none⟩ = false := free_fs hblk
  have d1 : (0 : Int) ≤ (dur : Int) := by omega
  have d2 : (dur : Int) ≤ (len : Int) := by omega
  have d3 : (len : Int) ≤ 1099511627776 := by omega
  have hv : (dur : Int) + min (max e 0) ((len : Int) - dur) = (crashN e len dur : Int) := by unfold crashN; omega
  have hle := crashN_le e hd
  have HF : Hid (∀ W : World, W.cell? ⟨b, 0, none⟩ = some (.slice fa len fc) → W.cell? ⟨b, 1, none⟩ = some (.int .i64 (crashN e len dur : Nat)) → Calls Tryd.prog 54 #[.pointer (some ⟨b, 0, none⟩)] W fun en w' => en = .returned (.slice fa (crashN e len dur) fc) ∧ ∃ nq, w' = W.drewN nq) :=
    fun W q0 q1 => front_any b len (crashN e len dur) fc fa W q0 q1 hle hl hfc hn
  have HB := hide hblk
  go_enter Tryd.func38, Tryd.ntmps38
  go_wp2
  go_region
  obtain ⟨w3, hw3⟩ : ∃ w3, w3 = (w.setCell ⟨b, 1, none⟩ (.int .i64 (crashN e len dur : Nat))).drew := ⟨_, rfl⟩
  rw [← hw3]
  have h3 : w3.heap[b]? = some (.cells #[.slice fa len fc, .int .i64 (crashN e len dur : Nat)] 69 (0, 0)) := by
    rw [hw3]; exact heap_setCell_at (i := 1) hblk _
  have q0 : w3.cell? ⟨b, 0, none⟩ = some (.slice fa len fc) := cell_fs h3 rfl
  have q1 : w3.cell? ⟨b, 1, none⟩ = some (.int .i64 (crashN e len dur : Nat)) := cell_fs h3 rfl
  have g0 : w3.frozen? ⟨b, 0, none⟩ = false := free_fs h3
  have HW3 := hide hw3
  clear hw3 h3 k0 k1 f0 f1 hblk hv
  go_wp2_with (go_at_call 54; refine (unhide HF _ q0 q1).mono ?_; rintro en w4 ⟨rfl, nq, rfl⟩)
  go_end0
  refine ⟨rfl, ?_⟩
  have := turn1_mk (u0 := .slice fa (crashN e len dur) fc) (u1 := .int .i64 (crashN e len dur : Nat)) (unhide HB) nq
  rw [unhide HW3]
  exact this

end Go.Proofs.YtbdbobikiikbgaaDoor
