/-
  bits.TrailingZeros at powers of two.
-/
import Derived.Test.YtkpmbbeidcpclaaGreatDoorOnes
import Derived.Lib.TrailingZeros
namespace Go.Proofs.YtkpmbbeidcpclaaGreatDoor
open Go.RowKit

def tzIdx (v : Nat) : Nat := 2 ^ v * 285870213051353865 % 18446744073709551616 / 288230376151711744
set_option maxRecDepth 100000 in
theorem tz_all : ∀ v : Fin 21, (IntKind.u64.wrap (bits BinOp.and IntKind.u64 ((2 ^ v.1 : Nat) : Int) (IntKind.u64.wrap (-((2 ^ v.1 : Nat) : Int))) * 285870213051353865) / 288230376151711744 = (tzIdx v.1 : Int)) ∧ tzIdx v.1 < 64 ∧ Lib.deBruijn64tab.getD (tzIdx v.1) 0 = v.1 := by decide +kernel

/-- The table of the library's TrailingZeros64 in its variable. -/
def TzAt (w : World) : Prop := ∀ j, j < 64 → w.cell? ⟨5, j, none⟩ = some (.int .u8 (Lib.deBruijn64tab.getD j 0))
theorem TzAt.low {w w' : World} (h : TzAt w) (b : Below w.heap.size w w') : TzAt w' := fun j hj => (b.cell (lt_of_cell (h j hj))).trans (h j hj)

set_option maxHeartbeats 1000000 in
theorem tz64_any {v x : Nat} (hv : v ≤ 20) (hx : 2 ^ v = x) {w : World} (hT : TzAt w) : Calls Tryz.prog 146 #[.int .u64 (x : Int)] w fun e w' => e = .returned (.int .i64 (v : Int)) ∧ w' = w := by
  obtain ⟨key, hi, htab⟩ := tz_all ⟨v, by omega⟩
  simp only [hx] at key
  have hc := hT _ hi
  rw [htab] at hc
  simp only at hc
  obtain ⟨idx, hidx⟩ : ∃ idx, tzIdx v = idx := ⟨_, rfl⟩
  simp only [hidx] at key hi hc
  have hx0 : ((x : Int) == 0) = false := by
    have : 1 ≤ 2 ^ v := Nat.one_le_two_pow
    simp; omega
  have hii : (idx : Int) < 64 := by omega
  clear htab hT hx hidx
  go_enter Tryz.func146, Tryz.ntmps146
  go_wp2_with (simp only [key])
  go_ret
  exact ⟨rfl, rfl⟩

theorem tz_any {v x : Nat} (hv : v ≤ 20) (hx : 2 ^ v = x) {w : World} (hT : TzAt w) : Calls Tryz.prog 123 #[.int .u64 (x : Int)] w fun e w' => e = .returned (.int .i64 (v : Int)) ∧ w' = w := by
  have H := hide (tz64_any hv hx hT)
  clear hT hx
  go_enter Tryz.func123, Tryz.ntmps123
  go_wp2_with (go_at_call 146; fail)
  refine (unhide H).mono ?_
  rintro e w1 ⟨rfl, rfl⟩
  go_wp2
  go_ret
  exact ⟨rfl, rfl⟩

end Go.Proofs.YtkpmbbeidcpclaaGreatDoor
