/-
  The names that FsFull writes: letters, all of them names.
-/
import Derived.Test.YtbdbobikiikbgaaDoorFirst
namespace Go.Proofs.YtbdbobikiikbgaaDoor
open Go.RowKit Go.WideMaps Go.Maps Go.Sort

def nm (i : Nat) : ByteArray := ⟨#[102, 97 + UInt8.ofNat (i % 26), 97 + UInt8.ofNat (i / 26 % 26), 97 + UInt8.ofNat (i / 676)]⟩
theorem nm_app (i : Nat) : (⟨#[102]⟩ : ByteArray) ++ ⟨#[97 + UInt8.ofNat (i % 26)]⟩ ++ ⟨#[97 + UInt8.ofNat (i / 26 % 26)]⟩ ++ ⟨#[97 + UInt8.ofNat (i / 676)]⟩ = nm i := rfl

theorem nm_valid_all : (List.range 4002).all (fun i => validB (nm i)) = true := by decide +kernel
theorem nm_valid (i : Nat) (h : i < 4002) : validB (nm i) = true := List.all_eq_true.1 nm_valid_all i (List.mem_range.2 h)

theorem letters (n : Int) (h0 : 97 ≤ n) (h1 : n ≤ 122) : n = 97 ∨ n = 98 ∨ n = 99 ∨ n = 100 ∨ n = 101 ∨ n = 102 ∨ n = 103 ∨ n = 104 ∨ n = 105 ∨ n = 106 ∨ n = 107 ∨ n = 108 ∨ n = 109 ∨ n = 110 ∨ n = 111 ∨ n = 112 ∨ n = 113 ∨ n = 114 ∨ n = 115 ∨ n = 116 ∨ n = 117 ∨ n = 118 ∨ n = 119 ∨ n = 120 ∨ n = 121 ∨ n = 122 := by omega

theorem conv_str (n : Int) (h0 : 97 ≤ n) (h1 : n ≤ 122) (w : World) : (convert 21 9 (.int .i32 n)).run Tryd.prog w = .ok (.string ⟨#[n.toNat.toUInt8]⟩) w := by
  rcases letters n h0 h1 with rfl | rfl | rfl | rfl | rfl | rfl | rfl | rfl | rfl | rfl | rfl | rfl | rfl | rfl | rfl | rfl | rfl | rfl | rfl | rfl | rfl | rfl | rfl | rfl | rfl | rfl <;> kernel_rfl
theorem conv_int (n : Int) (h0 : 97 ≤ n) (h1 : n ≤ 122) (w : World) : (convert 3 21 (.int .i64 n)).run Tryd.prog w = .ok (.int .i32 n) w := by
  rcases letters n h0 h1 with rfl | rfl | rfl | rfl | rfl | rfl | rfl | rfl | rfl | rfl | rfl | rfl | rfl | rfl | rfl | rfl | rfl | rfl | rfl | rfl | rfl | rfl | rfl | rfl | rfl | rfl <;> kernel_rfl

end Go.Proofs.YtbdbobikiikbgaaDoor
