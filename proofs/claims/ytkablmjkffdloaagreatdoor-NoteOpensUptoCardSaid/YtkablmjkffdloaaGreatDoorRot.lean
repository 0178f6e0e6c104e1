/-
  Words turned.
-/
import Derived.Test.YtkablmjkffdloaaGreatDoorBas
namespace Go.Proofs.YtkablmjkffdloaaGreatDoor
open Go.RowKit

def rotr (x : UInt32) (k : Nat) : UInt32 := (x <<< (UInt32.ofNat (32 - k))) ||| (x >>> (UInt32.ofNat k))

theorem shlN (x : UInt32) {k p : Nat} (hk : k < 32) (hp : 2 ^ k = p) : (x.toNat : Int) * (p : Int) % 4294967296 = ((x <<< (UInt32.ofNat k)).toNat : Int) := by
  rw [UInt32.toNat_shiftLeft]
  have e : (UInt32.ofNat k).toNat % 32 = k := by rw [UInt32.toNat_ofNat']; omega
  rw [e, Nat.shiftLeft_eq, hp]
  have h32 : (2 : Nat) ^ 32 = 4294967296 := rfl
  rw [h32]
  simp
theorem shrN (x : UInt32) {k p : Nat} (hk : k < 32) (hp : 2 ^ k = p) : (x.toNat : Int) / (p : Int) = ((x >>> (UInt32.ofNat k)).toNat : Int) := by
  rw [UInt32.toNat_shiftRight]
  have e : (UInt32.ofNat k).toNat % 32 = k := by rw [UInt32.toNat_ofNat']; omega
  rw [e, Nat.shiftRight_eq_div_pow, hp]
  simp

theorem rot_eq (x : UInt32) {k p q : Nat} (h0 : 0 < k) (hk : k < 32) (hp : 2 ^ (32 - k) = p) (hq : 2 ^ k = q) : bits .or .u32 ((x.toNat : Int) * (p : Int) % 4294967296) ((x.toNat : Int) / (q : Int)) = ((rotr x k).toNat : Int) := by
  rw [shlN x (by omega) hp, shrN x hk hq, bor]
  rfl

theorem rot2 (x : UInt32) (w : World) : Calls Tryz.prog 143 #[.int .u32 (x.toNat : Int), .int .i64 (-2)] w fun e w' => e = .returned (.int .u32 ((rotr x 2).toNat : Int)) ∧ w' = w := by
  have hx := u32_lt x
  have hk : bits .and .u64 (IntKind.u64.wrap (-2)) 31 = 30 := by decide +kernel
  have he : bits .or .u32 ((x.toNat : Int) * 1073741824 % 4294967296) ((x.toNat : Int) / 4) = ((rotr x 2).toNat : Int) := rot_eq x (k := 2) (by decide) (by decide) (by decide : 2 ^ (32 - 2) = 1073741824) (by decide : 2 ^ 2 = 4)
  go_enter Tryz.func143, Tryz.ntmps143
  go_wp2
  go_ret
  first | exact ⟨rfl, rfl⟩ | exact ⟨congrArg (fun z => Ending.returned (.int .u32 z)) he, rfl⟩
theorem rot6 (x : UInt32) (w : World) : Calls Tryz.prog 143 #[.int .u32 (x.toNat : Int), .int .i64 (-6)] w fun e w' => e = .returned (.int .u32 ((rotr x 6).toNat : Int)) ∧ w' = w := by
  have hx := u32_lt x
  have hk : bits .and .u64 (IntKind.u64.wrap (-6)) 31 = 26 := by decide +kernel
  have he : bits .or .u32 ((x.toNat : Int) * 67108864 % 4294967296) ((x.toNat : Int) / 64) = ((rotr x 6).toNat : Int) := rot_eq x (k := 6) (by decide) (by decide) (by decide : 2 ^ (32 - 6) = 67108864) (by decide : 2 ^ 6 = 64)
  go_enter Tryz.func143, Tryz.ntmps143
  go_wp2
  go_ret
  first | exact ⟨rfl, rfl⟩ | exact ⟨congrArg (fun z => Ending.returned (.int .u32 z)) he, rfl⟩
theorem rot7 (x : UInt32) (w : World) : Calls Tryz.prog 143 #[.int .u32 (x.toNat : Int), .int .i64 (-7)] w fun e w' => e = .returned (.int .u32 ((rotr x 7).toNat : Int)) ∧ w' = w := by
  have hx := u32_lt x
  have hk : bits .and .u64 (IntKind.u64.wrap (-7)) 31 = 25 := by decide +kernel
  have he : bits .or .u32 ((x.toNat : Int) * 33554432 % 4294967296) ((x.toNat : Int) / 128) = ((rotr x 7).toNat : Int) := rot_eq x (k := 7) (by decide) (by decide) (by decide : 2 ^ (32 - 7) = 33554432) (by decide : 2 ^ 7 = 128)
  go_enter Tryz.func143, Tryz.ntmps143
  go_wp2
  go_ret
  first | exact ⟨rfl, rfl⟩ | exact ⟨congrArg (fun z => Ending.returned (.int .u32 z)) he, rfl⟩
theorem rot11 (x : UInt32) (w : World) : Calls Tryz.prog 143 #[.int .u32 (x.toNat : Int), .int .i64 (-11)] w fun e w' => e = .returned (.int .u32 ((rotr x 11).toNat : Int)) ∧ w' = w := by
  have hx := u32_lt x
  have hk : bits .and .u64 (IntKind.u64.wrap (-11)) 31 = 21 := by decide +kernel
  have he : bits .or .u32 ((x.toNat : Int) * 2097152 % 4294967296) ((x.toNat : Int) / 2048) = ((rotr x 11).toNat : Int) := rot_eq x (k := 11) (by decide) (by decide) (by decide : 2 ^ (32 - 11) = 2097152) (by decide : 2 ^ 11 = 2048)
  go_enter Tryz.func143, Tryz.ntmps143
  go_wp2
  go_ret
  first | exact ⟨rfl, rfl⟩ | exact ⟨congrArg (fun z => Ending.returned (.int .u32 z)) he, rfl⟩
theorem rot13 (x : UInt32) (w : World) : Calls Tryz.prog 143 #[.int .u32 (x.toNat : Int), .int .i64 (-13)] w fun e w' => e = .returned (.int .u32 ((rotr x 13).toNat : Int)) ∧ w' = w := by
  have hx := u32_lt x
  have hk : bits .and .u64 (IntKind.u64.wrap (-13)) 31 = 19 := by decide +kernel
  have he : bits .or .u32 ((x.toNat : Int) * 524288 % 4294967296) ((x.toNat : Int) / 8192) = ((rotr x 13).toNat : Int) := rot_eq x (k := 13) (by decide) (by decide) (by decide : 2 ^ (32 - 13) = 524288) (by decide : 2 ^ 13 = 8192)
  go_enter Tryz.func143, Tryz.ntmps143
  go_wp2
  go_ret
  first | exact ⟨rfl, rfl⟩ | exact ⟨congrArg (fun z => Ending.returned (.int .u32 z)) he, rfl⟩
theorem rot17 (x : UInt32) (w : World) : Calls Tryz.prog 143 #[.int .u32 (x.toNat : Int), .int .i64 (-17)] w fun e w' => e = .returned (.int .u32 ((rotr x 17).toNat : Int)) ∧ w' = w := by
  have hx := u32_lt x
  have hk : bits .and .u64 (IntKind.u64.wrap (-17)) 31 = 15 := by decide +kernel
  have he : bits .or .u32 ((x.toNat : Int) * 32768 % 4294967296) ((x.toNat : Int) / 131072) = ((rotr x 17).toNat : Int) := rot_eq x (k := 17) (by decide) (by decide) (by decide : 2 ^ (32 - 17) = 32768) (by decide : 2 ^ 17 = 131072)
  go_enter Tryz.func143, Tryz.ntmps143
  go_wp2
  go_ret
  first | exact ⟨rfl, rfl⟩ | exact ⟨congrArg (fun z => Ending.returned (.int .u32 z)) he, rfl⟩
theorem rot18 (x : UInt32) (w : World) : Calls Tryz.prog 143 #[.int .u32 (x.toNat : Int), .int .i64 (-18)] w fun e w' => e = .returned (.int .u32 ((rotr x 18).toNat : Int)) ∧ w' = w := by
  have hx := u32_lt x
  have hk : bits .and .u64 (IntKind.u64.wrap (-18)) 31 = 14 := by decide +kernel
  have he : bits .or .u32 ((x.toNat : Int) * 16384 % 4294967296) ((x.toNat : Int) / 262144) = ((rotr x 18).toNat : Int) := rot_eq x (k := 18) (by decide) (by decide) (by decide : 2 ^ (32 - 18) = 16384) (by decide : 2 ^ 18 = 262144)
  go_enter Tryz.func143, Tryz.ntmps143
  go_wp2
  go_ret
  first | exact ⟨rfl, rfl⟩ | exact ⟨congrArg (fun z => Ending.returned (.int .u32 z)) he, rfl⟩
theorem rot19 (x : UInt32) (w : World) : Calls Tryz.prog 143 #[.int .u32 (x.toNat : Int), .int .i64 (-19)] w fun e w' => e = .returned (.int .u32 ((rotr x 19).toNat : Int)) ∧ w' = w := by
  have hx := u32_lt x
  have hk : bits .and .u64 (IntKind.u64.wrap (-19)) 31 = 13 := by decide +kernel
  have he : bits .or .u32 ((x.toNat : Int) * 8192 % 4294967296) ((x.toNat : Int) / 524288) = ((rotr x 19).toNat : Int) := rot_eq x (k := 19) (by decide) (by decide) (by decide : 2 ^ (32 - 19) = 8192) (by decide : 2 ^ 19 = 524288)
  go_enter Tryz.func143, Tryz.ntmps143
  go_wp2
  go_ret
  first | exact ⟨rfl, rfl⟩ | exact ⟨congrArg (fun z => Ending.returned (.int .u32 z)) he, rfl⟩
theorem rot22 (x : UInt32) (w : World) : Calls Tryz.prog 143 #[.int .u32 (x.toNat : Int), .int .i64 (-22)] w fun e w' => e = .returned (.int .u32 ((rotr x 22).toNat : Int)) ∧ w' = w := by
  have hx := u32_lt x
  have hk : bits .and .u64 (IntKind.u64.wrap (-22)) 31 = 10 := by decide +kernel
  have he : bits .or .u32 ((x.toNat : Int) * 1024 % 4294967296) ((x.toNat : Int) / 4194304) = ((rotr x 22).toNat : Int) := rot_eq x (k := 22) (by decide) (by decide) (by decide : 2 ^ (32 - 22) = 1024) (by decide : 2 ^ 22 = 4194304)
  go_enter Tryz.func143, Tryz.ntmps143
  go_wp2
  go_ret
  first | exact ⟨rfl, rfl⟩ | exact ⟨congrArg (fun z => Ending.returned (.int .u32 z)) he, rfl⟩
theorem rot25 (x : UInt32) (w : World) : Calls Tryz.prog 143 #[.int .u32 (x.toNat : Int), .int .i64 (-25)] w fun e w' => e = .returned (.int .u32 ((rotr x 25).toNat : Int)) ∧ w' = w := by
  have hx := u32_lt x
  have hk : bits .and .u64 (IntKind.u64.wrap (-25)) 31 = 7 := by decide +kernel
  have he : bits .or .u32 ((x.toNat : Int) * 128 % 4294967296) ((x.toNat : Int) / 33554432) = ((rotr x 25).toNat : Int) := rot_eq x (k := 25) (by decide) (by decide) (by decide : 2 ^ (32 - 25) = 128) (by decide : 2 ^ 25 = 33554432)
  go_enter Tryz.func143, Tryz.ntmps143
  go_wp2
  go_ret
  first | exact ⟨rfl, rfl⟩ | exact ⟨congrArg (fun z => Ending.returned (.int .u32 z)) he, rfl⟩

theorem wrapI (a : Nat) (ha : a < 67108864) : IntKind.i64.wrap (a : Int) = (a : Int) := by rw [IntKind.wrap_i64]; omega
theorem pow_int (v : Nat) : ((2 : Int) ^ v) = ((2 ^ v : Nat) : Int) := by push_cast; rfl
end Go.Proofs.YtkablmjkffdloaaGreatDoor
