/-
  SHA256: the first state and the numbers of the rounds.
-/
import Derived.Test.YtkablmjkffdloaaGreatDoorMix
import Derived.Test.YtkablmjkffdloaaGreatDoorLast
import Derived.Deep.RegionLaw
namespace Go.Proofs.YtkablmjkffdloaaGreatDoor
open Go.RowKit

abbrev lit8 : Array Value := #[.int .u32 1779033703, .int .u32 3144134277, .int .u32 1013904242, .int .u32 2773480762, .int .u32 1359893119, .int .u32 2600822924, .int .u32 528734635, .int .u32 1541459225]
abbrev lit64 : Array Value := #[.int .u32 1116352408, .int .u32 1899447441, .int .u32 3049323471, .int .u32 3921009573, .int .u32 961987163, .int .u32 1508970993, .int .u32 2453635748, .int .u32 2870763221, .int .u32 3624381080, .int .u32 310598401, .int .u32 607225278, .int .u32 1426881987, .int .u32 1925078388, .int .u32 2162078206, .int .u32 2614888103, .int .u32 3248222580, .int .u32 3835390401, .int .u32 4022224774, .int .u32 264347078, .int .u32 604807628, .int .u32 770255983, .int .u32 1249150122, .int .u32 1555081692, .int .u32 1996064986, .int .u32 2554220882, .int .u32 2821834349, .int .u32 2952996808, .int .u32 3210313671, .int .u32 3336571891, .int .u32 3584528711, .int .u32 113926993, .int .u32 338241895, .int .u32 666307205, .int .u32 773529912, .int .u32 1294757372, .int .u32 1396182291, .int .u32 1695183700, .int .u32 1986661051, .int .u32 2177026350, .int .u32 2456956037, .int .u32 2730485921, .int .u32 2820302411, .int .u32 3259730800, .int .u32 3345764771, .int .u32 3516065817, .int .u32 3600352804, .int .u32 4094571909, .int .u32 275423344, .int .u32 430227734, .int .u32 506948616, .int .u32 659060556, .int .u32 883997877, .int .u32 958139571, .int .u32 1322822218, .int .u32 1537002063, .int .u32 1747873779, .int .u32 1955562222, .int .u32 2024104815, .int .u32 2227730452, .int .u32 2361852424, .int .u32 2428436474, .int .u32 2756734187, .int .u32 3204031479, .int .u32 3329325298]

set_option maxRecDepth 100000 in
set_option maxHeartbeats 1000000 in
theorem st_any (w : World) : Calls Tryz.prog 83 #[] w fun e w' => e = .returned (.agg (stC st0)) ∧ Below w.heap.size w w' := by
  have hnew : (w.alloc (.cells zero8 121)).heap[w.heap.size]? = some (.cells zero8 121 (0, 0)) := Blk.new w zero8 121
  have hinf : (Tryz.prog.info? 121).map (·.size) = some lit8.size := by kernel_rfl
  have hone : lit8.all (·.oneCell') = true := by decide +kernel
  have hsz : zero8.size = lit8.size := by rfl
  have heq : lit8 = (stC st0) := by kernel_rfl
  have HZ : Hid (Below w.heap.size w ((w.alloc (.cells zero8 121)).setRow w.heap.size lit8) ∧ ((w.alloc (.cells zero8 121)).setRow w.heap.size lit8).heap[w.heap.size]? = some (.cells lit8 121 (0, 0))) := hide ⟨low_setRow ((Below.refl _ _).alloc (Nat.le_refl _) _) (Nat.le_refl _) _, setRow_heap _ _ _ _ _ _ hnew⟩
  have HE := hide heq
  clear heq
  go_enter Tryz.func83, Tryz.ntmps83
  go_wp2_with (refine wpList_store_row rfl 121 _ _ rfl w.heap.size lit8 rfl rfl 121 zero8 hnew hinf hsz hone ?_)
  exact bodyPost_ret (v := .agg lit8) (results_cell_row Tryz.results83 _ _ w.heap.size 121 lit8 (0, 0) _ rfl (unhide HZ).2 Tryz.underlying121 rfl hinf) rfl ⟨by rw [unhide HE], (unhide HZ).1⟩

set_option maxRecDepth 100000 in
set_option maxHeartbeats 1000000 in
theorem num_any (w : World) : Calls Tryz.prog 84 #[] w fun e w' => e = .returned (.agg (wArr kL)) ∧ Below w.heap.size w w' := by
  have hnew : (w.alloc (.cells zero64 123)).heap[w.heap.size]? = some (.cells zero64 123 (0, 0)) := Blk.new w zero64 123
  have hinf : (Tryz.prog.info? 123).map (·.size) = some lit64.size := by kernel_rfl
  have hone : lit64.all (·.oneCell') = true := by decide +kernel
  have hsz : zero64.size = lit64.size := by rfl
  have heq : lit64 = (wArr kL) := by kernel_rfl
  have HZ : Hid (Below w.heap.size w ((w.alloc (.cells zero64 123)).setRow w.heap.size lit64) ∧ ((w.alloc (.cells zero64 123)).setRow w.heap.size lit64).heap[w.heap.size]? = some (.cells lit64 123 (0, 0))) := hide ⟨low_setRow ((Below.refl _ _).alloc (Nat.le_refl _) _) (Nat.le_refl _) _, setRow_heap _ _ _ _ _ _ hnew⟩
  have HE := hide heq
  clear heq
  go_enter Tryz.func84, Tryz.ntmps84
  go_wp2_with (refine wpList_store_row rfl 123 _ _ rfl w.heap.size lit64 rfl rfl 123 zero64 hnew hinf hsz hone ?_)
  exact bodyPost_ret (v := .agg lit64) (results_cell_row Tryz.results84 _ _ w.heap.size 123 lit64 (0, 0) _ rfl (unhide HZ).2 Tryz.underlying123 rfl hinf) rfl ⟨by rw [unhide HE], (unhide HZ).1⟩


end Go.Proofs.YtkablmjkffdloaaGreatDoor
