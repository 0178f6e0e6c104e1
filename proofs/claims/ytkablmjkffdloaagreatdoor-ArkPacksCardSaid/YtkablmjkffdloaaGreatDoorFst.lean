/-
  Sums of which the document fixes all.
-/
import Derived.Test.YtkablmjkffdloaaGreatDoorPakN
import Derived.Test.YtkablmjkffdloaaGreatDoorSumB
import Derived.Test.YtkablmjkffdloaaGreatDoorCrc
namespace Go.Proofs.YtkablmjkffdloaaGreatDoor
open Go.RowKit

theorem errno_any (x : Int) (w : World) : Calls Tryz.prog 19 #[.int .i64 x] w fun e w' => e = .returned (.int .i64 x) ∧ w' = w := by
  go_enter Tryz.func19, Tryz.ntmps19
  go_wp2
  go_ret
  exact ⟨rfl, rfl⟩
/-- A constant's bytes, marked. -/
theorem const_row (w : World) (l : Bs) (C : Array Value) (hC : C = (l.map byteV).toArray) : ∃ w1, w.alloc (.cells C 5 (C.size, C.size + 1)) = w1 ∧ (convert 23 23 (.slice (some ⟨w.heap.size, 0, none⟩) l.length l.length)).run Tryz.prog (w.alloc (.cells C 5)) = .ok (.slice (some ⟨w.heap.size, 0, none⟩) l.length l.length) w1 ∧ BAt w1 (some ⟨w.heap.size, 0, none⟩) l ∧ Below w.heap.size w w1 := by
  refine ⟨_, rfl, Lib.run_convert_bytes_const (P := Tryz.prog) w 23 5 C l.length l.length Tryz.underlying23 Tryz.underlying5, ⟨Or.inr ⟨_, 0, rfl, fun k hk => ?_⟩⟩, (Below.refl _ _).alloc (Nat.le_refl _) _⟩
  have h : (w.alloc (.cells C 5 (C.size, C.size + 1))).heap[w.heap.size]? = some (.cells C 5 (C.size, C.size + 1)) := heap_alloc_new _ _
  rw [Nat.zero_add, Lib.cell_of_heap h, hC]
  simp [byteV, hk]

def abcL : Bs := [97, 98, 99]
def abL : Bs := [97, 98]
def modL : Bs := [109, 111, 100, 117, 108, 101, 32, 97, 46, 98, 47, 99, 10]
theorem abc_hex : hexL (shaL abcL) = [98, 97, 55, 56, 49, 54, 98, 102, 56, 102, 48, 49, 99, 102, 101, 97, 52, 49, 52, 49, 52, 48, 100, 101, 53, 100, 97, 101, 50, 50, 50, 51, 98, 48, 48, 51, 54, 49, 97, 51, 57, 54, 49, 55, 55, 97, 57, 99, 98, 52, 49, 48, 102, 102, 54, 49, 102, 50, 48, 48, 49, 53, 97, 100] := by decide +kernel
theorem abc_crc : (crcL abcL).toNat = 891568578 := by decide +kernel
theorem ab_64 : b64 abL = [89, 87, 73, 61] := by decide +kernel
theorem mod_sum : manF modL = [104, 49, 58, 71, 66, 51, 86, 43, 82, 72, 89, 74, 48, 70, 104, 53, 121, 86, 100, 107, 114, 47, 70, 74, 50, 78, 76, 120, 120, 85, 47, 106, 99, 81, 102, 79, 117, 101, 74, 51, 49, 88, 99, 69, 80, 69, 61] := by decide +kernel

set_option maxRecDepth 100000 in
set_option maxHeartbeats 2000000 in
theorem first_any (w : World) : Calls Tryz.prog 16 #[] w fun e w' => e = .returned (.bool true) ∧ Below w.heap.size w w' := by
  go_enter Tryz.func16, Tryz.ntmps16
  go_wp2_with (go_at_call 18; fail)
  refine (pack_nil w).mono ?_
  rintro e w1 ⟨pa, pc, rfl, b1⟩
  have HB1 := hide b1
  obtain ⟨w2, hw2, cv2, at2, b2⟩ := const_row w1 abcL #[.int .u8 97, .int .u8 98, .int .u8 99] rfl
  have HS := hide (sha_any (w := w2) (c := 3) (show abcL.length = 3 from rfl) (by decide) (by decide) (by decide) (Or.inr ⟨_, _, rfl⟩) at2)
  have HB2 := hide (low_trans b1 b2)
  have cv2' : (convert 23 23 (.slice (some ⟨w1.heap.size, 0, none⟩) 3 3)).run Tryz.prog (w1.alloc (.cells #[.int .u8 97, .int .u8 98, .int .u8 99] 5)) = .ok (.slice (some ⟨w1.heap.size, 0, none⟩) 3 3) w2 := cv2
  clear b1 hw2 cv2 at2 b2
  go_wp2_with (go_at_call 27; fail)
  refine (unhide HS).mono ?_
  rintro e w3 ⟨v3, rfl, o3, b3⟩
  obtain ⟨g3, c3, rfl, hat3, _, _⟩ := OwnB.adr o3 (shaL_len abcL)
  have HX := hide (hex_any (c := c3) (shaL_len abcL) (by decide) hat3)
  rw [abc_hex] at HX
  have HB3 := hide (low_trans (unhide HB2) b3)
  clear o3 b3 hat3 cv2' HS
  go_wp2_with (go_at_call 31; fail)
  refine (unhide HX).mono ?_
  rintro e w4 ⟨rfl, b4⟩
  have HB4 := hide (low_trans (unhide HB3) b4)
  obtain ⟨w5, hw5, cv5, at5, b5⟩ := const_row w4 abcL #[.int .u8 97, .int .u8 98, .int .u8 99] rfl
  have HC := hide (crc_any (w := w5) (c := 3) (show abcL.length = 3 from rfl) (by decide) at5)
  rw [abc_crc] at HC
  have HB5 := hide (low_trans (unhide HB4) b5)
  have cv5' : (convert 23 23 (.slice (some ⟨w4.heap.size, 0, none⟩) 3 3)).run Tryz.prog (w4.alloc (.cells #[.int .u8 97, .int .u8 98, .int .u8 99] 5)) = .ok (.slice (some ⟨w4.heap.size, 0, none⟩) 3 3) w5 := cv5
  clear b4 hw5 cv5 at5 b5 HX
  go_wp2_with (go_at_call 29; fail)
  refine (unhide HC).mono ?_
  rintro e wn ⟨rfl, hwn⟩
  rw [hwn]
  clear hwn wn HC cv5'
  obtain ⟨w6, hw6, cv6, at6, b6⟩ := const_row w5 abL #[.int .u8 97, .int .u8 98] rfl
  have H6 := hide (base64_any (w := w6) (c := 2) (show abL.length = 2 from rfl) (by decide) (by decide) at6)
  rw [ab_64] at H6
  have HB6 := hide (low_trans (unhide HB5) b6)
  have cv6' : (convert 23 23 (.slice (some ⟨w5.heap.size, 0, none⟩) 2 2)).run Tryz.prog (w5.alloc (.cells #[.int .u8 97, .int .u8 98] 5)) = .ok (.slice (some ⟨w5.heap.size, 0, none⟩) 2 2) w6 := cv6
  clear hw6 cv6 at6 b6
  go_wp2_with (go_at_call 25; fail)
  refine (unhide H6).mono ?_
  rintro e w7 ⟨rfl, b7⟩
  have HB7 := hide (low_trans (unhide HB6) b7)
  clear b7 cv6' H6
  obtain ⟨w8, hw8, cv8, at8, b8⟩ := const_row w7 modL #[.int .u8 109, .int .u8 111, .int .u8 100, .int .u8 117, .int .u8 108, .int .u8 101, .int .u8 32, .int .u8 97, .int .u8 46, .int .u8 98, .int .u8 47, .int .u8 99, .int .u8 10] rfl
  have H8 := hide (manSum_any (w := w8) (c := 13) (show modL.length = 13 from rfl) (by decide) (by decide) (by decide) (Or.inr ⟨_, _, rfl⟩) at8)
  rw [mod_sum] at H8
  have HB8 := hide (low_trans (unhide HB7) b8)
  have cv8' : (convert 23 23 (.slice (some ⟨w7.heap.size, 0, none⟩) 13 13)).run Tryz.prog (w7.alloc (.cells #[.int .u8 109, .int .u8 111, .int .u8 100, .int .u8 117, .int .u8 108, .int .u8 101, .int .u8 32, .int .u8 97, .int .u8 46, .int .u8 98, .int .u8 47, .int .u8 99, .int .u8 10] 5)) = .ok (.slice (some ⟨w7.heap.size, 0, none⟩) 13 13) w8 := cv8
  clear hw8 cv8 at8 b8
  go_wp2_with (go_at_call 34; fail)
  refine (unhide H8).mono ?_
  rintro e w9 ⟨rfl, b9⟩
  have HB9 := hide (low_trans (unhide HB8) b9)
  unfold ba
  clear b9 cv8' H8
  go_wp2_with (go_at_call 19; refine (errno_any _ _).mono ?_; rintro e wn ⟨rfl, hwn⟩; rw [hwn]; clear hwn wn)
  go_ret
  exact ⟨rfl, unhide HB9⟩
end Go.Proofs.YtkablmjkffdloaaGreatDoor
