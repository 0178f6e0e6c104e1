/-
  The first look of every law of notes.
-/
import Derived.Test.YtkablmjkffdloaaGreatDoorOpeQ
import Derived.Test.YtkablmjkffdloaaGreatDoorHedY
import Derived.Test.YtkablmjkffdloaaGreatDoorFst
namespace Go.Proofs.YtkablmjkffdloaaGreatDoor
open Go.RowKit

theorem krow_one {W : World} {Z : Nat} {nm sec : Bs} (h : Z = W.heap.size) : KRow (W.alloc (.cells #[.string (ba nm), .string (ba sec)] 75)) (some ⟨Z, 0, none⟩) [(nm, sec)] := by
  subst h
  have q := Blk.new W #[.string (ba nm), .string (ba sec)] 75
  refine ⟨Or.inr ⟨_, 0, rfl, fun k hk => ?_⟩⟩
  have : k = 0 := by simp at hk; exact hk
  subst this
  exact ⟨q.cell 0, q.cell 1⟩

set_option maxRecDepth 100000 in
set_option maxHeartbeats 4000000 in
theorem noteFirst_any {w : World} (hg : Gy w) : Calls Tryz.prog 51 #[] w fun e w' => e = .returned (.bool true) ∧ Below w.heap.size w w' := by
  have HG := hide hg
  clear hg
  obtain ⟨w1, -, cv1, at1, b1⟩ := const_row w sN #[.int .u8 115] rfl
  have cv1' : (convert 23 23 (.slice (some ⟨w.heap.size, 0, none⟩) 1 1)).run Tryz.prog (w.alloc (.cells #[.int .u8 115] 5)) = .ok (.slice (some ⟨w.heap.size, 0, none⟩) 1 1) w1 := cv1
  have K1 : Hid (Calls Tryz.prog 102 #[.string ⟨#[]⟩, .slice (some ⟨w.heap.size, 0, none⟩) 1 1] w1 fun e w' => e = .returned (.tuple #[.agg #[.string ⟨#[]⟩, .string ⟨#[]⟩], .int .i64 20]) ∧ Below w1.heap.size w1 w') := hide (newKey_bad (nm := []) (by decide +kernel) (by decide))
  have HB1 := hide b1
  clear cv1 at1 b1
  go_enter Tryz.func51, Tryz.ntmps51
  go_wp2_with (go_at_call 102; fail)
  refine (unhide K1).mono ?_
  rintro e w2 ⟨rfl, b2⟩
  obtain ⟨W3, hW3⟩ : ∃ W3, w2.alloc (.cells #[.string ⟨#[]⟩, .string ⟨#[]⟩] 75) = W3 := ⟨_, rfl⟩
  have b3 : Below w2.heap.size w2 W3 := by rw [← hW3]; exact lowA (Below.refl _ _) _
  have s3 : W3.heap.size = w2.heap.size + 1 := by rw [← hW3]; simp
  have HB3 := hide (low_trans (low_trans (unhide HB1) b2) b3)
  have HW3 := hide hW3
  obtain ⟨w4, -, cv4, at4, b4⟩ := const_row W3 sN #[.int .u8 115] rfl
  have cv4' : (convert 23 23 (.slice (some ⟨w2.heap.size + 1, 0, none⟩) 1 1)).run Tryz.prog ((w2.alloc (.cells #[.string ⟨#[]⟩, .string ⟨#[]⟩] 75)).alloc (.cells #[.int .u8 115] 5)) = .ok (.slice (some ⟨w2.heap.size + 1, 0, none⟩) 1 1) w4 := by rw [hW3, ← s3]; exact cv4
  have K4 : Hid (Calls Tryz.prog 102 #[.string ⟨#[108, 111, 103]⟩, .slice (some ⟨w2.heap.size + 1, 0, none⟩) 1 1] w4 fun e w' => e = .returned (.tuple #[.agg #[.string (ba logN), .string (ba sN)], .int .i64 0]) ∧ Below w4.heap.size w4 w') := hide (by
    rw [← s3]
    exact newKey_ok (nm := logN) (sec := sN) (by decide +kernel) (by decide) rfl (by decide) (by decide) at4)
  have HB4 := hide (low_trans (unhide HB3) b4)
  clear b2 b3 s3 hW3 cv4 at4 b4 cv1' K1
  go_wp2_with (go_at_call 102; fail)
  refine (unhide K4).mono ?_
  rintro e w5 ⟨rfl, b5⟩
  obtain ⟨kb, hkb⟩ : ∃ kb, w5.heap.size = kb := ⟨_, rfl⟩
  obtain ⟨W6, hW6⟩ : ∃ W6, w5.alloc (.cells #[.string (ba logN), .string (ba sN)] 75) = W6 := ⟨_, rfl⟩
  have b6 : Below w5.heap.size w5 W6 := by rw [← hW6]; exact lowA (Below.refl _ _) _
  have q6 : Blk W6 kb #[.string (ba logN), .string (ba sN)] 75 := by rw [← hW6, ← hkb]; exact Blk.new _ _ _
  have HB6 := hide (low_trans (low_trans (unhide HB4) b5) b6)
  have HQ6 := hide q6
  have HW6 := hide hW6
  have HKB := hide hkb
  have K7 := hide (sha_any (w := W6) (a := none) (n := 0) (c := 0) (b := []) rfl (by omega) (Nat.le_refl _) (by omega) (Or.inl rfl) ⟨Or.inl rfl⟩)
  clear b5 b6 q6 hW6 cv4' K4 hkb
  go_wp2_with (go_at_call 27; fail)
  rw [unhide HW6, unhide HKB]
  refine (unhide K7).mono ?_
  rintro e w7 ⟨v7, rfl, o7, b7⟩
  obtain ⟨g7, c7, rfl, at7, hc7, -⟩ := OwnB.adr2 o7 (sha32 [])
  have HB7 := hide (low_trans (unhide HB6) b7)
  have HQ7 := hide ((unhide HQ6).low b7)
  obtain ⟨HT, hHT⟩ : ∃ HT, headT 0 (shaL []) = HT := ⟨_, rfl⟩
  have e1 : ((ba HT).toList == [109, 101, 119, 115, 32, 108, 111, 103, 10, 48, 10, 52, 55, 68, 69, 81, 112, 106, 56, 72, 66, 83, 97, 43, 47, 84, 73, 109, 87, 43, 53, 74, 67, 101, 117, 81, 101, 82, 107, 109, 53, 78, 77, 112, 74, 87, 90, 71, 51, 104, 83, 117, 70, 85, 61, 10]) = true := by rw [ba_list, ← hHT, one14]; rfl
  have e2 : ((ba hiN).toList == [104, 105, 10]) = true := by rw [ba_list]; rfl
  have K8 := hide (formatHead_ok (w := w7) (n := 0) (c := c7) (r := shaL []) (by omega) (sha32 []) hc7 ((unhide HG).low (unhide HB7)).tab at7)
  rw [hHT] at K8
  have K8' : Hid (Calls Tryz.prog 64 #[.agg #[.int .i64 0, .slice (some ⟨g7, 0, none⟩) 32 c7]] w7 fun e w' => e = .returned (.tuple #[.string (ba HT), .int .i64 0]) ∧ Below w7.heap.size w7 w') := K8
  clear o7 b7 at7 hc7 hHT K7 K8
  go_wp2_with (go_at_call 64; fail)
  refine (unhide K8').mono ?_
  rintro e w8 ⟨rfl, b8⟩
  have q8 := (unhide HQ7).low b8
  have k80 := q8.cell 0
  have k81 := q8.cell 1
  obtain ⟨z8, hz8⟩ : ∃ z8, w8.heap.size = z8 := ⟨_, rfl⟩
  obtain ⟨W9, hW9⟩ : ∃ W9, w8.alloc (.cells #[.string (ba logN), .string (ba sN)] 75) = W9 := ⟨_, rfl⟩
  have b9 : Below w8.heap.size w8 W9 := by rw [← hW9]; exact lowA (Below.refl _ _) _
  have K9 : Hid (Calls Tryz.prog 54 #[.string ⟨#[104, 105, 10]⟩, .slice (some ⟨z8, 0, none⟩) 1 1] W9 fun e w' => e = .returned (.tuple #[.string (ba oneT), .int .i64 0]) ∧ Below W9.heap.size W9 w') := hide (by
    rw [← hW9]
    exact sign_ok (text := hiN) (ks := [(logN, sN)]) one5 (by decide) rfl (by decide) (by decide) one13 (by decide) (krow_one hz8.symm))
  have HB9 := hide (low_trans (low_trans (unhide HB7) b8) b9)
  have HQ9 := hide (q8.low b9)
  have HW9 := hide hW9
  have HZ8 := hide hz8
  clear b8 q8 b9 hW9 K8' hz8
  go_wp2_with (go_at_call 54; fail)
  rw [unhide HW9, unhide HZ8]
  refine (unhide K9).mono ?_
  rintro e w10 ⟨rfl, b10⟩
  have q10 := (unhide HQ9).low b10
  have k100 := q10.cell 0
  have k101 := q10.cell 1
  obtain ⟨z10, hz10⟩ : ∃ z10, w10.heap.size = z10 := ⟨_, rfl⟩
  obtain ⟨W11, hW11⟩ : ∃ W11, w10.alloc (.cells #[.string (ba logN), .string (ba sN)] 75) = W11 := ⟨_, rfl⟩
  have b11 : Below w10.heap.size w10 W11 := by rw [← hW11]; exact lowA (Below.refl _ _) _
  have hB11 := low_trans (low_trans (unhide HB9) b10) b11
  have K11 : Hid (Calls Tryz.prog 56 #[.string (ba oneT), .slice (some ⟨z10, 0, none⟩) 1 1] W11 fun e w' => ∃ a7 c7, e = .returned (.tuple #[.agg #[.string (ba hiN), .slice a7 1 c7, .slice none 0 0], .int .i64 0]) ∧ Below W11.heap.size W11 w') := hide (by
    have hk : KRow W11 (some ⟨z10, 0, none⟩) [(logN, sN)] := by rw [← hW11]; exact krow_one hz10.symm
    exact open_one one1 one2 one3 one4 one5 one6 one7 one8 one9 one10 (by decide) (by decide) one11 one12 hk ((unhide HG).low hB11))
  have HB11 := hide hB11
  have HW11 := hide hW11
  have HZ10 := hide hz10
  clear b10 q10 b11 hB11 hW11 K9 hz10 k80 k81
  go_wp2_with (go_at_call 56; fail)
  rw [unhide HW11, unhide HZ10]
  refine (unhide K11).mono ?_
  rintro e w12 ⟨a12, c12, rfl, b12⟩
  have HZ : Hid (Below w.heap.size w (w12.alloc (.cells #[.string (ba hiN), .slice a12 1 c12, .slice none 0 0] 78))) := hide (lowA (low_trans (unhide HB11) b12) _)
  clear b12 K11 k100 k101
  go_wp2_with (go_at_call 19; refine (errno_any _ _).mono ?_; rintro e wn ⟨rfl, hwn⟩; rw [hwn]; clear hwn wn)
  go_ret
  exact ⟨rfl, unhide HZ⟩
end Go.Proofs.YtkablmjkffdloaaGreatDoor
