/-
  A text that is no head's, the program's answer.
-/
import Derived.Test.YtkablmjkffdloaaGreatDoorHedP
namespace Go.Proofs.YtkablmjkffdloaaGreatDoor
open Go.RowKit

theorem fe_two (s : Bs) : (fromE s = 0 ∧ ∃ r, fromL s = some r ∧ fromV s = r) ∨ fromE s = 15 := by
  unfold fromE fromV
  cases e : fromL s with
  | none => exact Or.inr rfl
  | some r => exact Or.inl ⟨rfl, r, rfl, rfl⟩

set_option maxRecDepth 100000 in
set_option maxHeartbeats 4000000 in
theorem parseHead_bad {w : World} {s : Bs} (hl : s.length ≤ 4000) (hh : ∀ n r, ¬ isHead s n r) (hg : Gx w) :
    Calls Tryz.prog 66 #[.string (ba s)] w fun e w' => e = .returned (.tuple #[.agg #[.int .i64 0, .slice none 0 0], .int .i64 15]) ∧ Below w.heap.size w w' := by
  obtain ⟨B, hB⟩ : ∃ B, w.heap.size = B := ⟨_, rfl⟩
  obtain ⟨W0, hW0⟩ : ∃ W0, w.alloc (.cells #[.int .i64 0, .slice none 0 0] 97) = W0 := ⟨_, rfl⟩
  have bb : Below w.heap.size w W0 := by rw [← hW0]; exact (Below.refl _ _).alloc (Nat.le_refl _) _
  have q0 : Blk W0 B #[.int .i64 0, .slice none 0 0] 97 := by rw [← hW0, ← hB]; exact Blk.new _ _ _
  have hg0 : Gx W0 := hg.low bb
  obtain ⟨m, hm⟩ := hg0.ml
  have HQ0 := hide q0
  have HB0 := hide bb
  have HW0 := hide hW0
  have HBB := hide hB
  clear hW0 hB bb q0
  obtain ⟨A, hA⟩ : ∃ A, Lib.trimPrefix s headM = A := ⟨_, rfl⟩
  have hAl : A.length ≤ 4000 := by
    rw [← hA]
    unfold Lib.trimPrefix
    split
    · rw [List.length_drop]; omega
    · exact hl
  obtain ⟨C1, C2, cb, hC⟩ : ∃ C1 C2 cb, Lib.cut A [10] = (C1, C2, cb) := ⟨_, _, _, rfl⟩
  have hCl : C1.length ≤ 4000 ∧ C2.length ≤ 4000 := by
    unfold Lib.cut at hC
    split at hC
    · obtain ⟨rfl, rfl, -⟩ : _ ∧ _ ∧ _ := by simpa using hC
      constructor
      · rw [List.length_take]; omega
      · rw [List.length_drop]; omega
    · obtain ⟨rfl, rfl, -⟩ : _ ∧ _ ∧ _ := by simpa using hC
      exact ⟨hAl, by simp⟩
  obtain ⟨R, hR⟩ : ∃ R, Lib.trimSuffix C2 [10] = R := ⟨_, rfl⟩
  have hRl : R.length ≤ 4000 := by
    rw [← hR]
    unfold Lib.trimSuffix
    split
    · rw [List.length_take]; omega
    · exact hCl.2
  have K1 : Hid (∀ w : World, Calls Tryz.prog 121 #[.string (ba s), .string ⟨#[109, 101, 119, 115, 32, 108, 111, 103, 10]⟩] w fun e w' => e = .returned (.string (ba A)) ∧ w' = w) := hide (fun w => by
    have k := Tryz.strings_TrimPrefix (ba s) (ba headM) w
    rw [ba_data, ba_data, hA] at k
    exact k)
  have K2 : Hid (Calls Tryz.prog 120 #[.string (ba A), .string ⟨#[10]⟩] W0 fun e w' => e = .returned (.tuple #[.string (ba C1), .string (ba C2), .bool cb]) ∧ Below W0.heap.size W0 w') := hide (by
    have k := Tryz.strings_Cut (ba A) (ba [10]) m W0 (by rw [ba_size]; omega) hm
    rw [ba_data, ba_data, hC] at k
    refine k.mono ?_
    rintro e w' ⟨rfl, q, rfl⟩
    exact ⟨rfl, lowN (Below.refl _ _) _⟩)
  have K4 : Hid (∀ w : World, Calls Tryz.prog 123 #[.string (ba C2), .string ⟨#[10]⟩] w fun e w' => e = .returned (.string (ba R)) ∧ w' = w) := hide (fun w => by
    have k := Tryz.strings_TrimSuffix (ba C2) (ba [10]) w (by rw [ba_size]; omega)
    rw [ba_data, ba_data, hR] at k
    exact k)
  have HH := hide hh
  have HCL := hide hCl
  have HRL := hide hRl
  have HGX := hide hg0
  clear hCl hRl hA hC hR hg hg0 hm hl hAl hh
  go_enter Tryz.func66, Tryz.ntmps66
  go_wp2_with (go_at_call 121; fail)
  rw [unhide HW0, unhide HBB]
  clear HW0
  refine (unhide K1 _).mono ?_
  rintro e wn ⟨rfl, hwn⟩
  rw [hwn]
  clear hwn wn K1
  go_wp2_with (go_at_call 120; fail)
  refine (unhide K2).mono ?_
  rintro e w1 ⟨rfl, b1⟩
  have HB1 := hide b1
  have K3 := hide (atoi_any (s := C1) (by have := (unhide HCL).1; omega) ((unhide HGX).low b1))
  clear b1 K2
  go_wp2_with (go_at_call 122; fail)
  refine (unhide K3).mono ?_
  rintro e w2 ⟨v, ev, rfl, b2, hv⟩
  have HB2 := hide (low_trans (unhide HB1) b2)
  have K5 : Hid (Calls Tryz.prog 24 #[.string (ba R)] w2 fun e w' => ∃ v, e = .returned (.tuple #[v, .int .i64 (fromE R)]) ∧ OwnB w2.heap.size w' v (fromV R) ∧ Below w2.heap.size w2 w') := hide (fromB64_any (w := w2) (s := R) (by have := unhide HRL; omega))
  clear b2 K3 HB1
  have HV := hide hv
  clear hv
  go_wp2_with (first
    | (go_at_call 123; refine (unhide K4 _).mono ?_; rintro e wn ⟨rfl, hwn⟩; rw [hwn]; clear hwn wn)
    | (go_at_call 24; fail))
  refine (unhide K5).mono ?_
  rintro e w3 ⟨v3, rfl, o3, b3⟩
  obtain ⟨a3, c3, rfl, at3, hc3, -⟩ := OwnB.at o3
  have HB3 := hide (low_trans (unhide HB2) b3)
  have HAT3 := hide at3
  obtain ⟨FV, hFV⟩ : ∃ FV, fromV R = FV := ⟨_, rfl⟩
  rw [hFV] at HAT3 hc3 ⊢
  obtain ⟨L3, hL3⟩ : ∃ L3, FV.length = L3 := ⟨_, rfl⟩
  have HC3 := hide hc3
  have HFV := hide hFV
  rw [hL3]
  have HL3 := hide hL3
  clear o3 b3 at3 K4 K5 hc3 hFV hL3
  rcases unhide HV with ⟨rfl, hv2⟩ | ⟨⟨NN, rfl⟩, -⟩
  · have HV2 := hide hv2
    clear hv2 HV
    rcases fe_two R with ⟨hfe, r, hr1, hr2⟩ | hfe
    · rw [hfe]
      obtain rfl : FV = r := (unhide HFV).symm.trans hr2
      have HR1 := hide hr1
      clear hr1 hr2 hfe
      go_wp2_with (go_at_call 64; fail)
      obtain ⟨G, hG⟩ : ∃ G, w3.heap.size = G := ⟨_, rfl⟩
      obtain ⟨W4, hW4⟩ : ∃ W4, w3.alloc (.cells #[.int .i64 v, .slice a3 L3 c3] 97) = W4 := ⟨_, rfl⟩
      have b4 : Below w3.heap.size w3 W4 := by rw [← hW4]; exact (Below.refl _ _).alloc (Nat.le_refl _) _
      have HB4 := hide (low_trans (unhide HB3) b4)
      rw [hW4, hG]
      by_cases hbad : v < 0 ∨ 1048576 < v ∨ L3 ≠ 32
      · refine (formatHead_bad hbad).mono ?_
        rintro e w5 ⟨rfl, b5⟩
        have HB5 := hide (low_trans (unhide HB4) b5)
        clear b4 b5 hW4 hG hbad
        have q6 : Blk w5 B #[.int .i64 0, .slice none 0 0] 97 := ((unhide HB5).block B (unhide HQ0).lt).trans (unhide HQ0)
        have c60 := q6.cell 0
        have c61 := q6.cell 1
        have f0 : w5.frozen? ⟨B, 0, none⟩ = false := Lib.frozen_of_heap q6 0
        have f1 : w5.frozen? ⟨B, 1, none⟩ = false := Lib.frozen_of_heap q6 1
        have HL6 := hide (low_put (k := 1) (v := .slice none 0 0) (low_put (k := 0) (v := .int .i64 0) (low_trans (unhide HB0) (unhide HB5)) (by rw [unhide HBB]; exact Nat.le_refl _)) (by rw [unhide HBB]; exact Nat.le_refl _))
        have qs := (q6.set 0 (.int .i64 0)).set 1 (.slice none 0 0)
        have d0 := qs.cell 0
        have d1 := qs.cell 1
        clear qs q6
        go_wp2
        exact bodyPost_ret (v := .tuple #[.agg #[.int .i64 0, .slice none 0 0], .int .i64 15]) (by simp [results, Tryz.results66, go_sem, d0, d1]) rfl ⟨rfl, unhide HL6⟩
      · obtain ⟨n, rfl⟩ : ∃ n : Nat, v = (n : Int) := ⟨v.toNat, by omega⟩
        have hn : n ≤ 1048576 := by omega
        have h32 : L3 = 32 := by omega
        subst h32
        have hne : headT n FV ≠ s := fun e => unhide HH n FV ⟨hn, unhide HL3, e⟩
        obtain ⟨T, hT⟩ : ∃ T, headT n FV = T := ⟨_, rfl⟩
        rw [hT] at hne
        have K6 := hide (formatHead_ok (w := W4) (c := c3) hn (unhide HL3) (by have := unhide HC3; rw [unhide HL3] at this; exact this) (((unhide HGX).low (unhide HB4)).tab) ((unhide HAT3).low b4))
        rw [hT] at K6
        have t1 : ((ba T).toList == (ba s).toList) = false := by
          apply beq_eq_false_iff_ne.2
          intro e
          apply hne
          have e1 : (ba T).toList = T := by rw [Lib.toList_data, ba_data]
          have e2 : (ba s).toList = s := by rw [Lib.toList_data, ba_data]
          rw [e1, e2] at e
          exact e
        have t2 : ((ba T).toList != (ba s).toList) = true := by simp only [bne, t1]; rfl
        refine (unhide K6).mono ?_
        rintro e w5 ⟨rfl, b5⟩
        have HB5 := hide (low_trans (unhide HB4) b5)
        clear b4 b5 hW4 hG hbad K6 hT hne
        have q6 : Blk w5 B #[.int .i64 0, .slice none 0 0] 97 := ((unhide HB5).block B (unhide HQ0).lt).trans (unhide HQ0)
        have c60 := q6.cell 0
        have c61 := q6.cell 1
        have f0 : w5.frozen? ⟨B, 0, none⟩ = false := Lib.frozen_of_heap q6 0
        have f1 : w5.frozen? ⟨B, 1, none⟩ = false := Lib.frozen_of_heap q6 1
        have HL6 := hide (low_put (k := 1) (v := .slice none 0 0) (low_put (k := 0) (v := .int .i64 0) (low_trans (unhide HB0) (unhide HB5)) (by rw [unhide HBB]; exact Nat.le_refl _)) (by rw [unhide HBB]; exact Nat.le_refl _))
        have qs := (q6.set 0 (.int .i64 0)).set 1 (.slice none 0 0)
        have d0 := qs.cell 0
        have d1 := qs.cell 1
        clear qs q6
        go_wp2
        exact bodyPost_ret (v := .tuple #[.agg #[.int .i64 0, .slice none 0 0], .int .i64 15]) (by simp [results, Tryz.results66, go_sem, d0, d1]) rfl ⟨rfl, unhide HL6⟩
    · rw [hfe]
      clear hfe
      have q6 : Blk w3 B #[.int .i64 0, .slice none 0 0] 97 := ((unhide HB3).block B (unhide HQ0).lt).trans (unhide HQ0)
      have c60 := q6.cell 0
      have c61 := q6.cell 1
      have f0 : w3.frozen? ⟨B, 0, none⟩ = false := Lib.frozen_of_heap q6 0
      have f1 : w3.frozen? ⟨B, 1, none⟩ = false := Lib.frozen_of_heap q6 1
      have HL6 := hide (low_put (k := 1) (v := .slice none 0 0) (low_put (k := 0) (v := .int .i64 0) (low_trans (unhide HB0) (unhide HB3)) (by rw [unhide HBB]; exact Nat.le_refl _)) (by rw [unhide HBB]; exact Nat.le_refl _))
      have qs := (q6.set 0 (.int .i64 0)).set 1 (.slice none 0 0)
      have d0 := qs.cell 0
      have d1 := qs.cell 1
      clear qs q6
      go_wp2
      exact bodyPost_ret (v := .tuple #[.agg #[.int .i64 0, .slice none 0 0], .int .i64 15]) (by simp [results, Tryz.results66, go_sem, d0, d1]) rfl ⟨rfl, unhide HL6⟩
  · clear HV
    have q6 : Blk w3 B #[.int .i64 0, .slice none 0 0] 97 := ((unhide HB3).block B (unhide HQ0).lt).trans (unhide HQ0)
    have c60 := q6.cell 0
    have c61 := q6.cell 1
    have f0 : w3.frozen? ⟨B, 0, none⟩ = false := Lib.frozen_of_heap q6 0
    have f1 : w3.frozen? ⟨B, 1, none⟩ = false := Lib.frozen_of_heap q6 1
    have HL6 := hide (low_put (k := 1) (v := .slice none 0 0) (low_put (k := 0) (v := .int .i64 0) (low_trans (unhide HB0) (unhide HB3)) (by rw [unhide HBB]; exact Nat.le_refl _)) (by rw [unhide HBB]; exact Nat.le_refl _))
    have qs := (q6.set 0 (.int .i64 0)).set 1 (.slice none 0 0)
    have d0 := qs.cell 0
    have d1 := qs.cell 1
    clear qs q6
    go_wp2
    exact bodyPost_ret (v := .tuple #[.agg #[.int .i64 0, .slice none 0 0], .int .i64 15]) (by simp [results, Tryz.results66, go_sem, d0, d1]) rfl ⟨rfl, unhide HL6⟩
end Go.Proofs.YtkablmjkffdloaaGreatDoor
