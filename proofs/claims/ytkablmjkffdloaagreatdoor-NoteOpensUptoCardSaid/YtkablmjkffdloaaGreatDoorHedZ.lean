/-
  A text that is no head's, the program's answer.
-/
import Derived.Test.YtkablmjkffdloaaGreatDoorHedX
import Derived.Test.YtkablmjkffdloaaGreatDoorB64Y
namespace Go.Proofs.YtkablmjkffdloaaGreatDoor
open Go.RowKit

/-- The library's variables as they were laid. -/
structure Gx (w : World) : Prop where
  ml : ∃ m, w.cell? ⟨0, 0, none⟩ = some (.int .i64 m)
  tab : Pw w
  es : ∃ t p, w.var? Tryz.prog "strconv.ErrSyntax" = some #[.iface t p]
  er : ∃ t p, w.var? Tryz.prog "strconv.ErrRange" = some #[.iface t p]
theorem Gx.low {w w' : World} (h : Gx w) (hb : Below w.heap.size w w') : Gx w' where
  ml := by
    obtain ⟨m, hm⟩ := h.ml
    exact ⟨m, by rw [hb.cell (lt_of_cell hm)]; exact hm⟩
  tab := h.tab.low hb
  es := by obtain ⟨t, p, k⟩ := h.es; exact ⟨t, p, var_low k hb⟩
  er := by obtain ⟨t, p, k⟩ := h.er; exact ⟨t, p, var_low k hb⟩

theorem atoi_any {s : Bs} (hs : s.length ≤ 100000) {w : World} (hg : Gx w) : Calls Tryz.prog 122 #[.string (ba s)] w fun e w' => ∃ v ev, e = .returned (.tuple #[.int .i64 v, ev]) ∧ Below w.heap.size w w' ∧ ((ev = .nilIface ∧ Lib.atoiAll s = .ok v) ∨ ((∃ N, ev = .iface 232 (.pointer (some ⟨N, 0, none⟩))) ∧ ∀ u, Lib.atoiAll s ≠ .ok u)) := by
  have hz : (ba s).size ≤ 100000 := by rw [ba_size]; exact hs
  cases e : Lib.atoiAll s with
  | ok v =>
    refine (Tryz.strconv_Atoi_ok (ba s) (by omega) v (by rw [ba_data]; exact e) w).mono ?_
    rintro e' w' ⟨rfl, h⟩
    refine ⟨v, .nilIface, rfl, ?_, Or.inl ⟨rfl, rfl⟩⟩
    rcases h with rfl | ⟨t, rfl⟩
    · exact Below.refl _ _
    · exact Lib.bytesWorld_below _ _ _
  | «syntax» =>
    obtain ⟨t, p, k⟩ := hg.es
    refine (Tryz.strconv_Atoi_syntax_var (ba s) (by omega) (by rw [ba_data]; exact e) t p w k).mono ?_
    rintro e' w' ⟨N, rfl, _, _, b⟩
    exact ⟨0, _, rfl, b, Or.inr ⟨⟨N, rfl⟩, fun u h => by cases h⟩⟩
  | range =>
    obtain ⟨t, p, k⟩ := hg.er
    refine (Tryz.strconv_Atoi_range_var (ba s) (by omega) (by rw [ba_data]; exact e) t p w k).mono ?_
    rintro e' w' ⟨N, rfl, _, _, b⟩
    exact ⟨_, _, rfl, b, Or.inr ⟨⟨N, rfl⟩, fun u h => by cases h⟩⟩

set_option maxRecDepth 100000 in
set_option maxHeartbeats 4000000 in
theorem parseHead_ok {w : World} {s r : Bs} {n : Nat} (hl : s.length ≤ 4000) (hh : isHead s n r) (hg : Gx w) :
    Calls Tryz.prog 66 #[.string (ba s)] w fun e w' => ∃ vb, e = .returned (.tuple #[.agg #[.int .i64 (n : Int), vb], .int .i64 0]) ∧ OwnB w.heap.size w' vb r ∧ Below w.heap.size w w' := by
  obtain ⟨B, hB⟩ : ∃ B, w.heap.size = B := ⟨_, rfl⟩
  obtain ⟨W0, hW0⟩ : ∃ W0, w.alloc (.cells #[.int .i64 0, .slice none 0 0] 97) = W0 := ⟨_, rfl⟩
  have bb : Below w.heap.size w W0 := by rw [← hW0]; exact (Below.refl _ _).alloc (Nat.le_refl _) _
  have q0 : Blk W0 B #[.int .i64 0, .slice none 0 0] 97 := by rw [← hW0, ← hB]; exact Blk.new _ _ _
  have hg0 : Gx W0 := hg.low bb
  obtain ⟨m, hm⟩ := hg0.ml
  have HQ0 := hide q0
  have HB0 := hide bb
  have HW0 := hide hW0
  have HBB := hide hB
  clear hW0 hB bb q0
  obtain ⟨A, hA⟩ : ∃ A, Lib.trimPrefix s headM = A := ⟨_, rfl⟩
  have hAl : A.length ≤ 4000 := by
    rw [← hA]
    unfold Lib.trimPrefix
    split
    · rw [List.length_drop]; omega
    · exact hl
  obtain ⟨C1, C2, cb, hC⟩ : ∃ C1 C2 cb, Lib.cut A [10] = (C1, C2, cb) := ⟨_, _, _, rfl⟩
  have hCl : C1.length ≤ 4000 ∧ C2.length ≤ 4000 := by
    unfold Lib.cut at hC
    split at hC
    · obtain ⟨rfl, rfl, -⟩ : _ ∧ _ ∧ _ := by simpa using hC
      constructor
      · rw [List.length_take]; omega
      · rw [List.length_drop]; omega
    · obtain ⟨rfl, rfl, -⟩ : _ ∧ _ ∧ _ := by simpa using hC
      exact ⟨hAl, by simp⟩
  obtain ⟨R, hR⟩ : ∃ R, Lib.trimSuffix C2 [10] = R := ⟨_, rfl⟩
  have hRl : R.length ≤ 4000 := by
    rw [← hR]
    unfold Lib.trimSuffix
    split
    · rw [List.length_take]; omega
    · exact hCl.2
  have K1 : Hid (∀ w : World, Calls Tryz.prog 121 #[.string (ba s), .string ⟨#[109, 101, 119, 115, 32, 108, 111, 103, 10]⟩] w fun e w' => e = .returned (.string (ba A)) ∧ w' = w) := hide (fun w => by
    have k := Tryz.strings_TrimPrefix (ba s) (ba headM) w
    rw [ba_data, ba_data, hA] at k
    exact k)
  have K2 : Hid (Calls Tryz.prog 120 #[.string (ba A), .string ⟨#[10]⟩] W0 fun e w' => e = .returned (.tuple #[.string (ba C1), .string (ba C2), .bool cb]) ∧ Below W0.heap.size W0 w') := hide (by
    have k := Tryz.strings_Cut (ba A) (ba [10]) m W0 (by rw [ba_size]; omega) hm
    rw [ba_data, ba_data, hC] at k
    refine k.mono ?_
    rintro e w' ⟨rfl, q, rfl⟩
    exact ⟨rfl, lowN (Below.refl _ _) _⟩)
  have K4 : Hid (∀ w : World, Calls Tryz.prog 123 #[.string (ba C2), .string ⟨#[10]⟩] w fun e w' => e = .returned (.string (ba R)) ∧ w' = w) := hide (fun w => by
    have k := Tryz.strings_TrimSuffix (ba C2) (ba [10]) w (by rw [ba_size]; omega)
    rw [ba_data, ba_data, hR] at k
    exact k)
  obtain ⟨g1, g2, g3⟩ := hh
  have hcc := head_cut n r
  rw [g3, hA, hC] at hcc
  obtain ⟨e1, e2, -⟩ : C1 = Lib.decDigits n ∧ C2 = b64 r ++ [10] ∧ cb = true := by simpa using hcc
  have hat : Lib.atoiAll C1 = .ok (n : Int) := by rw [e1]; exact atoi_dec g1
  have hfr : fromL R = some r := by rw [← hR, e2, trim10]; exact from_b64 r
  have hfe : fromE R = 0 := by unfold fromE; rw [hfr]; rfl
  have hfv : fromV R = r := by unfold fromV; rw [hfr]; rfl
  have HAT := hide hat
  have HFE := hide hfe
  have HFV := hide hfv
  have HG1 := hide g1
  have HG2 := hide g2
  have HG3 := hide g3
  have HCL := hide hCl
  have HRL := hide hRl
  have HGX := hide hg0
  have ss : ((ba s).toList == (ba s).toList) = true := by simp
  have ss2 : ((ba s).toList != (ba s).toList) = false := by simp
  clear hat hfe hfv hfr g1 g2 g3 hCl hRl hA hC hR hcc e1 e2 hg hg0 hm hl hAl
  go_enter Tryz.func66, Tryz.ntmps66
  go_wp2_with (go_at_call 121; fail)
  rw [unhide HW0, unhide HBB]
  clear HW0
  refine (unhide K1 _).mono ?_
  rintro e wn ⟨rfl, hwn⟩
  rw [hwn]
  clear hwn wn K1
  go_wp2_with (go_at_call 120; fail)
  refine (unhide K2).mono ?_
  rintro e w1 ⟨rfl, b1⟩
  have HB1 := hide b1
  have K3 := hide (atoi_any (s := C1) (by have := (unhide HCL).1; omega) ((unhide HGX).low b1))
  clear b1 K2
  go_wp2_with (go_at_call 122; fail)
  refine (unhide K3).mono ?_
  rintro e w2 ⟨v, ev, rfl, b2, hv⟩
  have HB2 := hide (low_trans (unhide HB1) b2)
  have K5 : Hid (Calls Tryz.prog 24 #[.string (ba R)] w2 fun e w' => ∃ v, e = .returned (.tuple #[v, .int .i64 (fromE R)]) ∧ OwnB w2.heap.size w' v (fromV R) ∧ Below w2.heap.size w2 w') := hide (fromB64_any (w := w2) (s := R) (by have := unhide HRL; omega))
  clear b2 K3 HB1
  obtain ⟨rfl, hv2⟩ : ev = .nilIface ∧ v = (n : Int) := by
    rcases hv with ⟨h1, h2⟩ | ⟨-, h2⟩
    · rw [unhide HAT] at h2
      injection h2 with h2
      exact ⟨h1, h2.symm⟩
    · exact absurd (unhide HAT) (h2 _)
  rw [unhide HFE, unhide HFV] at K5
  subst hv2
  clear hv
  go_wp2_with (first
    | (go_at_call 123; refine (unhide K4 _).mono ?_; rintro e wn ⟨rfl, hwn⟩; rw [hwn]; clear hwn wn)
    | (go_at_call 24; fail))
  refine (unhide K5).mono ?_
  rintro e w3 ⟨v3, rfl, o3, b3⟩
  obtain ⟨a3, c3, rfl, at3, hc3, -⟩ := OwnB.at o3
  rw [unhide HG2] at hc3 ⊢
  have HO3 : Hid (OwnB w2.heap.size w3 (.slice a3 32 c3) r) := hide (by rw [unhide HG2] at o3; exact o3)
  have HB3 := hide (low_trans (unhide HB2) b3)
  have HAT3 := hide at3
  clear o3 b3 at3 K4 K5
  go_wp2_with (go_at_call 64; fail)
  obtain ⟨G, hG⟩ : ∃ G, w3.heap.size = G := ⟨_, rfl⟩
  obtain ⟨W4, hW4⟩ : ∃ W4, w3.alloc (.cells #[.int .i64 (n : Int), .slice a3 32 c3] 97) = W4 := ⟨_, rfl⟩
  have b4 : Below w3.heap.size w3 W4 := by rw [← hW4]; exact (Below.refl _ _).alloc (Nat.le_refl _) _
  have q4 : Blk W4 G #[.int .i64 (n : Int), .slice a3 32 c3] 97 := by rw [← hW4, ← hG]; exact Blk.new _ _ _
  have K6 := hide (formatHead_ok (w := W4) (c := c3) (unhide HG1) (unhide HG2) hc3 (((unhide HGX).low (low_trans (unhide HB3) b4)).tab) ((unhide HAT3).low b4))
  rw [unhide HG3] at K6
  rw [hW4, hG]
  have hBG : B < G := by
    have h1 := (unhide HQ0).lt
    have h2 := (unhide HB3).size
    omega
  refine (unhide K6).mono ?_
  rintro e w5 ⟨rfl, b5⟩
  have HB5 := hide (low_trans (low_trans (unhide HB3) b4) b5)
  have q5 : Blk w5 G #[.int .i64 (n : Int), .slice a3 32 c3] 97 := (b5.block G q4.lt).trans q4
  have q6 : Blk w5 B #[.int .i64 0, .slice none 0 0] 97 := ((unhide HB5).block B (unhide HQ0).lt).trans (unhide HQ0)
  have c50 := q5.cell 0
  have c51 := q5.cell 1
  have c60 := q6.cell 0
  have c61 := q6.cell 1
  have f0 : w5.frozen? ⟨B, 0, none⟩ = false := Lib.frozen_of_heap q6 0
  have f1 : w5.frozen? ⟨B, 1, none⟩ = false := Lib.frozen_of_heap q6 1
  have HO5 := hide ((unhide HO3).low (low_trans b4 b5))
  clear b4 b5 q4 K6 hW4 hG
  have hO6 : OwnB w.heap.size ((w5.setCell ⟨B, 0, none⟩ (.int .i64 (n : Int))).setCell ⟨B, 1, none⟩ (.slice a3 32 c3)) (.slice a3 32 c3) r := by
    have o5 := unhide HO5
    refine OwnB.less (Nat.le_trans (unhide HB0).size (unhide HB2).size) (o5.keep fun g hg => ?_)
    have hgb := OwnB.base o5 g hg
    have h1 := (unhide HQ0).lt
    have h2 := (unhide HB2).size
    rw [Below.heap_setCell _ _ _ _ (by show g ≠ B; omega), Below.heap_setCell _ _ _ _ (by show g ≠ B; omega)]
  have hL6 : Below w.heap.size w ((w5.setCell ⟨B, 0, none⟩ (.int .i64 (n : Int))).setCell ⟨B, 1, none⟩ (.slice a3 32 c3)) := low_put (low_put (low_trans (unhide HB0) (unhide HB5)) (by rw [unhide HBB]; exact Nat.le_refl _)) (by rw [unhide HBB]; exact Nat.le_refl _)
  have qs := (q6.set 0 (.int .i64 (n : Int))).set 1 (.slice a3 32 c3)
  have d0 := qs.cell 0
  have d1 := qs.cell 1
  have HO6 := hide hO6
  have HL6 := hide hL6
  clear hO6 hL6 qs q5 q6
  go_wp2
  exact bodyPost_ret (v := .tuple #[.agg #[.int .i64 (n : Int), .slice a3 32 c3], .int .i64 0]) (by simp [results, Tryz.results66, go_sem, d0, d1]) rfl ⟨_, rfl, unhide HO6, unhide HL6⟩
end Go.Proofs.YtkablmjkffdloaaGreatDoor

namespace Go.Proofs.YtkablmjkffdloaaGreatDoor
open Go.RowKit

theorem fe_two (s : Bs) : (fromE s = 0 ∧ ∃ r, fromL s = some r ∧ fromV s = r) ∨ fromE s = 15 := by
  unfold fromE fromV
  cases e : fromL s with
  | none => exact Or.inr rfl
  | some r => exact Or.inl ⟨rfl, r, rfl, rfl⟩

set_option maxRecDepth 100000 in
set_option maxHeartbeats 4000000 in
theorem parseHead_bad {w : World} {s : Bs} (hl : s.length ≤ 4000) (hh : ∀ n r, ¬ isHead s n r) (hg : Gx w) :
    Calls Tryz.prog 66 #[.string (ba s)] w fun e w' => e = .returned (.tuple #[.agg #[.int .i64 0, .slice none 0 0], .int .i64 15]) ∧ Below w.heap.size w w' := by
  obtain ⟨B, hB⟩ : ∃ B, w.heap.size = B := ⟨_, rfl⟩
  obtain ⟨W0, hW0⟩ : ∃ W0, w.alloc (.cells #[.int .i64 0, .slice none 0 0] 97) = W0 := ⟨_, rfl⟩
  have bb : Below w.heap.size w W0 := by rw [← hW0]; exact (Below.refl _ _).alloc (Nat.le_refl _) _
  have q0 : Blk W0 B #[.int .i64 0, .slice none 0 0] 97 := by rw [← hW0, ← hB]; exact Blk.new _ _ _
  have hg0 : Gx W0 := hg.low bb
  obtain ⟨m, hm⟩ := hg0.ml
  have HQ0 := hide q0
  have HB0 := hide bb
  have HW0 := hide hW0
  have HBB := hide hB
  clear hW0 hB bb q0
  obtain ⟨A, hA⟩ : ∃ A, Lib.trimPrefix s headM = A := ⟨_, rfl⟩
  have hAl : A.length ≤ 4000 := by
    rw [← hA]
    unfold Lib.trimPrefix
    split
    · rw [List.length_drop]; omega
    · exact hl
  obtain ⟨C1, C2, cb, hC⟩ : ∃ C1 C2 cb, Lib.cut A [10] = (C1, C2, cb) := ⟨_, _, _, rfl⟩
  have hCl : C1.length ≤ 4000 ∧ C2.length ≤ 4000 := by
    unfold Lib.cut at hC
    split at hC
    · obtain ⟨rfl, rfl, -⟩ : _ ∧ _ ∧ _ := by simpa using hC
      constructor
      · rw [List.length_take]; omega
      · rw [List.length_drop]; omega
    · obtain ⟨rfl, rfl, -⟩ : _ ∧ _ ∧ _ := by simpa using hC
      exact ⟨hAl, by simp⟩
  obtain ⟨R, hR⟩ : ∃ R, Lib.trimSuffix C2 [10] = R := ⟨_, rfl⟩
  have hRl : R.length ≤ 4000 := by
    rw [← hR]
    unfold Lib.trimSuffix
    split
    · rw [List.length_take]; omega
    · exact hCl.2
  have K1 : Hid (∀ w : World, Calls Tryz.prog 121 #[.string (ba s), .string ⟨#[109, 101, 119, 115, 32, 108, 111, 103, 10]⟩] w fun e w' => e = .returned (.string (ba A)) ∧ w' = w) := hide (fun w => by
    have k := Tryz.strings_TrimPrefix (ba s) (ba headM) w
    rw [ba_data, ba_data, hA] at k
    exact k)
  have K2 : Hid (Calls Tryz.prog 120 #[.string (ba A), .string ⟨#[10]⟩] W0 fun e w' => e = .returned (.tuple #[.string (ba C1), .string (ba C2), .bool cb]) ∧ Below W0.heap.size W0 w') := hide (by
    have k := Tryz.strings_Cut (ba A) (ba [10]) m W0 (by rw [ba_size]; omega) hm
    rw [ba_data, ba_data, hC] at k
    refine k.mono ?_
    rintro e w' ⟨rfl, q, rfl⟩
    exact ⟨rfl, lowN (Below.refl _ _) _⟩)
  have K4 : Hid (∀ w : World, Calls Tryz.prog 123 #[.string (ba C2), .string ⟨#[10]⟩] w fun e w' => e = .returned (.string (ba R)) ∧ w' = w) := hide (fun w => by
    have k := Tryz.strings_TrimSuffix (ba C2) (ba [10]) w (by rw [ba_size]; omega)
    rw [ba_data, ba_data, hR] at k
    exact k)
  have HH := hide hh
  have HCL := hide hCl
  have HRL := hide hRl
  have HGX := hide hg0
  clear hCl hRl hA hC hR hg hg0 hm hl hAl hh
  go_enter Tryz.func66, Tryz.ntmps66
  go_wp2_with (go_at_call 121; fail)
  rw [unhide HW0, unhide HBB]
  clear HW0
  refine (unhide K1 _).mono ?_
  rintro e wn ⟨rfl, hwn⟩
  rw [hwn]
  clear hwn wn K1
  go_wp2_with (go_at_call 120; fail)
  refine (unhide K2).mono ?_
  rintro e w1 ⟨rfl, b1⟩
  have HB1 := hide b1
  have K3 := hide (atoi_any (s := C1) (by have := (unhide HCL).1; omega) ((unhide HGX).low b1))
  clear b1 K2
  go_wp2_with (go_at_call 122; fail)
  refine (unhide K3).mono ?_
  rintro e w2 ⟨v, ev, rfl, b2, hv⟩
  have HB2 := hide (low_trans (unhide HB1) b2)
  have K5 : Hid (Calls Tryz.prog 24 #[.string (ba R)] w2 fun e w' => ∃ v, e = .returned (.tuple #[v, .int .i64 (fromE R)]) ∧ OwnB w2.heap.size w' v (fromV R) ∧ Below w2.heap.size w2 w') := hide (fromB64_any (w := w2) (s := R) (by have := unhide HRL; omega))
  clear b2 K3 HB1
  have HV := hide hv
  clear hv
  go_wp2_with (first
    | (go_at_call 123; refine (unhide K4 _).mono ?_; rintro e wn ⟨rfl, hwn⟩; rw [hwn]; clear hwn wn)
    | (go_at_call 24; fail))
  refine (unhide K5).mono ?_
  rintro e w3 ⟨v3, rfl, o3, b3⟩
  obtain ⟨a3, c3, rfl, at3, hc3, -⟩ := OwnB.at o3
  have HB3 := hide (low_trans (unhide HB2) b3)
  have HAT3 := hide at3
  obtain ⟨FV, hFV⟩ : ∃ FV, fromV R = FV := ⟨_, rfl⟩
  rw [hFV] at HAT3 hc3 ⊢
  obtain ⟨L3, hL3⟩ : ∃ L3, FV.length = L3 := ⟨_, rfl⟩
  have HC3 := hide hc3
  have HFV := hide hFV
  rw [hL3]
  have HL3 := hide hL3
  clear o3 b3 at3 K4 K5 hc3 hFV hL3
  rcases unhide HV with ⟨rfl, hv2⟩ | ⟨⟨NN, rfl⟩, -⟩
  · have HV2 := hide hv2
    clear hv2 HV
    rcases fe_two R with ⟨hfe, r, hr1, hr2⟩ | hfe
    · rw [hfe]
      obtain rfl : FV = r := (unhide HFV).symm.trans hr2
      have HR1 := hide hr1
      clear hr1 hr2 hfe
      go_wp2_with (go_at_call 64; fail)
      obtain ⟨G, hG⟩ : ∃ G, w3.heap.size = G := ⟨_, rfl⟩
      obtain ⟨W4, hW4⟩ : ∃ W4, w3.alloc (.cells #[.int .i64 v, .slice a3 L3 c3] 97) = W4 := ⟨_, rfl⟩
      have b4 : Below w3.heap.size w3 W4 := by rw [← hW4]; exact (Below.refl _ _).alloc (Nat.le_refl _) _
      have HB4 := hide (low_trans (unhide HB3) b4)
      rw [hW4, hG]
      by_cases hbad : v < 0 ∨ 1048576 < v ∨ L3 ≠ 32
      · refine (formatHead_bad hbad).mono ?_
        rintro e w5 ⟨rfl, b5⟩
        have HB5 := hide (low_trans (unhide HB4) b5)
        clear b4 b5 hW4 hG hbad
        have q6 : Blk w5 B #[.int .i64 0, .slice none 0 0] 97 := ((unhide HB5).block B (unhide HQ0).lt).trans (unhide HQ0)
        have c60 := q6.cell 0
        have c61 := q6.cell 1
        have f0 : w5.frozen? ⟨B, 0, none⟩ = false := Lib.frozen_of_heap q6 0
        have f1 : w5.frozen? ⟨B, 1, none⟩ = false := Lib.frozen_of_heap q6 1
        have HL6 := hide (low_put (k := 1) (v := .slice none 0 0) (low_put (k := 0) (v := .int .i64 0) (low_trans (unhide HB0) (unhide HB5)) (by rw [unhide HBB]; exact Nat.le_refl _)) (by rw [unhide HBB]; exact Nat.le_refl _))
        have qs := (q6.set 0 (.int .i64 0)).set 1 (.slice none 0 0)
        have d0 := qs.cell 0
        have d1 := qs.cell 1
        clear qs q6
        go_wp2
        exact bodyPost_ret (v := .tuple #[.agg #[.int .i64 0, .slice none 0 0], .int .i64 15]) (by simp [results, Tryz.results66, go_sem, d0, d1]) rfl ⟨rfl, unhide HL6⟩
      · obtain ⟨n, rfl⟩ : ∃ n : Nat, v = (n : Int) := ⟨v.toNat, by omega⟩
        have hn : n ≤ 1048576 := by omega
        have h32 : L3 = 32 := by omega
        subst h32
        have hne : headT n FV ≠ s := fun e => unhide HH n FV ⟨hn, unhide HL3, e⟩
        obtain ⟨T, hT⟩ : ∃ T, headT n FV = T := ⟨_, rfl⟩
        rw [hT] at hne
        have K6 := hide (formatHead_ok (w := W4) (c := c3) hn (unhide HL3) (by have := unhide HC3; rw [unhide HL3] at this; exact this) (((unhide HGX).low (unhide HB4)).tab) ((unhide HAT3).low b4))
        rw [hT] at K6
        have t1 : ((ba T).toList == (ba s).toList) = false := by
          apply beq_eq_false_iff_ne.2
          intro e
          apply hne
          have e1 : (ba T).toList = T := by rw [Lib.toList_data, ba_data]
          have e2 : (ba s).toList = s := by rw [Lib.toList_data, ba_data]
          rw [e1, e2] at e
          exact e
        have t2 : ((ba T).toList != (ba s).toList) = true := by simp only [bne, t1]; rfl
        refine (unhide K6).mono ?_
        rintro e w5 ⟨rfl, b5⟩
        have HB5 := hide (low_trans (unhide HB4) b5)
        clear b4 b5 hW4 hG hbad K6 hT hne
        have q6 : Blk w5 B #[.int .i64 0, .slice none 0 0] 97 := ((unhide HB5).block B (unhide HQ0).lt).trans (unhide HQ0)
        have c60 := q6.cell 0
        have c61 := q6.cell 1
        have f0 : w5.frozen? ⟨B, 0, none⟩ = false := Lib.frozen_of_heap q6 0
        have f1 : w5.frozen? ⟨B, 1, none⟩ = false := Lib.frozen_of_heap q6 1
        have HL6 := hide (low_put (k := 1) (v := .slice none 0 0) (low_put (k := 0) (v := .int .i64 0) (low_trans (unhide HB0) (unhide HB5)) (by rw [unhide HBB]; exact Nat.le_refl _)) (by rw [unhide HBB]; exact Nat.le_refl _))
        have qs := (q6.set 0 (.int .i64 0)).set 1 (.slice none 0 0)
        have d0 := qs.cell 0
        have d1 := qs.cell 1
        clear qs q6
        go_wp2
        exact bodyPost_ret (v := .tuple #[.agg #[.int .i64 0, .slice none 0 0], .int .i64 15]) (by simp [results, Tryz.results66, go_sem, d0, d1]) rfl ⟨rfl, unhide HL6⟩
    · rw [hfe]
      clear hfe
      have q6 : Blk w3 B #[.int .i64 0, .slice none 0 0] 97 := ((unhide HB3).block B (unhide HQ0).lt).trans (unhide HQ0)
      have c60 := q6.cell 0
      have c61 := q6.cell 1
      have f0 : w3.frozen? ⟨B, 0, none⟩ = false := Lib.frozen_of_heap q6 0
      have f1 : w3.frozen? ⟨B, 1, none⟩ = false := Lib.frozen_of_heap q6 1
      have HL6 := hide (low_put (k := 1) (v := .slice none 0 0) (low_put (k := 0) (v := .int .i64 0) (low_trans (unhide HB0) (unhide HB3)) (by rw [unhide HBB]; exact Nat.le_refl _)) (by rw [unhide HBB]; exact Nat.le_refl _))
      have qs := (q6.set 0 (.int .i64 0)).set 1 (.slice none 0 0)
      have d0 := qs.cell 0
      have d1 := qs.cell 1
      clear qs q6
      go_wp2
      exact bodyPost_ret (v := .tuple #[.agg #[.int .i64 0, .slice none 0 0], .int .i64 15]) (by simp [results, Tryz.results66, go_sem, d0, d1]) rfl ⟨rfl, unhide HL6⟩
  · clear HV
    have q6 : Blk w3 B #[.int .i64 0, .slice none 0 0] 97 := ((unhide HB3).block B (unhide HQ0).lt).trans (unhide HQ0)
    have c60 := q6.cell 0
    have c61 := q6.cell 1
    have f0 : w3.frozen? ⟨B, 0, none⟩ = false := Lib.frozen_of_heap q6 0
    have f1 : w3.frozen? ⟨B, 1, none⟩ = false := Lib.frozen_of_heap q6 1
    have HL6 := hide (low_put (k := 1) (v := .slice none 0 0) (low_put (k := 0) (v := .int .i64 0) (low_trans (unhide HB0) (unhide HB3)) (by rw [unhide HBB]; exact Nat.le_refl _)) (by rw [unhide HBB]; exact Nat.le_refl _))
    have qs := (q6.set 0 (.int .i64 0)).set 1 (.slice none 0 0)
    have d0 := qs.cell 0
    have d1 := qs.cell 1
    clear qs q6
    go_wp2
    exact bodyPost_ret (v := .tuple #[.agg #[.int .i64 0, .slice none 0 0], .int .i64 15]) (by simp [results, Tryz.results66, go_sem, d0, d1]) rfl ⟨rfl, unhide HL6⟩
end Go.Proofs.YtkablmjkffdloaaGreatDoor
