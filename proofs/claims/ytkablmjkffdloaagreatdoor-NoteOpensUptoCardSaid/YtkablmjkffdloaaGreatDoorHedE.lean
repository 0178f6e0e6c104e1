/-
  A text read as a head, the reference's.
-/
import Derived.Test.YtkablmjkffdloaaGreatDoorHedY
import Derived.Test.YtkablmjkffdloaaGreatDoorHedZ
import Derived.Test.YtkablmjkffdloaaGreatDoorB64Y
import Derived.Test.YtkablmjkffdloaaGreatDoorRVal
namespace Go.Proofs.YtkablmjkffdloaaGreatDoor
open Go.RowKit

theorem refAtoi_any {l : Bs} (hl : l.length ≤ 4000) (w : World) : Calls Tryz.prog 124 #[.string (ba l)] w (AtoiSaid l w) := by
  by_cases h1 : 1 < l.length
  · by_cases h45 : l[0]'(by omega) = 45
    · exact refAtoi_neg h1 h45 hl w
    · exact refAtoi_plain h1 h45 hl w
  · exact refAtoi_one (by omega) w

/-- The words ahead of a head, without their end. -/
def headW : Bs := [109, 101, 119, 115, 32, 108, 111, 103]
theorem not_contains {c : UInt8} {l : Bs} (h : c ∉ l) : l.contains c = false := by
  rw [Bool.eq_false_iff]
  intro e
  exact h (by simpa using e)
theorem let_no10 (n : Nat) : letN n ≠ 10 := by
  by_cases h : n < 64
  · have : ∀ k : Fin 64, letN k.val ≠ 10 := by decide +kernel
    exact this ⟨n, h⟩
  · unfold letN
    have h64 : lettersB.data.toList.length = 64 := by decide +kernel
    rw [List.getD_eq_getElem?_getD, List.getElem?_eq_none (by omega)]
    decide
theorem lets_no10 (n k : Nat) : (10 : UInt8) ∉ lets n k := fun h => by
  have h2 := List.mem_of_mem_take h
  simp at h2
  rcases h2 with e | e | e | e
  · exact let_no10 _ e.symm
  · exact let_no10 _ e.symm
  · exact let_no10 _ e.symm
  · exact let_no10 _ e.symm
theorem grp_no10 (g : Bs) : (10 : UInt8) ∉ grp g := by
  unfold grp
  split
  · simp; exact lets_no10 _ _
  · simp; exact lets_no10 _ _
  · exact lets_no10 _ _
  · simp
theorem b64_no10 : ∀ r : Bs, (10 : UInt8) ∉ b64 r
  | [] => by simp [b64]
  | [a] => by simp only [b64]; exact grp_no10 _
  | [a, b] => by simp only [b64]; exact grp_no10 _
  | a :: b :: c :: r => by
    simp only [b64, List.mem_append]
    rintro (h | h)
    · exact grp_no10 _ h
    · exact b64_no10 r h
theorem head_pieces (n : Nat) (r : Bs) : pieces 10 (headT n r) = [headW, Lib.decDigits n, b64 r, []] := by
  have e : headT n r = headW ++ (10 :: (Lib.decDigits n ++ (10 :: (b64 r ++ (10 :: []))))) := by unfold headT headM headW; simp
  rw [e, pieces_join, pieces_join, pieces_join, pieces_one 10 headW (by decide), pieces_one 10 _ (not_contains (dec_no10 n)), pieces_one 10 _ (not_contains (b64_no10 r))]
  rfl
/-- What is said of a text. -/
def RefSaid (s : Bs) (B : Nat) (x : Int) (v : Value) (y : Int) (w' : World) : Prop := (∃ (n : Nat) (r : Bs), isHead s n r ∧ x = (n : Int) ∧ y = 0 ∧ OwnB B w' v r) ∨ ((∀ n r, ¬ isHead s n r) ∧ x = 0 ∧ v = .slice none 0 0 ∧ y = 15)

set_option maxRecDepth 100000 in
set_option maxHeartbeats 4000000 in
theorem refParse_any {w : World} {s : Bs} (hl : s.length ≤ 4000) (hg : Pw w) :
    Calls Tryz.prog 67 #[.string (ba s)] w fun e w' => ∃ x v y, e = .returned (.tuple #[.int .i64 x, v, .int .i64 y]) ∧ RefSaid s w.heap.size x v y w' ∧ Below w.heap.size w w' := by
  have HG := hide hg
  have KC : Hid (Calls Tryz.prog 100 #[.string (ba s), .int .u8 10] w fun e w' => ∃ B cp, e = .returned (.slice (some ⟨B, 0, none⟩) (pieces 10 s).length cp) ∧ Texts w' B (pieces 10 s) ∧ (B < w'.heap.size ∧ w.heap.size ≤ B) ∧ Below w.heap.size w w') := hide (refCut_any 10 (l := s) (by omega) w)
  have HPS := hide (pieces_short 10 s)
  have HHP : Hid (∀ n r, isHead s n r → pieces 10 s = [headW, Lib.decDigits n, b64 r, []]) := hide (fun n r h => by rw [← h.2.2]; exact head_pieces n r)
  have HL := hide hl
  clear hg hl
  obtain ⟨ps, hps⟩ : ∃ ps, pieces 10 s = ps := ⟨_, rfl⟩
  rw [hps] at KC HPS HHP
  clear hps
  obtain ⟨q, hq⟩ : ∃ q, ps.length = q := ⟨_, rfl⟩
  rw [hq] at KC
  by_cases h4 : q = 4
  · subst h4
    obtain ⟨p0, p1, p2, p3, rfl⟩ : ∃ p0 p1 p2 p3, ps = [p0, p1, p2, p3] := by
      match ps, hq with
      | [p0, p1, p2, p3], _ => exact ⟨p0, p1, p2, p3, rfl⟩
    have hp1 : p1.length ≤ 4000 := Nat.le_trans (unhide HPS p1 (by simp)) (unhide HL)
    have hp2 : p2.length ≤ 4000 := Nat.le_trans (unhide HPS p2 (by simp)) (unhide HL)
    have KA := hide (fun W => refAtoi_any (l := p1) hp1 W)
    have KF : Hid (∀ W, Calls Tryz.prog 37 #[.string (ba p2)] W fun e w' => ∃ v, e = .returned (.tuple #[v, .int .i64 (fromE p2)]) ∧ OwnB W.heap.size w' v (fromV p2) ∧ Below W.heap.size W w') := hide (fun W => refFrom_any (w := W) (s := p2) (by omega))
    clear hq hp1 hp2 HPS
    go_enter Tryz.func67, Tryz.ntmps67
    go_wp2_with (go_at_call 100; fail)
    refine (unhide KC).mono ?_
    rintro e w1 ⟨B, cp, rfl, tx, -, b1⟩
    have t1 : w1.cell? ⟨B, 1, none⟩ = some (.string (ba p1)) := tx 1 (by simp)
    have t2 : w1.cell? ⟨B, 2, none⟩ = some (.string (ba p2)) := tx 2 (by simp)
    have HB1 := hide b1
    have HT2 := hide t2
    clear tx b1 KC t2
    go_wp2_with (go_at_call 124; fail)
    refine (unhide KA _).mono ?_
    rintro e w2 ⟨v, okb, rfl, hat, b2⟩
    have t2 : w2.cell? ⟨B, 2, none⟩ = some (.string (ba p2)) := (b2.cell (lt_of_cell (unhide HT2))).trans (unhide HT2)
    have HB2 := hide (low_trans (unhide HB1) b2)
    have HAT := hide hat
    clear b2 hat KA HT2 t1
    go_wp2_with (go_at_call 37; fail)
    refine (unhide KF _).mono ?_
    rintro e w3 ⟨v3, rfl, o3, b3⟩
    obtain ⟨a3, c3, rfl, at3, hc3, -⟩ := OwnB.at o3
    obtain ⟨R, hR⟩ : ∃ R, fromV p2 = R := ⟨_, rfl⟩
    obtain ⟨fe, hfe⟩ : ∃ fe, fromE p2 = fe := ⟨_, rfl⟩
    rw [hR] at o3 at3 hc3
    rw [hR, hfe]
    have hfe2 : fe = 0 ∨ fe = 15 := by
      rcases fe_two p2 with ⟨h, -⟩ | h
      · exact Or.inl (hfe.symm.trans h)
      · exact Or.inr (hfe.symm.trans h)
    have HIS : Hid (∀ n r, isHead s n r → okb = true ∧ fe = 0 ∧ v = (n : Int) ∧ R = r ∧ n ≤ 1048576 ∧ r.length = 32 ∧ headT n r = s) := hide (fun n r h => by
      have e := unhide HHP n r h
      simp only [List.cons.injEq] at e
      obtain ⟨-, e1, e2, -⟩ := e
      obtain ⟨x1, x2⟩ := unhide HAT n h.1 e1
      have x3 : fromL p2 = some r := by rw [e2]; exact from_b64 r
      refine ⟨x2, ?_, x1, ?_, h.1, h.2.1, h.2.2⟩
      · rw [← hfe]; unfold fromE; rw [x3]; rfl
      · rw [← hR]; unfold fromV; rw [x3]; rfl)
    have HB3 := hide (low_trans (unhide HB2) b3)
    have HO3 := hide (OwnB.less (Nat.le_trans (unhide HB2).size (Nat.le_refl _)) o3)
    have HA3 := hide at3
    obtain ⟨m, hm⟩ : ∃ m, R.length = m := ⟨_, rfl⟩
    have HM := hide hm
    rw [hm] at hc3 HO3 ⊢
    clear o3 b3 at3 hR hfe hm KF t2 HAT HHP
    by_cases hx : 0 ≤ v ∧ v ≤ 1048576 ∧ m = 32
    · obtain ⟨hx1, hx2, rfl⟩ := hx
      obtain ⟨N, rfl⟩ : ∃ N : Nat, v = (N : Int) := ⟨v.toNat, by omega⟩
      have hN : N ≤ 1048576 := by omega
      have K65 := hide (refFormatHead_ok (w := w3) (n := N) (c := c3) hN (unhide HM) ((unhide HG).low (unhide HB3)) (unhide HA3))
      obtain ⟨T, hT⟩ : ∃ T, headT N R = T := ⟨_, rfl⟩
      rw [hT] at K65
      have HT := hide hT
      clear hT hx1 hx2
      go_wp2_with (go_at_call 65; fail)
      refine (unhide K65).mono ?_
      rintro e w4 ⟨rfl, b4⟩
      have HB4 := hide (low_trans (unhide HB3) b4)
      have HO4 := hide ((unhide HO3).low b4)
      clear b4 K65 HO3 HB3
      cases okb with
      | false =>
        have HNO : Hid (∀ n r, ¬ isHead s n r) := hide (fun n r h => by
          have z := unhide HIS n r h
          exact absurd z.1 (by simp))
        go_wp2
        exact bodyPost_ret (v := .tuple #[.int .i64 0, .slice none 0 0, .int .i64 15]) (by simp [results, Tryz.results67, go_sem]) rfl ⟨_, _, _, rfl, Or.inr ⟨unhide HNO, rfl, rfl, rfl⟩, unhide HB4⟩
      | true =>
        rcases hfe2 with rfl | rfl
        · by_cases hTs : T = s
          · have HE := hide hTs
            have t1 : ((ba T).toList == (ba s).toList) = true := by rw [hTs]; simp
            have t2 : ((ba T).toList != (ba s).toList) = false := by simp only [bne, t1]; rfl
            clear hTs
            go_wp2
            exact bodyPost_ret (v := .tuple #[.int .i64 (N : Int), .slice a3 32 c3, .int .i64 0]) (by simp [results, Tryz.results67, go_sem]) rfl ⟨_, _, _, rfl, Or.inl ⟨N, R, ⟨hN, unhide HM, (unhide HT).trans (unhide HE)⟩, rfl, rfl, unhide HO4⟩, unhide HB4⟩
          · have HE := hide hTs
            have t1 : ((ba T).toList == (ba s).toList) = false := by
              apply beq_eq_false_iff_ne.2
              rw [ba_list, ba_list]
              exact hTs
            have t2 : ((ba T).toList != (ba s).toList) = true := by simp only [bne, t1]; rfl
            clear hTs
            have HNO : Hid (∀ n r, ¬ isHead s n r) := hide (fun n r h => by
              have z := unhide HIS n r h
              obtain ⟨-, -, z3, z4, -, -, z7⟩ := z; obtain rfl : N = n := (by omega); exact unhide HE (by rw [← unhide HT, z4]; exact z7))
            go_wp2
            exact bodyPost_ret (v := .tuple #[.int .i64 0, .slice none 0 0, .int .i64 15]) (by simp [results, Tryz.results67, go_sem]) rfl ⟨_, _, _, rfl, Or.inr ⟨unhide HNO, rfl, rfl, rfl⟩, unhide HB4⟩
        · have HNO : Hid (∀ n r, ¬ isHead s n r) := hide (fun n r h => by
            have z := unhide HIS n r h
            exact absurd z.2.1 (by decide))
          go_wp2
          exact bodyPost_ret (v := .tuple #[.int .i64 0, .slice none 0 0, .int .i64 15]) (by simp [results, Tryz.results67, go_sem]) rfl ⟨_, _, _, rfl, Or.inr ⟨unhide HNO, rfl, rfl, rfl⟩, unhide HB4⟩
    · have K65 := hide (refFormatHead_bad (w := w3) (a := a3) (n := m) (c := c3) (x := v) (by
        rcases Int.lt_or_le v 0 with h | h
        · exact Or.inl h
        · rcases Int.lt_or_le 1048576 v with h2 | h2
          · exact Or.inr (Or.inl h2)
          · exact Or.inr (Or.inr (fun e => hx ⟨h, h2, e⟩))))
      have HX := hide hx
      clear hx
      go_wp2_with (go_at_call 65; fail)
      refine (unhide K65).mono ?_
      rintro e w4 ⟨rfl, b4⟩
      have HB4 := hide (low_trans (unhide HB3) b4)
      have HNO : Hid (∀ n r, ¬ isHead s n r) := hide (fun n r h => by
        obtain ⟨-, -, z3, z4, z5, z6, -⟩ := unhide HIS n r h
        refine unhide HX ⟨by omega, by omega, ?_⟩
        rw [← unhide HM, z4]
        exact z6)
      clear b4 K65 HB3
      cases okb with
      | false =>
        go_wp2
        exact bodyPost_ret (v := .tuple #[.int .i64 0, .slice none 0 0, .int .i64 15]) (by simp [results, Tryz.results67, go_sem]) rfl ⟨_, _, _, rfl, Or.inr ⟨unhide HNO, rfl, rfl, rfl⟩, unhide HB4⟩
      | true =>
        rcases hfe2 with rfl | rfl
        · go_wp2
          exact bodyPost_ret (v := .tuple #[.int .i64 0, .slice none 0 0, .int .i64 15]) (by simp [results, Tryz.results67, go_sem]) rfl ⟨_, _, _, rfl, Or.inr ⟨unhide HNO, rfl, rfl, rfl⟩, unhide HB4⟩
        · go_wp2
          exact bodyPost_ret (v := .tuple #[.int .i64 0, .slice none 0 0, .int .i64 15]) (by simp [results, Tryz.results67, go_sem]) rfl ⟨_, _, _, rfl, Or.inr ⟨unhide HNO, rfl, rfl, rfl⟩, unhide HB4⟩
  · have hq1 : ((q : Int) != 4) = true := by simp; omega
    have hq2 : ((q : Int) == 4) = false := by simp; omega
    have HNO : Hid (∀ n r, ¬ isHead s n r) := hide (fun n r h => by
      have e := congrArg List.length (unhide HHP n r h)
      simp at e
      omega)
    clear hq h4
    go_enter Tryz.func67, Tryz.ntmps67
    go_wp2_with (go_at_call 100; fail)
    refine (unhide KC).mono ?_
    rintro e w1 ⟨B, cp, rfl, -, -, b1⟩
    have HB1 := hide b1
    clear b1 KC
    go_wp2
    exact bodyPost_ret (v := .tuple #[.int .i64 0, .slice none 0 0, .int .i64 15]) (by simp [results, Tryz.results67, go_sem]) rfl ⟨_, _, _, rfl, Or.inr ⟨unhide HNO, rfl, rfl, rfl⟩, unhide HB1⟩
end Go.Proofs.YtkablmjkffdloaaGreatDoor
