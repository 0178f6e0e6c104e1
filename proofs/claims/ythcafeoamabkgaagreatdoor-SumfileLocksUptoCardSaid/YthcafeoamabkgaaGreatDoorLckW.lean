/-
  SumfileLocks: the law's walk.
-/
import Derived.Test.YthcafeoamabkgaaGreatDoorRckX
import Derived.Test.YthcafeoamabkgaaGreatDoorFrsX
namespace Go.Proofs.YthcafeoamabkgaaGreatDoor
open Go.RowKit

theorem parse_out {w : World} {t : Str} (hg : Gd w) (ht : t.length ≤ 65536) : Calls Tryz.prog 16 #[.string (ba t)] w fun e w' => ∃ v n en ys, e = .returned (.tuple #[v, .int .i64 (n : Nat), .int .i64 en]) ∧ Lines w.heap.size w' v ys ∧ POut t ys n en ∧ ys.length ≤ t.length ∧ Below w.heap.size w w' := by
  have hr := read_lock t.length [] [] 1 t (Nat.le_refl _) ents_nil
  have hl := readR_len t.length [] [] 1 t
  refine (parse_all hg ht).mono ?_
  rintro e w' ⟨v, rfl, ys, h1, h2, h3, h4⟩
  rw [hr] at h1 hl ⊢
  refine ⟨v, _, _, ys, rfl, h3, Or.inr ⟨ht, h1, h2, rfl, rfl⟩, ?_, h4⟩
  rw [h1.length_eq]
  simpa using hl

theorem lines_new (w : World) : Lines w.heap.size (w.alloc (.cells #[] 38)) (.slice (some ⟨w.heap.size, 0, none⟩) 0 0) [] :=
  ⟨rfl, Or.inr ⟨w.heap.size, 0, #[], rfl, Nat.le_refl _, heap_new w _, Nat.le_refl _, Nat.zero_le _, rfl, rfl⟩⟩

set_option maxRecDepth 100000 in
set_option maxHeartbeats 8000000 in
theorem locks_law {w : World} {a : Option Addr} {n c : Nat} {xs : List Ln} {t s : Str} (hg : Gd w) (hn : xs.length = n) (h : LRow w a xs) (hs : Shorts xs) (ht6 : t.length ≤ 1048576) (hs6 : s.length ≤ 1048576) :
    Calls Tryz.prog 4 #[.string (ba t), .slice a n c, .string (ba s)] w fun e w' => e = .returned (.bool true) ∧ Below w.heap.size w w' := by
  have HG := hide hg
  have HN := hide hn
  have H := hide h
  have HS := hide hs
  have htz := ba_size t
  have hsz := ba_size s
  clear hg hn h hs
  go_enter Tryz.func4, Tryz.ntmps4
  go_wp2_with (go_at_call 11; fail)
  refine (first_any (unhide HG)).mono ?_
  rintro e w1 ⟨rfl, b1⟩
  have B1 := hide b1
  have F1 := hide (fewL_any (c := c) (unhide HN) ((unhide H).low b1))
  clear b1
  go_wp2_with (go_at_call 12; fail)
  refine (unhide F1).mono ?_
  rintro e w2 ⟨⟨r, rfl, hr⟩, q, hw⟩
  rw [hw]; clear hw w2 F1
  cases r with
  | false =>
    clear hr
    go_wp2
    go_ret
    exact ⟨rfl, low_drewN (unhide B1) q⟩
  | true =>
    have hn100 := hr rfl
    clear hr
    obtain ⟨W, hW⟩ : ∃ W, w1.drewN q = W := ⟨_, rfl⟩
    have BW : Hid (Below w.heap.size w W) := hide (by rw [← hW]; exact low_drewN (unhide B1) q)
    rw [hW]
    clear hW
    rcases Nat.lt_or_ge 8000 t.length with h8 | h8
    · have g1 : (8000 : Int) < (t.length : Int) := by omega
      go_wp2
      go_ret
      exact ⟨rfl, unhide BW⟩
    have g1 : ¬ (8000 : Int) < (t.length : Int) := by omega
    rcases Nat.lt_or_ge 8000 s.length with k8 | k8
    · have g2 : (8000 : Int) < (s.length : Int) := by omega
      go_wp2
      go_ret
      exact ⟨rfl, unhide BW⟩
    have g2 : ¬ (8000 : Int) < (s.length : Int) := by omega
    have P1 := hide (parse_out (t := t) ((unhide HG).low (unhide BW)) (by omega))
    go_wp2_with (go_at_call 16; fail)
    refine (unhide P1).mono ?_
    rintro e w3 ⟨v3, n3, en3, ys, rfl, l3, o3, z3, b3⟩
    obtain ⟨a3, c3, rfl, lr3, _⟩ := Lines.at l3
    have HL3 := hide lr3
    have HO3 := hide o3
    have B3 := hide (low_trans (unhide BW) b3)
    have P2 := hide (refParse_any (w := w3) (t := t) (by omega))
    clear l3 lr3 o3 b3 P1
    go_wp2_with (go_at_call 21; fail)
    refine (unhide P2).mono ?_
    rintro e w4 ⟨v4, n4, en4, ys4, rfl, l4, o4, b4⟩
    obtain ⟨rfl, rfl, rfl⟩ := (unhide HO3).one o4
    obtain ⟨a4, c4, rfl, lr4, _⟩ := RLines.at l4
    have HL34 := hide ((unhide HL3).low b4)
    have HL4 := hide lr4
    have B4 := hide (low_trans (unhide B3) b4)
    obtain ⟨N, hN⟩ : ∃ N, ys.length = N := ⟨_, rfl⟩
    rw [hN] at z3 ⊢
    have HNY := hide hN
    clear l4 lr4 o4 b4 P2 hN HL3 HO3
    have bA : Below w4.heap.size w4 (w4.alloc (.cells #[] 38)) := (Below.refl _ _).alloc (Nat.le_refl _) _
    obtain ⟨v5, w5, r5, l5, g5⟩ := app_row (c := c) 22 (lines_new w4) (unhide HN) ((unhide H).low (low_trans (unhide B4) bA)) bA.size (by simp; omega)
    rw [List.nil_append] at l5
    have b5 : Below w4.heap.size w4 w5 := bA.grown g5 bA.size (fun j hj => ((lines_new w4).lt _ hj).1)
    obtain ⟨a5, c5, rfl, lr5, _⟩ := Lines.at l5
    rw [unhide HN] at r5 l5
    have HP5 := hide (Lines.plain l5)
    have HL5 := hide lr5
    have B5 := hide (low_trans (unhide B4) b5)
    have C5 := hide b5
    have FM := hide (format_any (c := c5) ((unhide HG).low (unhide B5)) (unhide HN) (by omega) (unhide HP5) (unhide HL5) (unhide HS))
    have HR5 := hide r5
    clear l5 lr5 g5 b5 bA r5
    go_wp2_with (at_builtin; refine Lib.wpList_append_run _ rfl _ _ _ _ rfl _ _ rfl rfl _ _ (unhide HR5) ?_)
    go_wp2_with (go_at_call 14; fail)
    refine (unhide FM).mono ?_
    rintro e w6 ⟨s6, en6, rfl, o6, b6⟩
    have HO6 := hide o6
    have B6 := hide (low_trans (unhide B5) b6)
    have C6 := hide b6
    have LI := hide (lines_any (c := c) (unhide HN) (by omega) ((unhide H).low (unhide B6)))
    clear o6 b6 FM
    go_wp2_with (go_at_call 23; fail)
    refine (unhide LI).mono ?_
    rintro e w7 ⟨v7, rfl, l7, b7⟩
    obtain ⟨a7, c7, rfl, lr7, hc7⟩ := RLines.at l7
    rw [unhide HN] at hc7 ⊢
    have B7 := hide (low_trans (unhide B6) b7)
    have C7 := hide (low_trans (unhide C6) b7)
    have RF := hide (refFormat_any (c := c7) (unhide HN) (by omega) hc7 lr7 (unhide HS))
    clear l7 lr7 b7 LI hc7
    go_wp2_with (go_at_call 22; fail)
    refine (unhide RF).mono ?_
    rintro e w8 ⟨s8, en8, rfl, o8, b8⟩
    obtain ⟨rfl, rfl⟩ := (unhide HO6).one o8
    have B8 := hide (low_trans (unhide B7) b8)
    have C8 := hide (low_trans (unhide C7) b8)
    have S1 := hide (sameLines_same (w := w8) (ac := c3) (bc := c4) (unhide HNY) (by omega) ((unhide HL34).low (low_trans (unhide C5) (unhide C8))) ((unhide HL4).low (low_trans (unhide C5) (unhide C8))))
    clear o8 b8 RF HO6
    go_wp2_with (go_at_call 24; fail)
    refine (unhide S1).mono ?_
    rintro e w9 ⟨rfl, q1, hw⟩
    rw [hw]; clear hw w9 S1
    have e1 : (((n3 : Nat) : Int) == ((n3 : Nat) : Int)) = true := by simp
    have e2 : (en3 == en3) = true := by simp
    have e3 : ((ba s6).toList == (ba s6).toList) = true := by simp
    have e4 : (en6 == en6) = true := by simp
    go_wp2_with (go_at_call 15; fail)
    refine (num_any en3 _).mono ?_
    rintro e w9 ⟨rfl, hw⟩
    rw [hw]; clear hw w9
    go_wp2_with (go_at_call 15; fail)
    refine (num_any en6 _).mono ?_
    rintro e w9 ⟨rfl, hw⟩
    rw [hw]; clear hw w9
    have LI2 := hide (lines_any (w := w8.drewN q1) (c := c) (unhide HN) (by omega) ((unhide H).low (low_drewN (unhide B8) _)))
    go_wp2_with (go_at_call 23; fail)
    refine (unhide LI2).mono ?_
    rintro e w9 ⟨v9, rfl, l9, b9⟩
    obtain ⟨a9, c9, rfl, lr9, _⟩ := RLines.at l9
    rw [unhide HN]
    have B9 := hide (low_trans (low_drewN (unhide B8) q1) b9)
    have S2 := hide (sameLines_same (w := w9) (ac := c5) (bc := c9) (unhide HN) (by omega) ((unhide HL5).low (low_trans (low_drewN (unhide C8) q1) b9)) lr9)
    clear l9 lr9 b9 LI2
    go_wp2_with (go_at_call 24; fail)
    refine (unhide S2).mono ?_
    rintro e w10 ⟨rfl, q2, hw⟩
    rw [hw]; clear hw w10 S2
    go_wp2_with (go_at_call 25; fail)
    refine (validSum_any s (by omega) _).mono ?_
    rintro e w10 ⟨rfl, hw⟩
    rw [hw]; clear hw w10
    go_wp2_with (go_at_call 26; fail)
    refine (refSum_any (s := s) _).mono ?_
    rintro e w10 ⟨rfl, b10⟩
    have BZ := hide (low_trans (low_drewN (unhide B9) q2) b10)
    have e5 : (sumB s == sumB s) = true := by simp
    clear b10
    go_wp2
    go_ret
    exact ⟨rfl, unhide BZ⟩

end Go.Proofs.YthcafeoamabkgaaGreatDoor
