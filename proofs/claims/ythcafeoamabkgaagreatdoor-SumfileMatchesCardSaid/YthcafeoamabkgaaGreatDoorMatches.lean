/-
  SumfileMatches answers true.
-/
import Derived.Test.YthcafeoamabkgaaGreatDoorMatR
import Derived.Test.YthcafeoamabkgaaGreatDoorPatR
import Derived.Test.YthcafeoamabkgaaGreatDoorFirstW
namespace Go.Proofs.YthcafeoamabkgaaGreatDoor
open Go.RowKit

set_option maxRecDepth 100000 in
set_option maxHeartbeats 2000000 in
/-- Where what is handed in is too much. -/
theorem matches_out {w : World} {a : Option Addr} {n c : Nat} {list pat s : Str} (hg : Gd w) (h : 1200 < list.length ∨ 1000 < pat.length ∨ 1000 < s.length ∨ 30 < n) :
    Calls Tryz.prog 7 #[.string (ba list), .string (ba pat), .string (ba s), .slice a n c] w fun e w' => e = .returned (.bool true) ∧ Below w.heap.size w w' := by
  have HF := hide (first_any hg)
  have h1 := ba_size list
  have h2 := ba_size pat
  have h3 := ba_size s
  have HH := hide h
  clear hg h
  go_enter Tryz.func7, Tryz.ntmps7
  go_wp2_with (go_at_call 11; fail)
  refine (unhide HF).mono ?_
  rintro e w1 ⟨rfl, b1⟩
  have HB := hide b1
  clear b1
  by_cases q1 : 1200 < list.length
  · have q1' : (1200 : Int) < (list.length : Int) := by omega
    go_wp2
    go_ret
    exact ⟨rfl, unhide HB⟩
  · have q1' : ¬ (1200 : Int) < (list.length : Int) := by omega
    by_cases q2 : 1000 < pat.length
    · have q2' : (1000 : Int) < (pat.length : Int) := by omega
      go_wp2
      go_ret
      exact ⟨rfl, unhide HB⟩
    · have q2' : ¬ (1000 : Int) < (pat.length : Int) := by omega
      by_cases q3 : 1000 < s.length
      · have q3' : (1000 : Int) < (s.length : Int) := by omega
        go_wp2
        go_ret
        exact ⟨rfl, unhide HB⟩
      · have q3' : ¬ (1000 : Int) < (s.length : Int) := by omega
        have q4 : 30 < n := by
          rcases unhide HH with h | h | h | h
          · exact absurd h q1
          · exact absurd h q2
          · exact absurd h q3
          · exact h
        have q4' : (30 : Int) < (n : Int) := by omega
        go_wp2
        go_ret
        exact ⟨rfl, unhide HB⟩

/-- SameTexts at two rows that hold the same texts. -/
theorem same_rows {x : List Str} {a b : Option Addr} {ac bc : Nat} {w : World} (hn : x.length ≤ 1099511627776) (ha : Row w a x) (hb : Row w b x) :
    Calls Tryz.prog 38 #[.slice a x.length ac, .slice b x.length bc] w fun e w' => e = .returned (.bool true) ∧ Below w.heap.size w w' := by
  rcases ha.els with h | ⟨A, ao, rfl, h1⟩
  · subst h
    refine (sameTexts_none w).mono ?_
    rintro e w' ⟨rfl, rfl⟩
    exact ⟨rfl, Below.refl _ _⟩
  · rcases hb.els with h | ⟨B, bo, rfl, h2⟩
    · subst h
      refine (sameTexts_none w).mono ?_
      rintro e w' ⟨rfl, rfl⟩
      exact ⟨rfl, Below.refl _ _⟩
    · exact sameTexts_same hn h1 h2

theorem pats_few (s : Str) (_h : s.length ≤ 1200) : (patsR s).1.length ≤ 2000 := by
  have h1 := pieces_length 44 s
  have h2 := Lib.count_le s [44]
  unfold patsR
  split
  · simp
  · split
    · simp
    · split
      · simp
      · split
        · simp
        · show (pieces 44 s).length ≤ 2000
          omega

set_option maxRecDepth 100000 in
set_option maxHeartbeats 8000000 in
theorem matches_in {w : World} {a : Option Addr} {n c : Nat} {ts : List Str} {list pat s : Str} (hg : Gd w) (ht : Row w a ts) (hn : ts.length = n) (h1 : list.length ≤ 1200) (h2 : pat.length ≤ 1000) (h3 : s.length ≤ 1000) (h4 : n ≤ 30) :
    Calls Tryz.prog 7 #[.string (ba list), .string (ba pat), .string (ba s), .slice a n c] w fun e w' => e = .returned (.bool true) ∧ Below w.heap.size w w' := by
  have HF := hide (first_any hg)
  have s1 := ba_size list
  have s2 := ba_size pat
  have s3 := ba_size s
  have HG := hide hg
  have HT := hide ht
  have HN := hide hn
  have q1 : ¬ (1200 : Int) < (list.length : Int) := by omega
  have q2 : ¬ (1000 : Int) < (pat.length : Int) := by omega
  have q3 : ¬ (1000 : Int) < (s.length : Int) := by omega
  have q4 : ¬ (30 : Int) < (n : Int) := by omega
  have HPF := hide (pats_few list h1)
  clear hg ht hn
  go_enter Tryz.func7, Tryz.ntmps7
  go_wp2_with (go_at_call 11; fail)
  refine (unhide HF).mono ?_
  rintro e w1 ⟨rfl, b1⟩
  have HB := hide b1
  clear b1 HF
  go_wp2
  go_loop [10] (fun v10 => ∃ k : Nat, k ≤ n ∧ v10 = .int .i64 k ∧ ∀ y ∈ ts.take k, y.length ≤ 200) (fun v10 => n - (intOf v10).toNat)
  case atStart => exact ⟨0, Nat.zero_le _, rfl, by simp⟩
  case round =>
    obtain ⟨k, hk, rfl, hshort⟩ := hrel
    have HS := hide hshort
    clear hshort
    by_cases hlt : k < n
    · have hkt : k < ts.length := by rw [unhide HN]; exact hlt
      obtain ⟨B, O, ha, he⟩ : ∃ B O, a = some ⟨B, O, none⟩ ∧ ∀ k (hk : k < ts.length), w1.cell? ⟨B, O + k, none⟩ = some (.string (ba ts[k])) := by
        rcases ((unhide HT).low (unhide HB)).els with h | h
        · rw [h] at hkt; simp at hkt
        · exact h
      subst ha
      have t0 := he k hkt
      obtain ⟨x, hx⟩ : ∃ x, ts[k] = x := ⟨_, rfl⟩
      rw [hx] at t0
      have sx := ba_size x
      have HS1 : Hid (x.length ≤ 200 → ∀ y ∈ ts.take (k + 1), y.length ≤ 200) := hide (by
        intro hxl y hy
        rw [List.take_add_one, List.mem_append] at hy
        rcases hy with h | h
        · exact (unhide HS) y h
        · rw [List.getElem?_eq_getElem hkt, hx] at h
          simp at h
          rw [h]; exact hxl)
      clear he hx
      by_cases hxl : 200 < x.length
      · have q5 : (200 : Int) < (x.length : Int) := by omega
        go_wp2
        go_ret
        exact ⟨rfl, unhide HB⟩
      · have q5 : ¬ (200 : Int) < (x.length : Int) := by omega
        have HS1 := hide ((unhide HS1) (by omega))
        go_wp2
        go_round
        case rel => exact ⟨k + 1, hlt, by simp, unhide HS1⟩
        case measure => simp [intOf]; omega
    · have hkn : ts.take k = ts := List.take_of_length_le (by rw [unhide HN]; omega)
      rw [hkn] at HS
      clear hkn
      have HP := hide (patterns_any (s := list) ((unhide HG).low (unhide HB)))
      obtain ⟨R, hR⟩ : ∃ R, patsR list = R := ⟨_, rfl⟩
      have HRR := hide (fun w => refPatterns_any (s := list) w)
      rw [hR] at HP HPF HRR
      clear hR
      go_wp2_with (go_at_call 36; fail)
      refine (unhide HP).mono ?_
      rintro e w2 ⟨a1, c1, rfl, r1, b2⟩
      have HR1 := hide r1
      have HB2 := hide (low_trans (unhide HB) b2)
      clear r1 b2 HP
      go_wp2_with (go_at_call 37; fail)
      refine ((unhide HRR) _).mono ?_
      rintro e w3 ⟨a2, c2, rfl, r2, b3⟩
      have HST := hide (same_rows (ac := c1) (bc := c2) (by have := unhide HPF; omega) ((unhide HR1).low b3) r2)
      have HB3 := hide (low_trans (unhide HB2) b3)
      clear r2 b3 HRR HR1
      go_wp2_with (go_at_call 38; fail)
      refine (unhide HST).mono ?_
      rintro e w4 ⟨rfl, b4⟩
      have HB4 := hide (low_trans (unhide HB3) b4)
      clear b4 HST
      have K1 := hide (glob_any (P := pat) (S := s) (by omega) (by omega) w4)
      obtain ⟨m1, hm1⟩ : ∃ m1, matchR pat s = m1 := ⟨_, rfl⟩
      have K2 := hide (fun w => refGlob_any (p := pat) (s := s) (by omega) (by omega) w)
      rw [hm1] at K1 K2
      obtain ⟨m2, hm2⟩ : ∃ m2, matchL ts s = m2 := ⟨_, rfl⟩
      have K3 : Hid (∀ w', Below w.heap.size w w' → Calls Tryz.prog 41 #[.slice a n c, .string (ba s)] w' fun e w'' => e = .returned (.bool m2) ∧ Below w'.heap.size w' w'') := hide (fun w' hb => by
        rw [← hm2]
        exact match_any ((unhide HG).low hb) ((unhide HT).low hb) (unhide HN) (by omega) (fun y hy => by have := (unhide HS) y hy; omega) (by omega))
      have K4 : Hid (∀ w', Below w.heap.size w w' → Calls Tryz.prog 42 #[.slice a n c, .string (ba s)] w' fun e w'' => e = .returned (.bool m2) ∧ Below w'.heap.size w' w'') := hide (fun w' hb => by
        rw [← hm2]
        exact refMatch_any ((unhide HT).low hb) (unhide HN) (by omega) (unhide HS) (by omega))
      clear hm1 hm2
      go_wp2_with (first | (go_at_call 15; refine (num_any _ _).mono ?_; rintro e w9 ⟨rfl, hw⟩; rw [hw]; clear hw w9) | (go_at_call 39; fail))
      refine (unhide K1).mono ?_
      rintro e w5 ⟨rfl, n5, rfl⟩
      have HB5 := hide (low_drewN (unhide HB4) n5)
      go_wp2_with (go_at_call 40; fail)
      refine ((unhide K2) _).mono ?_
      rintro e w6 ⟨rfl, b6⟩
      have HB6 := hide (low_trans (unhide HB5) b6)
      clear b6
      go_wp2_with (go_at_call 41; fail)
      refine ((unhide K3) _ (unhide HB6)).mono ?_
      rintro e w7 ⟨rfl, b7⟩
      have HB7 := hide (low_trans (unhide HB6) b7)
      clear b7
      go_wp2_with (go_at_call 42; fail)
      refine ((unhide K4) _ (unhide HB7)).mono ?_
      rintro e w8 ⟨rfl, b8⟩
      have HB8 := hide (low_trans (unhide HB7) b8)
      clear b8
      go_wp2
      go_ret
      exact ⟨ret_bool (by simp), unhide HB8⟩

end Go.Proofs.YthcafeoamabkgaaGreatDoor
