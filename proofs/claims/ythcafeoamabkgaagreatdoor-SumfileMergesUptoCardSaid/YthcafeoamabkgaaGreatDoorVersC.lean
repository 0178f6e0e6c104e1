/-
  The contracts of parse, ValidVersion, Parts.
-/
import Derived.Test.YthcafeoamabkgaaGreatDoorVersB
namespace Go.Proofs.YthcafeoamabkgaaGreatDoor
open Go.RowKit

def numV (o : Option (Nat × Nat × Nat)) : Value :=
  match o with
  | some (a, b, c) => .tuple #[.agg #[.int .i64 (a : Int), .int .i64 (b : Int), .int .i64 (c : Int)], .bool true]
  | none => .tuple #[.agg #[.int .i64 0, .int .i64 0, .int .i64 0], .bool false]

theorem parseNumbers_any {l : Str} (hl : l.length < 4294967281) {w : World} (hg : Gd w) : Gives 217 #[.string (ba l)] w (numV (numsOf (pieces 46 l))) := by
  by_cases h3 : (pieces 46 l).length = 3
  · have h := parseNumbers_three hl h3 hg
    have e : numsV (pieces 46 l) = numV (numsOf (pieces 46 l)) := by
      generalize pieces 46 l = ps at h3
      match ps, h3 with
      | [x, y, z], _ =>
        unfold numsV numsOf
        cases hx : numOk x <;> cases hy : numOk y <;> cases hz : numOk z <;> simp [numV, hx, hy, hz, numsA]
    rw [← e]; exact h
  · have h := parseNumbers_len hl h3 hg
    have e : numsOf (pieces 46 l) = none := by
      generalize pieces 46 l = ps at h3
      match ps, h3 with
      | [], _ => rfl
      | [_], _ => rfl
      | [_, _], _ => rfl
      | [_, _, _], h => exact absurd rfl h
      | _ :: _ :: _ :: _ :: _, _ => rfl
    rw [e]; exact h

def verV (o : Option Ver) : Value :=
  match o with
  | some x => .tuple #[.agg #[.int .i64 (x.a : Int), .int .i64 (x.b : Int), .int .i64 (x.c : Int), .string (ba x.pre)], .bool true]
  | none => .tuple #[.agg #[.int .i64 0, .int .i64 0, .int .i64 0, .string ⟨#[]⟩], .bool false]

theorem cut_any (c : UInt8) {l : Str} (hl : l.length < 4294967281) {w : World} (hg : Gd w) : Calls Tryz.prog 96 #[.string (ba l), .string (ba [c])] w fun e w' => e = .returned (.tuple #[.string (ba (ahead c l)), .string (ba (behind c l)), .bool (l.contains c)]) ∧ Bel w.heap.size w w' := by
  obtain ⟨m, hm⟩ := hg.ml
  refine (Tryz.strings_Cut (ba l) (ba [c]) m w (by rw [ba_size]; exact hl) hm).mono ?_
  rintro e w' ⟨rfl, n, rfl⟩
  refine ⟨?_, below_drewN (Bel.refl _ _) n⟩
  rw [ba_data, ba_data, cut_eq]
  rfl

theorem ver_long {v : Str} (h : 60 < v.length) (w : World) : Gives 171 #[.string (ba v)] w (verV none) := by
  unfold Gives verV
  have hsz : (ba v).size = v.length := ba_size v
  have hq : (60 : Int) < v.length := by omega
  go_enter Tryz.func171, Tryz.ntmps171
  go_wp2
  exact bodyPost_ret (v := .tuple #[.agg #[.int .i64 0, .int .i64 0, .int .i64 0, .string ⟨#[]⟩], .bool false]) (by simp [results, Tryz.results171, go_sem]) rfl ⟨rfl, (Bel.refl _ _).alloc (Nat.le_refl _) _⟩

theorem ver_head {v : Str} (h : v.length ≤ 60) (h2 : Lib.hasPrefix v [118] = false) (w : World) : Gives 171 #[.string (ba v)] w (verV none) := by
  unfold Gives verV
  have hsz : (ba v).size = v.length := ba_size v
  have hq : ¬ (60 : Int) < v.length := by omega
  have H2 := hide h2
  clear h2
  go_enter Tryz.func171, Tryz.ntmps171
  go_wp2_with (go_at_call 106; refine (Tryz.strings_HasPrefix (ba v) (ba [118]) _).mono ?_; rintro e w1 ⟨rfl, rfl⟩; rw [ba_data, ba_data, unhide H2])
  exact bodyPost_ret (v := .tuple #[.agg #[.int .i64 0, .int .i64 0, .int .i64 0, .string ⟨#[]⟩], .bool false]) (by simp [results, Tryz.results171, go_sem]) rfl ⟨rfl, (Bel.refl _ _).alloc (Nat.le_refl _) _⟩


theorem cut_rest (rest : Str) : (ba (118 :: rest)).extract 1 (rest.length + 1) = ba rest := by
  rw [Lib.extract_eq, ba_data]
  simp [ba]

/-- The value of the struct, and whether it is a version. -/
def verCells (o : Option Ver) : Array Value :=
  match o with
  | some x => #[.int .i64 (x.a : Int), .int .i64 (x.b : Int), .int .i64 (x.c : Int), .string (ba x.pre)]
  | none => #[.int .i64 0, .int .i64 0, .int .i64 0, .string ⟨#[]⟩]
theorem verV_eq (o : Option Ver) : verV o = .tuple #[.agg (verCells o), .bool o.isSome] := by cases o <;> rfl

theorem prefix_ok {rest : Str} (w : World) : Calls Tryz.prog 106 #[.string (ba (118 :: rest)), .string (ba [118])] w fun e w' => e = .returned (.bool true) ∧ w' = w := by
  refine (Tryz.strings_HasPrefix (ba (118 :: rest)) (ba [118]) w).mono ?_
  rintro e w1 ⟨rfl, rfl⟩
  exact ⟨retv (by simp [ba, Lib.hasPrefix, List.isPrefixOf]), rfl⟩

theorem ahead_le (c : UInt8) (l : Str) : (ahead c l).length ≤ l.length := (List.takeWhile_sublist _).length_le
theorem behind_le (c : UInt8) (l : Str) : (behind c l).length ≤ l.length := by
  unfold behind
  have h1 : ((l.dropWhile fun b => b != c)).length ≤ l.length := (List.dropWhile_sublist _).length_le
  simp; omega

set_option maxHeartbeats 1000000 in
theorem ver_nums {rest : Str} (h : rest.length + 1 ≤ 60) (hn : numsOf (pieces 46 (ahead 45 rest)) = none) {w : World} (hg : Gd w) : Gives 171 #[.string (ba (118 :: rest))] w (verV none) := by
  unfold Gives
  have hsz : (ba (118 :: rest)).size = rest.length + 1 := ba_size _
  have hq : ¬ (60 : Int) < (rest.length : Int) + 1 := by omega
  have hr := cut_rest rest
  have H2 := hide hn
  have b0 : ∀ o, Bel w.heap.size w (w.alloc o) := fun o => (Bel.refl _ _).alloc (Nat.le_refl _) _
  clear hn
  go_enter Tryz.func171, Tryz.ntmps171
  go_wp2_with (first | (go_at_call 106; refine (prefix_ok _).mono ?_; rintro e w1 ⟨rfl, hw⟩; subst hw) | (go_at_call 96; refine (cut_any 45 (by omega) (hg.below (b0 _))).mono ?_))
  rintro e w2 ⟨rfl, b2⟩
  have hl1 := ahead_le 45 rest
  have hl2 := behind_le 45 rest
  go_wp2_with (go_at_call 217; refine (parseNumbers_any (by omega) ((hg.below (b0 _)).below b2)).mono ?_)
  rintro e w3 ⟨rfl, b3⟩
  have g3 := hide (((hg.below (b0 _)).below b2).below b3)
  rw [unhide H2]
  unfold numV
  have k1 := ((Blk.new w #[.int .i64 0, .int .i64 0, .int .i64 0, .string ⟨#[]⟩] 205).below b2).below b3
  have hb := ((b0 (.cells #[.int .i64 0, .int .i64 0, .int .i64 0, .string ⟨#[]⟩] 205)).trans (b2.mono (b0 _).size)).trans (b3.mono ((b0 (.cells #[.int .i64 0, .int .i64 0, .int .i64 0, .string ⟨#[]⟩] 205)).trans (b2.mono (b0 _).size)).size)
  have hlt := k1.lt
  have hne : ¬ w.heap.size = w3.heap.size := by omega
  have HB := hide hb
  have K1 := hide k1
  have c0 := (unhide K1).cell 0
  have c1 := (unhide K1).cell 1
  have c2 := (unhide K1).cell 2
  have c3 := (unhide K1).cell 3
  have f0 := (unhide K1).free 0
  have f1 := (unhide K1).free 1
  have f2 := (unhide K1).free 2
  have f3 := (unhide K1).free 3
  simp at c0 c1 c2 c3
  clear b2 b3 hl1 k1 hb b0
  go_wp2
  exact bodyPost_ret (v := .tuple #[.agg #[.int .i64 0, .int .i64 0, .int .i64 0, .string ⟨#[]⟩], .bool false]) (by simp [results, Tryz.results171, go_sem, c0, c1, c2, c3, hlt]) rfl ⟨rfl, (((((unhide HB).setCell (Nat.le_refl _) _).setCell (Nat.le_refl _) _).setCell (Nat.le_refl _) _).setCell (Nat.le_refl _) _).alloc (by simp; omega) _⟩

set_option maxHeartbeats 1000000 in
theorem ver_bare {rest : Str} {a b c : Nat} (h : rest.length + 1 ≤ 60) (hn : numsOf (pieces 46 (ahead 45 rest)) = some (a, b, c)) (hc : ¬ 45 ∈ rest) {w : World} (hg : Gd w) : Gives 171 #[.string (ba (118 :: rest))] w (.tuple #[.agg #[.int .i64 (a : Int), .int .i64 (b : Int), .int .i64 (c : Int), .string (ba (behind 45 rest))], .bool true]) := by
  unfold Gives
  have hsz : (ba (118 :: rest)).size = rest.length + 1 := ba_size _
  have hq : ¬ (60 : Int) < (rest.length : Int) + 1 := by omega
  have hr := cut_rest rest
  have H2 := hide hn
  have b0 : ∀ o, Bel w.heap.size w (w.alloc o) := fun o => (Bel.refl _ _).alloc (Nat.le_refl _) _
  clear hn
  go_enter Tryz.func171, Tryz.ntmps171
  go_wp2_with (first | (go_at_call 106; refine (prefix_ok _).mono ?_; rintro e w1 ⟨rfl, hw⟩; subst hw) | (go_at_call 96; refine (cut_any 45 (by omega) (hg.below (b0 _))).mono ?_))
  rintro e w2 ⟨rfl, b2⟩
  have hl1 := ahead_le 45 rest
  have hl2 := behind_le 45 rest
  go_wp2_with (go_at_call 217; refine (parseNumbers_any (by omega) ((hg.below (b0 _)).below b2)).mono ?_)
  rintro e w3 ⟨rfl, b3⟩
  have g3 := hide (((hg.below (b0 _)).below b2).below b3)
  rw [unhide H2]
  unfold numV
  have k1 := ((Blk.new w #[.int .i64 0, .int .i64 0, .int .i64 0, .string ⟨#[]⟩] 205).below b2).below b3
  have hb := ((b0 (.cells #[.int .i64 0, .int .i64 0, .int .i64 0, .string ⟨#[]⟩] 205)).trans (b2.mono (b0 _).size)).trans (b3.mono ((b0 (.cells #[.int .i64 0, .int .i64 0, .int .i64 0, .string ⟨#[]⟩] 205)).trans (b2.mono (b0 _).size)).size)
  have hlt := k1.lt
  have hne : ¬ w.heap.size = w3.heap.size := by omega
  have HB := hide hb
  have K1 := hide k1
  have c0 := (unhide K1).cell 0
  have c1 := (unhide K1).cell 1
  have c2 := (unhide K1).cell 2
  have c3 := (unhide K1).cell 3
  have f0 := (unhide K1).free 0
  have f1 := (unhide K1).free 1
  have f2 := (unhide K1).free 2
  have f3 := (unhide K1).free 3
  simp at c0 c1 c2 c3
  clear b2 b3 hl1 k1 hb b0
  go_wp2
  exact bodyPost_ret (v := .tuple #[.agg #[.int .i64 (a : Int), .int .i64 (b : Int), .int .i64 (c : Int), .string (ba (behind 45 rest))], .bool true]) (by simp [results, Tryz.results171, go_sem, c0, c1, c2, c3, hlt]) rfl ⟨rfl, (((((unhide HB).setCell (Nat.le_refl _) _).setCell (Nat.le_refl _) _).setCell (Nat.le_refl _) _).setCell (Nat.le_refl _) _).alloc (by simp; omega) _⟩

set_option maxHeartbeats 1000000 in
theorem ver_pre {rest : Str} {a b c : Nat} (h : rest.length + 1 ≤ 60) (hn : numsOf (pieces 46 (ahead 45 rest)) = some (a, b, c)) (hc : 45 ∈ rest) (hv : validPreB (behind 45 rest) = true) {w : World} (hg : Gd w) : Gives 171 #[.string (ba (118 :: rest))] w (.tuple #[.agg #[.int .i64 (a : Int), .int .i64 (b : Int), .int .i64 (c : Int), .string (ba (behind 45 rest))], .bool true]) := by
  have HV := hide hv
  clear hv
  unfold Gives
  have hsz : (ba (118 :: rest)).size = rest.length + 1 := ba_size _
  have hq : ¬ (60 : Int) < (rest.length : Int) + 1 := by omega
  have hr := cut_rest rest
  have H2 := hide hn
  have b0 : ∀ o, Bel w.heap.size w (w.alloc o) := fun o => (Bel.refl _ _).alloc (Nat.le_refl _) _
  clear hn
  go_enter Tryz.func171, Tryz.ntmps171
  go_wp2_with (first | (go_at_call 106; refine (prefix_ok _).mono ?_; rintro e w1 ⟨rfl, hw⟩; subst hw) | (go_at_call 96; refine (cut_any 45 (by omega) (hg.below (b0 _))).mono ?_))
  rintro e w2 ⟨rfl, b2⟩
  have hl1 := ahead_le 45 rest
  have hl2 := behind_le 45 rest
  go_wp2_with (go_at_call 217; refine (parseNumbers_any (by omega) ((hg.below (b0 _)).below b2)).mono ?_)
  rintro e w3 ⟨rfl, b3⟩
  have g3 := hide (((hg.below (b0 _)).below b2).below b3)
  rw [unhide H2]
  unfold numV
  have k1 := ((Blk.new w #[.int .i64 0, .int .i64 0, .int .i64 0, .string ⟨#[]⟩] 205).below b2).below b3
  have hb := ((b0 (.cells #[.int .i64 0, .int .i64 0, .int .i64 0, .string ⟨#[]⟩] 205)).trans (b2.mono (b0 _).size)).trans (b3.mono ((b0 (.cells #[.int .i64 0, .int .i64 0, .int .i64 0, .string ⟨#[]⟩] 205)).trans (b2.mono (b0 _).size)).size)
  have hlt := k1.lt
  have hne : ¬ w.heap.size = w3.heap.size := by omega
  have HB := hide hb
  have K1 := hide k1
  clear b2 b3 hl1 k1 hb b0
  have b4 : Bel w3.heap.size w3 (w3.alloc (.cells #[.int .i64 (a : Int), .int .i64 (b : Int), .int .i64 (c : Int)] 203)) := (Bel.refl _ _).alloc (Nat.le_refl _) _
  go_wp2_with (go_at_call 218; refine (validPre_any (by omega) ((unhide g3).below b4)).mono ?_)
  rintro e w5 ⟨rfl, b5⟩
  rw [unhide HV]
  have k5 := ((unhide K1).below b4).below b5
  have m5 := (Blk.new w3 #[.int .i64 (a : Int), .int .i64 (b : Int), .int .i64 (c : Int)] 203).below b5
  have hb4 := (unhide HB).trans (b4.mono (unhide HB).size)
  have hb5 := hb4.trans (b5.mono hb4.size)
  have c0 := k5.cell 0
  have c1 := k5.cell 1
  have c2 := k5.cell 2
  have c3 := k5.cell 3
  have f0 := k5.free 0
  have f1 := k5.free 1
  have f2 := k5.free 2
  have f3 := k5.free 3
  have d0 := m5.cell 0
  have d1 := m5.cell 1
  have d2 := m5.cell 2
  simp at c0 c1 c2 c3 d0 d1 d2
  have HC := hide hb5
  clear b4 b5 k5 m5 hb4 hb5
  go_wp2
  exact bodyPost_ret (v := .tuple #[.agg #[.int .i64 (a : Int), .int .i64 (b : Int), .int .i64 (c : Int), .string (ba (behind 45 rest))], .bool true]) (by simp [results, Tryz.results171, go_sem, c0, c1, c2, c3]) rfl ⟨rfl, ((((unhide HC).setCell (Nat.le_refl _) _).setCell (Nat.le_refl _) _).setCell (Nat.le_refl _) _).setCell (Nat.le_refl _) _⟩

set_option maxHeartbeats 1000000 in
theorem ver_bad {rest : Str} {a b c : Nat} (h : rest.length + 1 ≤ 60) (hn : numsOf (pieces 46 (ahead 45 rest)) = some (a, b, c)) (hc : 45 ∈ rest) (hv : validPreB (behind 45 rest) = false) {w : World} (hg : Gd w) : Gives 171 #[.string (ba (118 :: rest))] w (verV none) := by
  have HV := hide hv
  clear hv
  unfold Gives
  have hsz : (ba (118 :: rest)).size = rest.length + 1 := ba_size _
  have hq : ¬ (60 : Int) < (rest.length : Int) + 1 := by omega
  have hr := cut_rest rest
  have H2 := hide hn
  have b0 : ∀ o, Bel w.heap.size w (w.alloc o) := fun o => (Bel.refl _ _).alloc (Nat.le_refl _) _
  clear hn
  go_enter Tryz.func171, Tryz.ntmps171
  go_wp2_with (first | (go_at_call 106; refine (prefix_ok _).mono ?_; rintro e w1 ⟨rfl, hw⟩; subst hw) | (go_at_call 96; refine (cut_any 45 (by omega) (hg.below (b0 _))).mono ?_))
  rintro e w2 ⟨rfl, b2⟩
  have hl1 := ahead_le 45 rest
  have hl2 := behind_le 45 rest
  go_wp2_with (go_at_call 217; refine (parseNumbers_any (by omega) ((hg.below (b0 _)).below b2)).mono ?_)
  rintro e w3 ⟨rfl, b3⟩
  have g3 := hide (((hg.below (b0 _)).below b2).below b3)
  rw [unhide H2]
  unfold numV
  have k1 := ((Blk.new w #[.int .i64 0, .int .i64 0, .int .i64 0, .string ⟨#[]⟩] 205).below b2).below b3
  have hb := ((b0 (.cells #[.int .i64 0, .int .i64 0, .int .i64 0, .string ⟨#[]⟩] 205)).trans (b2.mono (b0 _).size)).trans (b3.mono ((b0 (.cells #[.int .i64 0, .int .i64 0, .int .i64 0, .string ⟨#[]⟩] 205)).trans (b2.mono (b0 _).size)).size)
  have hlt := k1.lt
  have hne : ¬ w.heap.size = w3.heap.size := by omega
  have HB := hide hb
  have K1 := hide k1
  clear b2 b3 hl1 k1 hb b0
  have b4 : Bel w3.heap.size w3 (w3.alloc (.cells #[.int .i64 (a : Int), .int .i64 (b : Int), .int .i64 (c : Int)] 203)) := (Bel.refl _ _).alloc (Nat.le_refl _) _
  go_wp2_with (go_at_call 218; refine (validPre_any (by omega) ((unhide g3).below b4)).mono ?_)
  rintro e w5 ⟨rfl, b5⟩
  rw [unhide HV]
  have k5 := ((unhide K1).below b4).below b5
  have m5 := (Blk.new w3 #[.int .i64 (a : Int), .int .i64 (b : Int), .int .i64 (c : Int)] 203).below b5
  have hb4 := (unhide HB).trans (b4.mono (unhide HB).size)
  have hb5 := hb4.trans (b5.mono hb4.size)
  have c0 := k5.cell 0
  have c1 := k5.cell 1
  have c2 := k5.cell 2
  have c3 := k5.cell 3
  have f0 := k5.free 0
  have f1 := k5.free 1
  have f2 := k5.free 2
  have f3 := k5.free 3
  have d0 := m5.cell 0
  have d1 := m5.cell 1
  have d2 := m5.cell 2
  simp at c0 c1 c2 c3 d0 d1 d2
  have HC := hide hb5
  clear b4 b5 k5 m5 hb4 hb5
  go_wp2
  exact bodyPost_ret (v := .tuple #[.agg #[.int .i64 0, .int .i64 0, .int .i64 0, .string ⟨#[]⟩], .bool false]) (by simp [results, Tryz.results171, go_sem, c0, c1, c2, c3]) rfl ⟨rfl, ((((unhide HC).setCell (Nat.le_refl _) _).setCell (Nat.le_refl _) _).setCell (Nat.le_refl _) _).setCell (Nat.le_refl _) _⟩

theorem parse_any (v : Str) {w : World} (hg : Gd w) : Gives 171 #[.string (ba v)] w (verV (parseV v)) := by
  by_cases hl : v.length ≤ 60
  · cases hp : Lib.hasPrefix v [118] with
    | false =>
      have e : parseV v = none := by
        unfold parseV
        rw [if_pos hl]
        split
        · simp [Lib.hasPrefix, List.isPrefixOf] at hp
        · rfl
      rw [e]; exact ver_head hl hp w
    | true =>
      obtain ⟨rest, rfl⟩ : ∃ rest, v = 118 :: rest := by
        cases v with
        | nil => simp [Lib.hasPrefix] at hp
        | cons b l => simp [Lib.hasPrefix, List.isPrefixOf] at hp; exact ⟨l, by rw [hp]⟩
      have hl' : rest.length + 1 ≤ 60 := by simpa using hl
      have e : parseV (118 :: rest) = parseR rest := by unfold parseV; rw [if_pos hl]; rfl
      rw [e]
      unfold parseR
      cases hn : numsOf (pieces 46 (ahead 45 rest)) with
      | none => exact ver_nums hl' hn hg
      | some x =>
        obtain ⟨a, b, c⟩ := x
        simp only
        cases hc : rest.contains 45 with
        | false =>
          have hc' : ¬ 45 ∈ rest := by rw [← List.contains_iff_mem, hc]; decide
          exact ver_bare hl' hn hc' hg
        | true =>
          have hc' : 45 ∈ rest := by rw [← List.contains_iff_mem, hc]
          cases hv : validPreB (behind 45 rest) with
          | true => exact ver_pre hl' hn hc' hv hg
          | false => exact ver_bad hl' hn hc' hv hg
  · have e : parseV v = none := by unfold parseV; rw [if_neg hl]
    rw [e]; exact ver_long (by omega) w

end Go.Proofs.YthcafeoamabkgaaGreatDoor
