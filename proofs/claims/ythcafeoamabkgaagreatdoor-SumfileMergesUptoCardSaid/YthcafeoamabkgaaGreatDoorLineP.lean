/-
  A lock's line, as a plain function; pieces, readLine.
-/
import Derived.Test.YthcafeoamabkgaaGreatDoorSumP
import Derived.Test.YthcafeoamabkgaaGreatDoorMatch
import Derived.RegionTactic
import Derived.BigRegion
namespace Go.Proofs.YthcafeoamabkgaaGreatDoor
open Go.RowKit

/-- A lock's line. -/
structure Ln where
  p : Str
  v : Str
  k : Int
  s : Str

abbrev lnV (x : Ln) : Value := .agg #[.string (ba x.p), .string (ba x.v), .int .i64 x.k, .string (ba x.s)]
def noLn : Ln := ⟨[], [], 0, []⟩
def gmL : Str := [47, 103, 111, 46, 109, 111, 100]

/-- So many pieces, and none is empty. -/
def fullB (n : Nat) (ps : List Str) : Bool := decide (ps.length = n) && !ps.contains []

def lineR (l : Str) : Option Ln :=
  if fullB 3 (pieces 32 l) then some ⟨(pieces 32 l).getD 0 [], Lib.trimSuffix ((pieces 32 l).getD 1 []) gmL, if Lib.hasSuffix ((pieces 32 l).getD 1 []) gmL then 1 else 0, (pieces 32 l).getD 2 []⟩ else none

theorem contains_is {ps : List Str} {B n c : Nat} {w : World} (ht : Texts w B ps) (hn : ps.length = n) (hN : n ≤ 1099511627776) :
    Calls Tryz.prog 142 #[.slice (some ⟨B, 0, none⟩) n c, .string (ba [])] w fun e w' => e = .returned (.bool (ps.contains [])) ∧ w' = w := by
  have h := Tryz.slices_Contains_string B 0 n c (ps.map ba) (ba []) w (by rw [List.length_map]; omega) (by omega) (fun j hj => by
    rw [List.length_map] at hj
    rw [Nat.zero_add, ht j hj]
    simp [List.getD, hj])
  have e : Lib.containsS ((ps.map ba).take n) (ba []) = ps.contains [] := by
    rw [List.take_of_length_le (by rw [List.length_map]; omega)]
    rw [Bool.eq_iff_iff, Lib.containsS_iff, List.mem_map]
    simp only [List.contains_iff_mem]
    constructor
    · rintro ⟨x, hx, he⟩; rw [ba_inj] at he; rw [← he]; exact hx
    · intro hx; exact ⟨[], hx, rfl⟩
  rw [e] at h
  exact h

theorem pieces_go {l : Str} {m : Nat} (_hm : m ≤ 10) (hl : l.length < 4294967281) {w : World} (hg : Gd w) : Calls Tryz.prog 97 #[.string (ba l), .int .i64 (m : Int)] w fun e w' =>
    ∃ B, e = .returned (.tuple #[.slice (some ⟨B, 0, none⟩) (pieces 32 l).length (pieces 32 l).length, .bool (fullB m (pieces 32 l))]) ∧ Texts w' B (pieces 32 l) ∧ (B < w'.heap.size ∧ w.heap.size ≤ B) ∧ Bel w.heap.size w w' := by
  have HS := hide (split_any 32 hl hg)
  have hpc : (pieces 32 l).length ≤ l.length + 2 := by
    have h1 := pieces_length 32 l
    have h2 := Lib.count_le l [32]
    omega
  obtain ⟨ps, hps⟩ : ∃ ps, pieces 32 l = ps := ⟨_, rfl⟩
  rw [hps] at HS hpc ⊢
  clear hps hg
  by_cases hq : ps.length = m
  · have hq2 : ((ps.length : Int) == (m : Int)) = true := by simp; omega
    have HV : Hid (fullB m ps = !ps.contains []) := by show fullB m _ = _; unfold fullB; simp [hq]
    clear hq
    go_enter Tryz.func97, Tryz.ntmps97
    go_wp2_with (go_at_call 76; fail)
    refine (unhide HS).mono ?_
    rintro e w1 ⟨B, rfl, htx, hB, b1⟩
    have HC := hide (contains_is (c := ps.length) htx rfl (by omega))
    have HX : Hid (Texts w1 B ps ∧ (B < w1.heap.size ∧ w.heap.size ≤ B) ∧ Bel w.heap.size w w1) := ⟨htx, hB, b1⟩
    clear htx hB b1
    obtain ⟨b, hb⟩ : ∃ b, ps.contains [] = b := ⟨_, rfl⟩
    rw [hb] at HC HV
    clear hb
    go_wp2_with (go_at_call 142; fail)
    refine (unhide HC).mono ?_
    rintro e w2 ⟨rfl, hw⟩
    rw [hw]; clear hw w2
    go_wp2
    go_ret2
    exact ⟨B, by rw [unhide HV]; rfl, unhide HX⟩
  · have hq2 : ((ps.length : Int) == (m : Int)) = false := by simp; omega
    have hq3 : ¬ (ps.length : Int) = (m : Int) := by omega
    have HV : Hid (fullB m ps = false) := by show fullB m _ = _; unfold fullB; simp [hq]
    go_enter Tryz.func97, Tryz.ntmps97
    go_wp2_with (go_at_call 76; fail)
    refine (unhide HS).mono ?_
    rintro e w1 ⟨B, rfl, htx, hB, b1⟩
    have HX : Hid (Texts w1 B ps ∧ (B < w1.heap.size ∧ w.heap.size ≤ B) ∧ Bel w.heap.size w w1) := ⟨htx, hB, b1⟩
    clear htx hB b1
    go_wp2
    go_ret2
    exact ⟨B, by rw [unhide HV]; rfl, unhide HX⟩

end Go.Proofs.YthcafeoamabkgaaGreatDoor
