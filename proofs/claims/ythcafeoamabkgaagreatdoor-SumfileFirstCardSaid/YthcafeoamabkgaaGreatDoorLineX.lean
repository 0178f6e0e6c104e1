/-
  readLine.
-/
import Derived.Test.YthcafeoamabkgaaGreatDoorSumP
import Derived.Test.YthcafeoamabkgaaGreatDoorMatX
import Derived.RegionTactic
import Derived.BigRegion
import Derived.Test.YthcafeoamabkgaaGreatDoorVersX
namespace Go.Proofs.YthcafeoamabkgaaGreatDoor
open Go.RowKit

/-- A lock's line. -/
structure Ln where
  p : Str
  v : Str
  k : Int
  s : Str

abbrev lnV (x : Ln) : Value := .agg #[.string (ba x.p), .string (ba x.v), .int .i64 x.k, .string (ba x.s)]
def noLn : Ln := ⟨[], [], 0, []⟩
def gmL : Str := [47, 103, 111, 46, 109, 111, 100]

/-- So many pieces, and none is empty. -/
def fullB (n : Nat) (ps : List Str) : Bool := decide (ps.length = n) && !ps.contains []

def lineR (l : Str) : Option Ln :=
  if fullB 3 (pieces 32 l) then some ⟨(pieces 32 l).getD 0 [], Lib.trimSuffix ((pieces 32 l).getD 1 []) gmL, if Lib.hasSuffix ((pieces 32 l).getD 1 []) gmL then 1 else 0, (pieces 32 l).getD 2 []⟩ else none

theorem contains_is {ps : List Str} {B n c : Nat} {w : World} (ht : Texts w B ps) (hn : ps.length = n) (hN : n ≤ 1099511627776) :
    Calls Tryz.prog 142 #[.slice (some ⟨B, 0, none⟩) n c, .string (ba [])] w fun e w' => e = .returned (.bool (ps.contains [])) ∧ w' = w := by
  have h := Tryz.slices_Contains_string B 0 n c (ps.map ba) (ba []) w (by rw [List.length_map]; omega) (by omega) (fun j hj => by
    rw [List.length_map] at hj
    rw [Nat.zero_add, ht j hj]
    simp [List.getD, hj])
  have e : Lib.containsS ((ps.map ba).take n) (ba []) = ps.contains [] := by
    rw [List.take_of_length_le (by rw [List.length_map]; omega)]
    rw [Bool.eq_iff_iff, Lib.containsS_iff, List.mem_map]
    simp only [List.contains_iff_mem]
    constructor
    · rintro ⟨x, hx, he⟩; rw [ba_inj] at he; rw [← he]; exact hx
    · intro hx; exact ⟨[], hx, rfl⟩
  rw [e] at h
  exact h

theorem pieces_go {l : Str} {m : Nat} (_hm : m ≤ 10) (hl : l.length < 4294967281) {w : World} (hg : Gd w) : Calls Tryz.prog 97 #[.string (ba l), .int .i64 (m : Int)] w fun e w' =>
    ∃ B, e = .returned (.tuple #[.slice (some ⟨B, 0, none⟩) (pieces 32 l).length (pieces 32 l).length, .bool (fullB m (pieces 32 l))]) ∧ Texts w' B (pieces 32 l) ∧ (B < w'.heap.size ∧ w.heap.size ≤ B) ∧ Bel w.heap.size w w' := by
  have HS := hide (split_any 32 hl hg)
  have hpc : (pieces 32 l).length ≤ l.length + 2 := by
    have h1 := pieces_length 32 l
    have h2 := Lib.count_le l [32]
    omega
  obtain ⟨ps, hps⟩ : ∃ ps, pieces 32 l = ps := ⟨_, rfl⟩
  rw [hps] at HS hpc ⊢
  clear hps hg
  by_cases hq : ps.length = m
  · have hq2 : ((ps.length : Int) == (m : Int)) = true := by simp; omega
    have HV : Hid (fullB m ps = !ps.contains []) := by show fullB m _ = _; unfold fullB; simp [hq]
    clear hq
    go_enter Tryz.func97, Tryz.ntmps97
    go_wp2_with (go_at_call 76; fail)
    refine (unhide HS).mono ?_
    rintro e w1 ⟨B, rfl, htx, hB, b1⟩
    have HC := hide (contains_is (c := ps.length) htx rfl (by omega))
    have HX : Hid (Texts w1 B ps ∧ (B < w1.heap.size ∧ w.heap.size ≤ B) ∧ Bel w.heap.size w w1) := ⟨htx, hB, b1⟩
    clear htx hB b1
    obtain ⟨b, hb⟩ : ∃ b, ps.contains [] = b := ⟨_, rfl⟩
    rw [hb] at HC HV
    clear hb
    go_wp2_with (go_at_call 142; fail)
    refine (unhide HC).mono ?_
    rintro e w2 ⟨rfl, hw⟩
    rw [hw]; clear hw w2
    go_wp2
    go_ret2
    exact ⟨B, by rw [unhide HV]; rfl, unhide HX⟩
  · have hq2 : ((ps.length : Int) == (m : Int)) = false := by simp; omega
    have hq3 : ¬ (ps.length : Int) = (m : Int) := by omega
    have HV : Hid (fullB m ps = false) := by show fullB m _ = _; unfold fullB; simp [hq]
    go_enter Tryz.func97, Tryz.ntmps97
    go_wp2_with (go_at_call 76; fail)
    refine (unhide HS).mono ?_
    rintro e w1 ⟨B, rfl, htx, hB, b1⟩
    have HX : Hid (Texts w1 B ps ∧ (B < w1.heap.size ∧ w.heap.size ≤ B) ∧ Bel w.heap.size w w1) := ⟨htx, hB, b1⟩
    clear htx hB b1
    go_wp2
    go_ret2
    exact ⟨B, by rw [unhide HV]; rfl, unhide HX⟩

end Go.Proofs.YthcafeoamabkgaaGreatDoor

namespace Go.Proofs.YthcafeoamabkgaaGreatDoor
open Go.RowKit

abbrev lnC (x : Ln) : Array Value := #[.string (ba x.p), .string (ba x.v), .int .i64 x.k, .string (ba x.s)]
abbrev zeroC : Array Value := #[.string ⟨#[]⟩, .string ⟨#[]⟩, .int .i64 0, .string ⟨#[]⟩]

theorem Blk.low {w w' : World} {b : Nat} {cs : Array Value} {t : TypeId} (h : Blk w b cs t) (hb : Below w.heap.size w w') : Blk w' b cs t := by
  have := h.lt
  unfold Blk at h ⊢
  rw [hb.block b this]; exact h

theorem Blk.set4 {w : World} {b : Nat} {x0 x1 x2 x3 : Value} {t : TypeId} (h : Blk w b #[x0, x1, x2, x3] t) (v0 v1 v2 v3 : Value) :
    Blk ((((w.setCell ⟨b, 0, none⟩ v0).setCell ⟨b, 1, none⟩ v1).setCell ⟨b, 2, none⟩ v2).setCell ⟨b, 3, none⟩ v3) b #[v0, v1, v2, v3] t := (((h.set 0 v0).set 1 v1).set 2 v2).set 3 v3

theorem low_set4 {B : Nat} {a w : World} {b : Nat} (hb : B ≤ b) (h : Below B a w) (v0 v1 v2 v3 : Value) : Below B a ((((w.setCell ⟨b, 0, none⟩ v0).setCell ⟨b, 1, none⟩ v1).setCell ⟨b, 2, none⟩ v2).setCell ⟨b, 3, none⟩ v3) :=
  (((h.setCell (p := ⟨b, 0, none⟩) hb _).setCell (p := ⟨b, 1, none⟩) hb _).setCell (p := ⟨b, 2, none⟩) hb _).setCell (p := ⟨b, 3, none⟩) hb _

theorem suffix7 {s : Str} (hs : s.length ≤ 1099511627776) {v : Str} {b : Bool} (hv : Lib.trimSuffix s gmL = v) (hb : Lib.hasSuffix s gmL = b) (w : World) :
    Calls Tryz.prog 66 #[.string (ba s), .string (ba gmL)] w fun e w' => e = .returned (.tuple #[.string (ba v), .bool b]) ∧ w' = w := by
  have := Tryz.strings_CutSuffix (ba s) (ba gmL) w (by rw [ba_size]; omega)
  rw [ba_data, ba_data, hv, hb] at this
  exact this

set_option maxHeartbeats 2000000 in
theorem readLine_any {l : Str} (hl : l.length < 4294967281) {w : World} (hg : Gd w) : Calls Tryz.prog 52 #[.string (ba l)] w fun e w' =>
    e = .returned (.tuple #[lnV ((lineR l).getD noLn), .bool (lineR l).isSome]) ∧ Below w.heap.size w w' := by
  have b0 : Bel w.heap.size w (w.alloc (.cells zeroC 38)) := (Bel.refl _ _).alloc (Nat.le_refl _) _
  have HP := hide (pieces_go (l := l) (m := 3) (by omega) hl (hg.below b0))
  have hsm := pieces_small 32 l
  obtain ⟨ps, hps⟩ : ∃ ps, pieces 32 l = ps := ⟨_, rfl⟩
  have HV : Hid (lineR l = if fullB 3 ps then some ⟨ps.getD 0 [], Lib.trimSuffix (ps.getD 1 []) gmL, if Lib.hasSuffix (ps.getD 1 []) gmL then 1 else 0, ps.getD 2 []⟩ else none) := by show lineR l = _; unfold lineR; rw [hps]
  rw [hps] at HP hsm
  clear hps hg
  cases hf : fullB 3 ps with
  | false =>
    rw [hf] at HP HV
    have HV' : Hid (lineR l = none) := by have := unhide HV; exact hide (by simpa using this)
    rw [unhide HV']
    clear hf HV hsm
    go_enter Tryz.func52, Tryz.ntmps52
    go_wp2_with (go_at_call 97; fail)
    refine (unhide HP).mono ?_
    rintro e w1 ⟨B, rfl, htx, hB, b1⟩
    have k1 : Blk w1 w.heap.size zeroC 38 := (Blk.new w _ _).below b1
    obtain ⟨c0, c1, c2, c3⟩ : w1.cell? ⟨w.heap.size, 0, none⟩ = some (.string ⟨#[]⟩) ∧ w1.cell? ⟨w.heap.size, 1, none⟩ = some (.string ⟨#[]⟩) ∧ w1.cell? ⟨w.heap.size, 2, none⟩ = some (.int .i64 0) ∧ w1.cell? ⟨w.heap.size, 3, none⟩ = some (.string ⟨#[]⟩) := ⟨k1.cell 0, k1.cell 1, k1.cell 2, k1.cell 3⟩
    obtain ⟨f0, f1, f2, f3⟩ : w1.frozen? ⟨w.heap.size, 0, none⟩ = false ∧ w1.frozen? ⟨w.heap.size, 1, none⟩ = false ∧ w1.frozen? ⟨w.heap.size, 2, none⟩ = false ∧ w1.frozen? ⟨w.heap.size, 3, none⟩ = false := ⟨k1.free 0, k1.free 1, k1.free 2, k1.free 3⟩
    have HK := hide k1
    have HB : Hid (Below w.heap.size w w1) := (b0.trans (b1.mono b0.size)).low
    clear htx hB b1 k1
    go_wp2
    obtain ⟨w2, hw2⟩ : ∃ w2, ((((w1.setCell ⟨w.heap.size, 0, none⟩ (.string ⟨#[]⟩)).setCell ⟨w.heap.size, 1, none⟩ (.string ⟨#[]⟩)).setCell ⟨w.heap.size, 2, none⟩ (.int .i64 0)).setCell ⟨w.heap.size, 3, none⟩ (.string ⟨#[]⟩)) = w2 := ⟨_, rfl⟩
    have k2 : Blk w2 w.heap.size zeroC 38 := by rw [← hw2]; exact (unhide HK).set4 _ _ _ _
    have b2 : Below w.heap.size w w2 := by rw [← hw2]; exact low_set4 (Nat.le_refl _) (unhide HB) _ _ _ _
    rw [hw2]
    have z0 : w2.cell? ⟨w.heap.size, 0, none⟩ = some (.string ⟨#[]⟩) := k2.cell 0
    have z1 : w2.cell? ⟨w.heap.size, 1, none⟩ = some (.string ⟨#[]⟩) := k2.cell 1
    have z2 : w2.cell? ⟨w.heap.size, 2, none⟩ = some (.int .i64 0) := k2.cell 2
    have z3 : w2.cell? ⟨w.heap.size, 3, none⟩ = some (.string ⟨#[]⟩) := k2.cell 3
    exact bodyPost_ret (v := .tuple #[lnV noLn, .bool false]) (by simp [results, Tryz.results52, go_sem, z0, z1, z2, z3, noLn, ba]) rfl ⟨rfl, b2⟩
  | true =>
    rw [hf] at HP HV
    obtain ⟨a, b, c, rfl⟩ : ∃ a b c, ps = [a, b, c] := by
      have hlen : ps.length = 3 := by
        unfold fullB at hf
        simp only [Bool.and_eq_true, decide_eq_true_eq] at hf
        exact hf.1
      match ps, hlen with
      | [a, b, c], _ => exact ⟨a, b, c, rfl⟩
    have hbs : b.length ≤ 1099511627776 := by have := hsm b (by simp); omega
    obtain ⟨v, hv⟩ : ∃ v, Lib.trimSuffix b gmL = v := ⟨_, rfl⟩
    obtain ⟨m, hm⟩ : ∃ m, Lib.hasSuffix b gmL = m := ⟨_, rfl⟩
    have HV' : Hid (lineR l = some ⟨a, v, if m then 1 else 0, c⟩) := by
      have := unhide HV
      simp only [List.getD_cons_zero, List.getD_cons_succ, if_true, hv, hm] at this
      exact hide this
    have HC := hide (fun w => suffix7 hbs hv hm w)
    rw [unhide HV']
    clear hf HV hsm hv hm hbs
    cases m with
    | true =>
      go_enter Tryz.func52, Tryz.ntmps52
      go_wp2_with (go_at_call 97; fail)
      refine (unhide HP).mono ?_
      rintro e w1 ⟨B, rfl, htx, hB, b1⟩
      have k1 : Blk w1 w.heap.size zeroC 38 := (Blk.new w _ _).below b1
      have t0 : w1.cell? ⟨B, 0, none⟩ = some (.string (ba a)) := htx 0 (by simp)
      have t1 : w1.cell? ⟨B, 1, none⟩ = some (.string (ba b)) := htx 1 (by simp)
      have t2 : w1.cell? ⟨B, 2, none⟩ = some (.string (ba c)) := htx 2 (by simp)
      have u0 : ∀ o, (w1.alloc o).cell? ⟨B, 0, none⟩ = some (.string (ba a)) := fun o => (((Below.refl _ _).alloc (Nat.le_refl _) o).cell (p := ⟨B, 0, none⟩) hB.1).trans t0
      have u2 : ∀ o, (w1.alloc o).cell? ⟨B, 2, none⟩ = some (.string (ba c)) := fun o => (((Below.refl _ _).alloc (Nat.le_refl _) o).cell (p := ⟨B, 2, none⟩) hB.1).trans t2
      have kA : ∀ o, Blk (w1.alloc o) w.heap.size zeroC 38 := fun o => k1.alloc o
      have c0 : ∀ o, (w1.alloc o).cell? ⟨w.heap.size, 0, none⟩ = some (.string ⟨#[]⟩) := fun o => (kA o).cell 0
      have f0 : ∀ o, (w1.alloc o).frozen? ⟨w.heap.size, 0, none⟩ = false := fun o => (kA o).free 0
      have c1 : ∀ x o, ((w1.setCell ⟨w.heap.size, 0, none⟩ x).alloc o).cell? ⟨w.heap.size, 1, none⟩ = some (.string ⟨#[]⟩) := fun x o => ((k1.set 0 x).alloc o).cell 1
      have f1 : ∀ x o, ((w1.setCell ⟨w.heap.size, 0, none⟩ x).alloc o).frozen? ⟨w.heap.size, 1, none⟩ = false := fun x o => ((k1.set 0 x).alloc o).free 1
      have c2 : ∀ x y o, (((w1.setCell ⟨w.heap.size, 0, none⟩ x).setCell ⟨w.heap.size, 1, none⟩ y).alloc o).cell? ⟨w.heap.size, 2, none⟩ = some (.int .i64 0) := fun x y o => (((k1.set 0 x).set 1 y).alloc o).cell 2
      have f2 : ∀ x y o, (((w1.setCell ⟨w.heap.size, 0, none⟩ x).setCell ⟨w.heap.size, 1, none⟩ y).alloc o).frozen? ⟨w.heap.size, 2, none⟩ = false := fun x y o => (((k1.set 0 x).set 1 y).alloc o).free 2
      have c3 : ∀ x y z o, ((((w1.setCell ⟨w.heap.size, 0, none⟩ x).setCell ⟨w.heap.size, 1, none⟩ y).setCell ⟨w.heap.size, 2, none⟩ z).alloc o).cell? ⟨w.heap.size, 3, none⟩ = some (.string ⟨#[]⟩) := fun x y z o => ((((k1.set 0 x).set 1 y).set 2 z).alloc o).cell 3
      have f3 : ∀ x y z o, ((((w1.setCell ⟨w.heap.size, 0, none⟩ x).setCell ⟨w.heap.size, 1, none⟩ y).setCell ⟨w.heap.size, 2, none⟩ z).alloc o).frozen? ⟨w.heap.size, 3, none⟩ = false := fun x y z o => ((((k1.set 0 x).set 1 y).set 2 z).alloc o).free 3
      have hlt := k1.lt
      have HK := hide k1
      have HB : Hid (Below w.heap.size w w1) := (b0.trans (b1.mono b0.size)).low
      clear htx hB b1 k1 kA
      go_wp2_with (go_at_call 66; fail)
      refine (unhide HC _).mono ?_
      rintro e w2 ⟨rfl, hw⟩
      rw [hw]; clear hw w2
      go_wp2
      go_region
      go_wp2
      obtain ⟨w2, hw2⟩ : ∃ w2, ((((w1.setCell ⟨w.heap.size, 0, none⟩ (.string (ba a))).setCell ⟨w.heap.size, 1, none⟩ (.string (ba v))).setCell ⟨w.heap.size, 2, none⟩ (.int .i64 1)).setCell ⟨w.heap.size, 3, none⟩ (.string (ba c))) = w2 := ⟨_, rfl⟩
      have k2 : Blk w2 w.heap.size (lnC ⟨a, v, 1, c⟩) 38 := by rw [← hw2]; exact (unhide HK).set4 _ _ _ _
      have b2 : Below w.heap.size w w2 := by rw [← hw2]; exact low_set4 (Nat.le_refl _) (unhide HB) _ _ _ _
      rw [hw2]
      have kB : ∀ o, Blk (w2.alloc o) w.heap.size (lnC ⟨a, v, 1, c⟩) 38 := fun o => k2.alloc o
      have z0 : ∀ o, (w2.alloc o).cell? ⟨w.heap.size, 0, none⟩ = some (.string (ba a)) := fun o => (kB o).cell 0
      have z1 : ∀ o, (w2.alloc o).cell? ⟨w.heap.size, 1, none⟩ = some (.string (ba v)) := fun o => (kB o).cell 1
      have z2 : ∀ o, (w2.alloc o).cell? ⟨w.heap.size, 2, none⟩ = some (.int .i64 1) := fun o => (kB o).cell 2
      have z3 : ∀ o, (w2.alloc o).cell? ⟨w.heap.size, 3, none⟩ = some (.string (ba c)) := fun o => (kB o).cell 3
      exact bodyPost_ret (v := .tuple #[lnV ⟨a, v, 1, c⟩, .bool true]) (by simp [results, Tryz.results52, go_sem, z0, z1, z2, z3]) rfl ⟨rfl, (b2.alloc b2.size _).drew⟩
    | false =>
      go_enter Tryz.func52, Tryz.ntmps52
      go_wp2_with (go_at_call 97; fail)
      refine (unhide HP).mono ?_
      rintro e w1 ⟨B, rfl, htx, hB, b1⟩
      have k1 : Blk w1 w.heap.size zeroC 38 := (Blk.new w _ _).below b1
      have t0 : w1.cell? ⟨B, 0, none⟩ = some (.string (ba a)) := htx 0 (by simp)
      have t1 : w1.cell? ⟨B, 1, none⟩ = some (.string (ba b)) := htx 1 (by simp)
      have t2 : w1.cell? ⟨B, 2, none⟩ = some (.string (ba c)) := htx 2 (by simp)
      have u0 : ∀ o, (w1.alloc o).cell? ⟨B, 0, none⟩ = some (.string (ba a)) := fun o => (((Below.refl _ _).alloc (Nat.le_refl _) o).cell (p := ⟨B, 0, none⟩) hB.1).trans t0
      have u2 : ∀ o, (w1.alloc o).cell? ⟨B, 2, none⟩ = some (.string (ba c)) := fun o => (((Below.refl _ _).alloc (Nat.le_refl _) o).cell (p := ⟨B, 2, none⟩) hB.1).trans t2
      have kA : ∀ o, Blk (w1.alloc o) w.heap.size zeroC 38 := fun o => k1.alloc o
      have c0 : ∀ o, (w1.alloc o).cell? ⟨w.heap.size, 0, none⟩ = some (.string ⟨#[]⟩) := fun o => (kA o).cell 0
      have f0 : ∀ o, (w1.alloc o).frozen? ⟨w.heap.size, 0, none⟩ = false := fun o => (kA o).free 0
      have c1 : ∀ x o, ((w1.setCell ⟨w.heap.size, 0, none⟩ x).alloc o).cell? ⟨w.heap.size, 1, none⟩ = some (.string ⟨#[]⟩) := fun x o => ((k1.set 0 x).alloc o).cell 1
      have f1 : ∀ x o, ((w1.setCell ⟨w.heap.size, 0, none⟩ x).alloc o).frozen? ⟨w.heap.size, 1, none⟩ = false := fun x o => ((k1.set 0 x).alloc o).free 1
      have c2 : ∀ x y o, (((w1.setCell ⟨w.heap.size, 0, none⟩ x).setCell ⟨w.heap.size, 1, none⟩ y).alloc o).cell? ⟨w.heap.size, 2, none⟩ = some (.int .i64 0) := fun x y o => (((k1.set 0 x).set 1 y).alloc o).cell 2
      have f2 : ∀ x y o, (((w1.setCell ⟨w.heap.size, 0, none⟩ x).setCell ⟨w.heap.size, 1, none⟩ y).alloc o).frozen? ⟨w.heap.size, 2, none⟩ = false := fun x y o => (((k1.set 0 x).set 1 y).alloc o).free 2
      have c3 : ∀ x y z o, ((((w1.setCell ⟨w.heap.size, 0, none⟩ x).setCell ⟨w.heap.size, 1, none⟩ y).setCell ⟨w.heap.size, 2, none⟩ z).alloc o).cell? ⟨w.heap.size, 3, none⟩ = some (.string ⟨#[]⟩) := fun x y z o => ((((k1.set 0 x).set 1 y).set 2 z).alloc o).cell 3
      have f3 : ∀ x y z o, ((((w1.setCell ⟨w.heap.size, 0, none⟩ x).setCell ⟨w.heap.size, 1, none⟩ y).setCell ⟨w.heap.size, 2, none⟩ z).alloc o).frozen? ⟨w.heap.size, 3, none⟩ = false := fun x y z o => ((((k1.set 0 x).set 1 y).set 2 z).alloc o).free 3
      have hlt := k1.lt
      have HK := hide k1
      have HB : Hid (Below w.heap.size w w1) := (b0.trans (b1.mono b0.size)).low
      clear htx hB b1 k1 kA
      go_wp2_with (go_at_call 66; fail)
      refine (unhide HC _).mono ?_
      rintro e w2 ⟨rfl, hw⟩
      rw [hw]; clear hw w2
      go_wp2
      go_region
      go_wp2
      obtain ⟨w2, hw2⟩ : ∃ w2, ((((w1.setCell ⟨w.heap.size, 0, none⟩ (.string (ba a))).setCell ⟨w.heap.size, 1, none⟩ (.string (ba v))).setCell ⟨w.heap.size, 2, none⟩ (.int .i64 0)).setCell ⟨w.heap.size, 3, none⟩ (.string (ba c))) = w2 := ⟨_, rfl⟩
      have k2 : Blk w2 w.heap.size (lnC ⟨a, v, 0, c⟩) 38 := by rw [← hw2]; exact (unhide HK).set4 _ _ _ _
      have b2 : Below w.heap.size w w2 := by rw [← hw2]; exact low_set4 (Nat.le_refl _) (unhide HB) _ _ _ _
      rw [hw2]
      have kB : ∀ o, Blk (w2.alloc o) w.heap.size (lnC ⟨a, v, 0, c⟩) 38 := fun o => k2.alloc o
      have z0 : ∀ o, (w2.alloc o).cell? ⟨w.heap.size, 0, none⟩ = some (.string (ba a)) := fun o => (kB o).cell 0
      have z1 : ∀ o, (w2.alloc o).cell? ⟨w.heap.size, 1, none⟩ = some (.string (ba v)) := fun o => (kB o).cell 1
      have z2 : ∀ o, (w2.alloc o).cell? ⟨w.heap.size, 2, none⟩ = some (.int .i64 0) := fun o => (kB o).cell 2
      have z3 : ∀ o, (w2.alloc o).cell? ⟨w.heap.size, 3, none⟩ = some (.string (ba c)) := fun o => (kB o).cell 3
      exact bodyPost_ret (v := .tuple #[lnV ⟨a, v, 0, c⟩, .bool true]) (by simp [results, Tryz.results52, go_sem, z0, z1, z2, z3]) rfl ⟨rfl, (b2.alloc b2.size _).drew⟩

end Go.Proofs.YthcafeoamabkgaaGreatDoor
