/-
  readModule, justBegun.
-/
import Derived.Test.YthcafeoamabkgaaGreatDoorVenB
import Derived.Test.YthcafeoamabkgaaGreatDoorLineX
import Derived.Test.YthcafeoamabkgaaGreatDoorPathA
namespace Go.Proofs.YthcafeoamabkgaaGreatDoor

section
open Go.RowKit Go.WideMaps Go.Maps

/-- The module that a line names. -/
def modL (l : Str) : Option Md := if Lib.hasPrefix l [35, 32] = true ∧ fullB 2 (pieces 32 (Lib.trimPrefix l [35, 32])) = true then some ((pieces 32 (Lib.trimPrefix l [35, 32])).getD 0 [], (pieces 32 (Lib.trimPrefix l [35, 32])).getD 1 []) else none

abbrev zero36 : Array Value := #[.string ⟨#[]⟩, .string ⟨#[]⟩]
abbrev modC (m : Md) : Array Value := #[.string (ba m.1), .string (ba m.2)]

theorem modL_ok {l : Str} {m : Md} (h : modL l = some m) : m.1.length ≤ l.length ∧ m.2.length ≤ l.length := by
  unfold modL at h
  split at h
  · cases h
    have := Lib.trimPrefix_le l [35, 32]
    exact ⟨Nat.le_trans getD_le this, Nat.le_trans getD_le this⟩
  · cases h

theorem cutH_any (l : Str) (w : World) : Calls Tryz.prog 65 #[.string (ba l), .string ⟨#[35, 32]⟩] w fun e w' => e = .returned (.tuple #[.string (ba (Lib.trimPrefix l [35, 32])), .bool (Lib.hasPrefix l [35, 32])]) ∧ w' = w := Tryz.strings_CutPrefix (ba l) (ba [35, 32]) w

set_option maxRecDepth 100000 in
set_option maxHeartbeats 4000000 in
theorem readModule_none {l : Str} (hl : l.length < 4294967281) {w : World} (hg : Gd w) (hm : modL l = none) : Calls Tryz.prog 104 #[.string (ba l)] w fun e w' =>
    e = .returned (.tuple #[modV ([], []), .bool false]) ∧ Below w.heap.size w w' := by
  have b0 : Bel w.heap.size w (w.alloc (.cells zero36 36)) := (Bel.refl _ _).alloc (Nat.le_refl _) _
  have htp := Lib.trimPrefix_le l [35, 32]
  have HT := hide (cutH_any l (w.alloc (.cells zero36 36)))
  unfold modL at hm
  obtain ⟨t, ht⟩ : ∃ t, Lib.trimPrefix l [35, 32] = t := ⟨_, rfl⟩
  obtain ⟨q, hq⟩ : ∃ q, Lib.hasPrefix l [35, 32] = q := ⟨_, rfl⟩
  rw [ht] at htp HT hm
  rw [hq] at HT hm
  have HP := hide (pieces_go (l := t) (m := 2) (by omega) (by omega) (hg.below b0))
  obtain ⟨ps, hps⟩ : ∃ ps, pieces 32 t = ps := ⟨_, rfl⟩
  rw [hps] at HP hm
  obtain ⟨f, hf⟩ : ∃ f, fullB 2 ps = f := ⟨_, rfl⟩
  rw [hf] at HP hm
  have HF : Hid (q = false ∨ f = false) := hide (by
    by_cases h : q = true ∧ f = true
    · rw [if_pos h] at hm; cases hm
    · cases q <;> cases f <;> simp_all)
  clear hf hps ht hq htp hm hg
  go_enter Tryz.func104, Tryz.ntmps104
  go_wp2_with (go_at_call 65; fail)
  refine (unhide HT).mono ?_
  rintro e w0 ⟨rfl, hw⟩
  rw [hw]; clear hw w0
  go_wp2_with (go_at_call 97; fail)
  refine (unhide HP).mono ?_
  rintro e w1 ⟨B, rfl, htx, hB, b1⟩
  have k1 : Blk w1 w.heap.size zero36 36 := (Blk.new w _ _).below b1
  obtain ⟨c0, c1⟩ : w1.cell? ⟨w.heap.size, 0, none⟩ = some (.string ⟨#[]⟩) ∧ w1.cell? ⟨w.heap.size, 1, none⟩ = some (.string ⟨#[]⟩) := ⟨k1.cell 0, k1.cell 1⟩
  obtain ⟨f0, f1⟩ : w1.frozen? ⟨w.heap.size, 0, none⟩ = false ∧ w1.frozen? ⟨w.heap.size, 1, none⟩ = false := ⟨k1.free 0, k1.free 1⟩
  have HK := hide k1
  have HB : Hid (Below w.heap.size w w1) := (b0.trans (b1.mono b0.size)).low
  clear htx hB b1 k1
  have HN : Hid ((q = true → f = false)) := hide (fun h => by rcases unhide HF with h2 | h2 <;> simp_all)
  cases q with
  | false =>
    go_wp2
    obtain ⟨w2, hw2⟩ : ∃ w2, ((w1.setCell ⟨w.heap.size, 0, none⟩ (.string ⟨#[]⟩)).setCell ⟨w.heap.size, 1, none⟩ (.string ⟨#[]⟩)) = w2 := ⟨_, rfl⟩
    have k2 : Blk w2 w.heap.size zero36 36 := by rw [← hw2]; exact ((unhide HK).set 0 _).set 1 _
    have b2 : Below w.heap.size w w2 := by rw [← hw2]; exact ((unhide HB).setCell (p := ⟨w.heap.size, 0, none⟩) (Nat.le_refl _) _).setCell (p := ⟨w.heap.size, 1, none⟩) (Nat.le_refl _) _
    rw [hw2]
    have z0 : w2.cell? ⟨w.heap.size, 0, none⟩ = some (.string ⟨#[]⟩) := k2.cell 0
    have z1 : w2.cell? ⟨w.heap.size, 1, none⟩ = some (.string ⟨#[]⟩) := k2.cell 1
    exact bodyPost_ret (v := .tuple #[modV ([], []), .bool false]) (by simp [results, Tryz.results104, go_sem, z0, z1, modV, ba]) rfl ⟨rfl, b2⟩
  | true =>
    have hff := unhide HN rfl
    subst hff
    go_wp2
    obtain ⟨w2, hw2⟩ : ∃ w2, ((w1.setCell ⟨w.heap.size, 0, none⟩ (.string ⟨#[]⟩)).setCell ⟨w.heap.size, 1, none⟩ (.string ⟨#[]⟩)) = w2 := ⟨_, rfl⟩
    have k2 : Blk w2 w.heap.size zero36 36 := by rw [← hw2]; exact ((unhide HK).set 0 _).set 1 _
    have b2 : Below w.heap.size w w2 := by rw [← hw2]; exact ((unhide HB).setCell (p := ⟨w.heap.size, 0, none⟩) (Nat.le_refl _) _).setCell (p := ⟨w.heap.size, 1, none⟩) (Nat.le_refl _) _
    rw [hw2]
    have z0 : w2.cell? ⟨w.heap.size, 0, none⟩ = some (.string ⟨#[]⟩) := k2.cell 0
    have z1 : w2.cell? ⟨w.heap.size, 1, none⟩ = some (.string ⟨#[]⟩) := k2.cell 1
    exact bodyPost_ret (v := .tuple #[modV ([], []), .bool false]) (by simp [results, Tryz.results104, go_sem, z0, z1, modV, ba]) rfl ⟨rfl, b2⟩

set_option maxRecDepth 100000 in
set_option maxHeartbeats 4000000 in
theorem readModule_some {l : Str} {m : Md} (hl : l.length < 4294967281) {w : World} (hg : Gd w) (hm : modL l = some m) : Calls Tryz.prog 104 #[.string (ba l)] w fun e w' =>
    e = .returned (.tuple #[modV m, .bool true]) ∧ Below w.heap.size w w' := by
  have b0 : Bel w.heap.size w (w.alloc (.cells zero36 36)) := (Bel.refl _ _).alloc (Nat.le_refl _) _
  have htp := Lib.trimPrefix_le l [35, 32]
  have HT := hide (cutH_any l (w.alloc (.cells zero36 36)))
  unfold modL at hm
  obtain ⟨t, ht⟩ : ∃ t, Lib.trimPrefix l [35, 32] = t := ⟨_, rfl⟩
  obtain ⟨q, hq⟩ : ∃ q, Lib.hasPrefix l [35, 32] = q := ⟨_, rfl⟩
  rw [ht] at htp HT hm
  rw [hq] at HT hm
  have HP := hide (pieces_go (l := t) (m := 2) (by omega) (by omega) (hg.below b0))
  obtain ⟨ps, hps⟩ : ∃ ps, pieces 32 t = ps := ⟨_, rfl⟩
  rw [hps] at HP hm
  obtain ⟨f, hf⟩ : ∃ f, fullB 2 ps = f := ⟨_, rfl⟩
  rw [hf] at HP hm
  split at hm
  case isFalse => cases hm
  case isTrue hqf =>
    obtain ⟨rfl, rfl⟩ := hqf
    obtain ⟨a, b, rfl⟩ : ∃ a b, ps = [a, b] := by
      have hlen : ps.length = 2 := by
        unfold fullB at hf
        simp only [Bool.and_eq_true, decide_eq_true_eq] at hf
        exact hf.1
      match ps, hlen with
      | [a, b], _ => exact ⟨a, b, rfl⟩
    obtain rfl : (a, b) = m := by simpa using hm
    clear hf hps ht hq htp hm hg
    go_enter Tryz.func104, Tryz.ntmps104
    go_wp2_with (go_at_call 65; fail)
    refine (unhide HT).mono ?_
    rintro e w0 ⟨rfl, hw⟩
    rw [hw]; clear hw w0
    go_wp2_with (go_at_call 97; fail)
    refine (unhide HP).mono ?_
    rintro e w1 ⟨B, rfl, htx, hB, b1⟩
    have k1 : Blk w1 w.heap.size zero36 36 := (Blk.new w _ _).below b1
    have t0 : w1.cell? ⟨B, 0, none⟩ = some (.string (ba a)) := htx 0 (by simp)
    have t1 : w1.cell? ⟨B, 1, none⟩ = some (.string (ba b)) := htx 1 (by simp)
    have c0 : w1.cell? ⟨w.heap.size, 0, none⟩ = some (.string ⟨#[]⟩) := k1.cell 0
    have f0 : w1.frozen? ⟨w.heap.size, 0, none⟩ = false := k1.free 0
    have c1 : ∀ x, (w1.setCell ⟨w.heap.size, 0, none⟩ x).cell? ⟨w.heap.size, 1, none⟩ = some (.string ⟨#[]⟩) := fun x => (k1.set 0 x).cell 1
    have f1 : ∀ x, (w1.setCell ⟨w.heap.size, 0, none⟩ x).frozen? ⟨w.heap.size, 1, none⟩ = false := fun x => (k1.set 0 x).free 1
    have HK := hide k1
    have HB : Hid (Below w.heap.size w w1) := (b0.trans (b1.mono b0.size)).low
    clear htx hB b1 k1
    go_wp2
    go_region
    go_wp2
    obtain ⟨w2, hw2⟩ : ∃ w2, ((w1.setCell ⟨w.heap.size, 0, none⟩ (.string (ba a))).setCell ⟨w.heap.size, 1, none⟩ (.string (ba b))) = w2 := ⟨_, rfl⟩
    have k2 : Blk w2 w.heap.size (modC (a, b)) 36 := by rw [← hw2]; exact ((unhide HK).set 0 _).set 1 _
    have b2 : Below w.heap.size w w2 := by rw [← hw2]; exact ((unhide HB).setCell (p := ⟨w.heap.size, 0, none⟩) (Nat.le_refl _) _).setCell (p := ⟨w.heap.size, 1, none⟩) (Nat.le_refl _) _
    rw [hw2]
    have z0 : w2.cell? ⟨w.heap.size, 0, none⟩ = some (.string (ba a)) := k2.cell 0
    have z1 : w2.cell? ⟨w.heap.size, 1, none⟩ = some (.string (ba b)) := k2.cell 1
    exact bodyPost_ret (v := .tuple #[modV (a, b), .bool true]) (by simp [results, Tryz.results104, go_sem, z0, z1]) rfl ⟨rfl, b2.drew⟩

/-- A vendored module, as a value: its module, whether it is explicit, the slice of its packages. -/
abbrev vdV (m : Md) (x : Bool) (s : Value) : Value := .agg #[.string (ba m.1), .string (ba m.2), .bool x, s]

set_option maxHeartbeats 1000000 in
theorem justBegun_any {m : Md} {x : Bool} {a : Option Addr} {n c : Nat} (w : World) : Calls Tryz.prog 105 #[vdV m x (.slice a n c)] w fun e w' =>
    e = .returned (.bool (!x && decide (n = 0))) ∧ Below w.heap.size w w' := by
  obtain ⟨p, v⟩ := m
  obtain ⟨W0, hW0⟩ : ∃ W0, w.alloc (.cells #[.string (ba p), .string (ba v), .bool x, .slice a n c] 81) = W0 := ⟨_, rfl⟩
  have b0 : Below w.heap.size w W0 := by rw [← hW0]; exact (Below.refl _ _).alloc (Nat.le_refl _) _
  have k0 : Blk W0 w.heap.size #[.string (ba p), .string (ba v), .bool x, .slice a n c] 81 := by rw [← hW0]; exact Blk.new _ _ _
  have c2 : W0.cell? ⟨w.heap.size, 2, none⟩ = some (.bool x) := k0.cell 2
  have c3 : W0.cell? ⟨w.heap.size, 3, none⟩ = some (.slice a n c) := k0.cell 3
  have HB := hide b0
  clear b0 k0
  cases x with
  | true =>
    go_enter Tryz.func105, Tryz.ntmps105
    go_wp2
    go_ret
    exact ⟨rfl, unhide HB⟩
  | false =>
    by_cases hn : n = 0
    · have hq : ((n : Int) == 0) = true := by simp [hn]
      have hd : decide (n = 0) = true := decide_eq_true hn
      rw [hd]
      clear hn hd
      go_enter Tryz.func105, Tryz.ntmps105
      go_wp2
      go_ret
      exact ⟨rfl, unhide HB⟩
    · have hq : ((n : Int) == 0) = false := by simp [hn]
      have hd : decide (n = 0) = false := decide_eq_false hn
      rw [hd]
      clear hn hd
      go_enter Tryz.func105, Tryz.ntmps105
      go_wp2
      go_ret
      exact ⟨rfl, unhide HB⟩
end

end Go.Proofs.YthcafeoamabkgaaGreatDoor
