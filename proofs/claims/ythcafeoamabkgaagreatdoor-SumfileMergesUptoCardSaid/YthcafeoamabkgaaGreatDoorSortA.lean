/-
  compareMods and compareLines.
-/
import Derived.Test.YthcafeoamabkgaaGreatDoorLess
import Derived.Test.YthcafeoamabkgaaGreatDoorReadA
import Derived.Deep.RegionHeld3
namespace Go.Proofs.YthcafeoamabkgaaGreatDoor
open Go.RowKit

set_option maxRecDepth 100000 in
set_option maxHeartbeats 1000000 in
theorem compareMods_any {p q : Md} {w : World} (hg : Gd w) : Gives 94 #[modV p, modV q] w (.int .i64 (cmpM p q)) := by
  unfold Gives
  obtain ⟨r, hr⟩ : ∃ r, ltM p q = r := ⟨_, rfl⟩
  have HL := hide (fun w (hg : Gd w) => less_any (p := p) (q := q) hg)
  rw [hr] at HL
  obtain ⟨n, hn⟩ : ∃ n, cmpM p q = n := ⟨_, rfl⟩
  have h3 := orders_m.three p q
  have h0 := orders_m.eq p q
  have hrn : r = decide (n < 0) := by rw [← hr, ← hn]
  rw [hn] at h3 h0 ⊢
  clear hr hn
  obtain ⟨p1, p2⟩ := p
  obtain ⟨q1, q2⟩ := q
  have b2 : Bel w.heap.size w ((w.alloc (.cells #[.string (ba p1), .string (ba p2)] 36)).alloc (.cells #[.string (ba q1), .string (ba q2)] 36)) := ((Bel.refl _ _).alloc (Nat.le_refl _) _).alloc (by simp) _
  have HB := hide b2
  have HG := hide hg
  clear b2 hg
  by_cases e : p1 = q1 ∧ p2 = q2
  · obtain ⟨rfl, rfl⟩ := e
    have hn : n = 0 := h0.2 rfl
    subst hn
    clear h3 h0 hrn HL
    go_enter Tryz.func94, Tryz.ntmps94
    go_wp2
    go_ret
    exact ⟨rfl, unhide HB⟩
  · have hn0 : ¬ n = 0 := fun h => e (by have := h0.1 h; simpa using this)
    have hf : (∃ h : ¬ p1 = q1, True) ∨ (p1 = q1 ∧ ¬ p2 = q2) := by
      by_cases e1 : p1 = q1
      · exact Or.inr ⟨e1, fun e2 => e ⟨e1, e2⟩⟩
      · exact Or.inl ⟨e1, trivial⟩
    clear h0 e
    rcases h3 with h | h | h
    · have hr : r = true := by rw [hrn, h]; rfl
      subst hr h
      clear hrn hn0
      rcases hf with ⟨e1, _⟩ | ⟨e1, e2⟩
      · have x1 : ((ba p1).toList == (ba q1).toList) = false := by rw [ba_list, ba_list]; simpa using e1
        clear e1
        go_enter Tryz.func94, Tryz.ntmps94
        go_wp2_with (go_at_call 139; fail)
        refine ((unhide HL) _ ((unhide HG).below (unhide HB))).mono ?_
        rintro e w1 ⟨rfl, b1⟩
        have HB1 := hide (below_trans (unhide HB) b1)
        clear b1
        go_wp2
        go_ret
        exact ⟨rfl, unhide HB1⟩
      · have x1 : ((ba p2).toList == (ba q2).toList) = false := by rw [ba_list, ba_list]; simpa using e2
        subst e1
        clear e2
        go_enter Tryz.func94, Tryz.ntmps94
        go_wp2_with (go_at_call 139; fail)
        refine ((unhide HL) _ ((unhide HG).below (unhide HB))).mono ?_
        rintro e w1 ⟨rfl, b1⟩
        have HB1 := hide (below_trans (unhide HB) b1)
        clear b1
        go_wp2
        go_ret
        exact ⟨rfl, unhide HB1⟩
    · exact absurd h hn0
    · have hr : r = false := by rw [hrn, h]; rfl
      subst hr h
      clear hrn hn0
      rcases hf with ⟨e1, _⟩ | ⟨e1, e2⟩
      · have x1 : ((ba p1).toList == (ba q1).toList) = false := by rw [ba_list, ba_list]; simpa using e1
        clear e1
        go_enter Tryz.func94, Tryz.ntmps94
        go_wp2_with (go_at_call 139; fail)
        refine ((unhide HL) _ ((unhide HG).below (unhide HB))).mono ?_
        rintro e w1 ⟨rfl, b1⟩
        have HB1 := hide (below_trans (unhide HB) b1)
        clear b1
        go_wp2
        go_ret
        exact ⟨rfl, unhide HB1⟩
      · have x1 : ((ba p2).toList == (ba q2).toList) = false := by rw [ba_list, ba_list]; simpa using e2
        subst e1
        clear e2
        go_enter Tryz.func94, Tryz.ntmps94
        go_wp2_with (go_at_call 139; fail)
        refine ((unhide HL) _ ((unhide HG).below (unhide HB))).mono ?_
        rintro e w1 ⟨rfl, b1⟩
        have HB1 := hide (below_trans (unhide HB) b1)
        clear b1
        go_wp2
        go_ret
        exact ⟨rfl, unhide HB1⟩

/-- The order of lines. -/
def cmpL (x y : Ln) : Int := orI (cmpM (x.p, x.v) (y.p, y.v)) (Lib.compareInt x.k y.k)

set_option maxRecDepth 100000 in
set_option maxHeartbeats 4000000 in
theorem compareLines_any {x y : Ln} {w : World} (hg : Gd w) : Gives 48 #[lnV x, lnV y] w (.int .i64 (cmpL x y)) := by
  unfold Gives cmpL
  obtain ⟨p, v, k, s⟩ := x
  obtain ⟨p', v', k', s'⟩ := y
  simp only
  obtain ⟨n, hn⟩ : ∃ n, cmpM (p, v) (p', v') = n := ⟨_, rfl⟩
  obtain ⟨m, hm⟩ : ∃ m, Lib.compareInt k k' = m := ⟨_, rfl⟩
  rw [hn, hm]
  have HNN := hide hn
  have HMM := hide hm
  clear hn hm
  go_enter Tryz.func48, Tryz.ntmps48
  go_wp2_with fail
  obtain ⟨w2, hw2⟩ : ∃ w2, w2 = (w.alloc (.cells #[.string (ba p), .string (ba v), .int .i64 k, .string (ba s)] 38)).alloc (.cells #[.string (ba p'), .string (ba v'), .int .i64 k', .string (ba s')] 38) := ⟨_, rfl⟩
  rw [← hw2]
  have kx : Blk w2 w.heap.size #[.string (ba p), .string (ba v), .int .i64 k, .string (ba s)] 38 := by rw [hw2]; exact (Blk.new w _ 38).alloc _
  have ky : Blk w2 (w.heap.size + 1) #[.string (ba p'), .string (ba v'), .int .i64 k', .string (ba s')] 38 := by
    rw [hw2]
    have := Blk.new (w.alloc (.cells #[.string (ba p), .string (ba v), .int .i64 k, .string (ba s)] 38)) #[.string (ba p'), .string (ba v'), .int .i64 k', .string (ba s')] 38
    have e : (w.alloc (.cells #[.string (ba p), .string (ba v), .int .i64 k, .string (ba s)] 38)).heap.size = w.heap.size + 1 := by simp
    rw [e] at this
    exact this
  have b2 : Bel w.heap.size w w2 := by rw [hw2]; exact ((Bel.refl _ _).alloc (Nat.le_refl _) _).alloc (by simp) _
  have c0 : w2.cell? ⟨w.heap.size, 0, none⟩ = some (.string (ba p)) := kx.cell 0
  have c1 : w2.cell? ⟨w.heap.size, 1, none⟩ = some (.string (ba v)) := kx.cell 1
  have c2 : w2.cell? ⟨w.heap.size, 2, none⟩ = some (.int .i64 k) := kx.cell 2
  have d0 : w2.cell? ⟨w.heap.size + 1, 0, none⟩ = some (.string (ba p')) := ky.cell 0
  have d1 : w2.cell? ⟨w.heap.size + 1, 1, none⟩ = some (.string (ba v')) := ky.cell 1
  have d2 : w2.cell? ⟨w.heap.size + 1, 2, none⟩ = some (.int .i64 k') := ky.cell 2
  have H95 : Hid (∀ W : World, Calls Tryz.prog 95 #[.int .i64 k, .int .i64 k'] W fun e w' => e = .returned (.int .i64 m) ∧ w' = W) := by
    intro W
    rw [← unhide HMM]
    exact Tryz.cmp_Compare_int k k' W
  have H94 : Hid (∀ W : World, W.heap = w2.heap → W.os = w2.os → W.tape = w2.tape → W.output = w2.output → w2.drawn ≤ W.drawn → Calls Tryz.prog 94 #[.agg #[.string (ba p), .string (ba v)], .agg #[.string (ba p'), .string (ba v')]] W fun e w4 => e = .returned (.int .i64 n) ∧ Bel w.heap.size w w4 ∧ w4.cell? ⟨w.heap.size, 0, none⟩ = some (.string (ba p)) ∧ w4.cell? ⟨w.heap.size, 1, none⟩ = some (.string (ba v)) ∧ w4.cell? ⟨w.heap.size, 2, none⟩ = some (.int .i64 k) ∧ w4.cell? ⟨w.heap.size + 1, 0, none⟩ = some (.string (ba p')) ∧ w4.cell? ⟨w.heap.size + 1, 1, none⟩ = some (.string (ba v')) ∧ w4.cell? ⟨w.heap.size + 1, 2, none⟩ = some (.int .i64 k')) := by
    intro W e1 e2 e3 e4 e5
    have hbW : Bel w.heap.size w W := ⟨e2.trans b2.os, e3.trans b2.tape, e4.trans b2.output, by rw [e1]; exact b2.size, fun k hk => by rw [e1]; exact b2.block k hk, Nat.le_trans b2.drawn e5⟩
    have ex := kx.same e1
    have ey := ky.same e1
    have h := compareMods_any (p := (p, v)) (q := (p', v')) (hg.below hbW)
    rw [unhide HNN] at h
    refine h.mono ?_
    rintro e w4 ⟨rfl, b4⟩
    exact ⟨rfl, hbW.trans (b4.mono hbW.size), (ex.below b4).cell 0, (ex.below b4).cell 1, (ex.below b4).cell 2, (ey.below b4).cell 0, (ey.below b4).cell 1, (ey.below b4).cell 2⟩
  clear hw2 kx ky b2 HNN HMM hg
  go_region_held3 (fun w' => w'.cell? ⟨w.heap.size, 0, none⟩ = some (.string (ba p)) ∧ w'.cell? ⟨w.heap.size, 1, none⟩ = some (.string (ba v)) ∧ w'.cell? ⟨w.heap.size, 2, none⟩ = some (.int .i64 k) ∧ w'.cell? ⟨w.heap.size + 1, 0, none⟩ = some (.string (ba p')) ∧ w'.cell? ⟨w.heap.size + 1, 1, none⟩ = some (.string (ba v')) ∧ w'.cell? ⟨w.heap.size + 1, 2, none⟩ = some (.int .i64 k'))
    (go_keep)
    (first | (go_at_call 94; refine (unhide H94 _ (by rfl) (by rfl) (by rfl) (by rfl) (by first | exact Nat.le_refl _ | exact Nat.le_succ _ | simp)).mono ?_; rintro e w4 ⟨rfl, b4, r0, r1, r2, r3, r4, r5⟩) | (go_at_call 95; refine (unhide H95 _).mono ?_; rintro e w3 ⟨rfl, rfl⟩) | (go_at_call 93; refine (or_two (x := n) (y := m) (by simp) (by simp)).mono ?_; rintro e w5 ⟨rfl, rfl⟩))
  have HB := hide b4
  clear b4
  go_wp2
  go_ret
  exact ⟨rfl, (unhide HB).alloc (unhide HB).size _⟩

end Go.Proofs.YthcafeoamabkgaaGreatDoor
