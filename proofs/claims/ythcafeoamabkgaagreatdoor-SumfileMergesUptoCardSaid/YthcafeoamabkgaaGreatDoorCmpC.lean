/-
  The contracts of Compare at three numbers, compareVersions, Compare, Max, ValidVersion, Parts.
-/
import Derived.Test.YthcafeoamabkgaaGreatDoorCmpB
import Derived.Test.YthcafeoamabkgaaGreatDoorPure5
namespace Go.Proofs.YthcafeoamabkgaaGreatDoor
open Go.RowKit

/-- Three numbers in a block. -/
def Three (w : World) (A : Nat) (a b c : Nat) : Prop := w.cell? ⟨A, 0, none⟩ = some (.int .i64 (a : Int)) ∧ w.cell? ⟨A, 1, none⟩ = some (.int .i64 (b : Int)) ∧ w.cell? ⟨A, 2, none⟩ = some (.int .i64 (c : Int))

theorem orI_first {a b : Int} (h : a ≠ 0) : orI a b = a := by unfold orI; rw [if_neg h]

theorem compare3 {w : World} {A B ca cb : Nat} {a b c x y z : Nat} (hA : Three w A a b c) (hB : Three w B x y z) :
    Calls Tryz.prog 255 #[.slice (some ⟨A, 0, none⟩) 3 ca, .slice (some ⟨B, 0, none⟩) 3 cb] w fun e w' => e = .returned (.int .i64 (orI (cmpNat a x) (orI (cmpNat b y) (cmpNat c z)))) ∧ w' = w := by
  obtain ⟨a0, a1, a2⟩ := hA
  obtain ⟨b0, b1, b2⟩ := hB
  by_cases h0 : cmpNat a x = 0
  · by_cases h1 : cmpNat b y = 0
    · by_cases h2 : cmpNat c z = 0
      · have HV : Hid (orI (cmpNat a x) (orI (cmpNat b y) (cmpNat c z)) = 0) := by show orI _ _ = _; rw [orI_pos h0, orI_pos h1]; exact h2
        go_enter Tryz.func255, Tryz.ntmps255
        go_wp2
        refine wp_loop_rounds 4 ?_
        rw [rounds_succ]
        go_wp2_with (go_at_call 95; refine (cmpLen_any a x _).mono ?_; rintro e w1 ⟨rfl, hw⟩; subst hw)
        rw [rounds_succ]
        go_wp2_with (go_at_call 95; refine (cmpLen_any b y _).mono ?_; rintro e w1 ⟨rfl, hw⟩; subst hw)
        rw [rounds_succ]
        go_wp2_with (go_at_call 95; refine (cmpLen_any c z _).mono ?_; rintro e w1 ⟨rfl, hw⟩; subst hw)
        rw [rounds_succ]
        go_wp2
        go_ret
        exact ⟨retv (by rw [unhide HV]; rfl), rfl⟩
      · have HV : Hid (orI (cmpNat a x) (orI (cmpNat b y) (cmpNat c z)) = cmpNat c z) := by show orI _ _ = _; rw [orI_pos h0, orI_pos h1]
        go_enter Tryz.func255, Tryz.ntmps255
        go_wp2
        refine wp_loop_rounds 3 ?_
        rw [rounds_succ]
        go_wp2_with (go_at_call 95; refine (cmpLen_any a x _).mono ?_; rintro e w1 ⟨rfl, hw⟩; subst hw)
        rw [rounds_succ]
        go_wp2_with (go_at_call 95; refine (cmpLen_any b y _).mono ?_; rintro e w1 ⟨rfl, hw⟩; subst hw)
        rw [rounds_succ]
        go_wp2_with (go_at_call 95; refine (cmpLen_any c z _).mono ?_; rintro e w1 ⟨rfl, hw⟩; subst hw)
        go_ret
        exact ⟨retv (by rw [unhide HV]; rfl), rfl⟩
    · have HV : Hid (orI (cmpNat a x) (orI (cmpNat b y) (cmpNat c z)) = cmpNat b y) := by show orI _ _ = _; rw [orI_pos h0]; exact orI_first h1
      go_enter Tryz.func255, Tryz.ntmps255
      go_wp2
      refine wp_loop_rounds 2 ?_
      rw [rounds_succ]
      go_wp2_with (go_at_call 95; refine (cmpLen_any a x _).mono ?_; rintro e w1 ⟨rfl, hw⟩; subst hw)
      rw [rounds_succ]
      go_wp2_with (go_at_call 95; refine (cmpLen_any b y _).mono ?_; rintro e w1 ⟨rfl, hw⟩; subst hw)
      go_ret
      exact ⟨retv (by rw [unhide HV]; rfl), rfl⟩
  · have HV : Hid (orI (cmpNat a x) (orI (cmpNat b y) (cmpNat c z)) = cmpNat a x) := by show orI _ _ = _; exact orI_first h0
    go_enter Tryz.func255, Tryz.ntmps255
    go_wp2
    refine wp_loop_rounds 1 ?_
    rw [rounds_succ]
    go_wp2_with (go_at_call 95; refine (cmpLen_any a x _).mono ?_; rintro e w1 ⟨rfl, hw⟩; subst hw)
    go_ret
    exact ⟨retv (by rw [unhide HV]; rfl), rfl⟩

theorem Blk.same {w W : World} {b : Nat} {cs : Array Value} {t : TypeId} (h : Blk w b cs t) (e : W.heap = w.heap) : Blk W b cs t := by unfold Blk at h ⊢; rw [e]; exact h

def verAgg (x : Ver) : Value := .agg #[.int .i64 (x.a : Int), .int .i64 (x.b : Int), .int .i64 (x.c : Int), .string (ba x.pre)]

set_option maxHeartbeats 1000000 in
theorem cmpVer_any {x y : Ver} (hx : x.pre.length < 4294967281) (hy : y.pre.length < 4294967281) {w : World} (hg : Gd w) : Gives 224 #[verAgg x, verAgg y] w (.int .i64 (cmpVer x y)) := by
  unfold Gives verAgg
  go_enter Tryz.func224, Tryz.ntmps224
  go_wp2_with fail
  obtain ⟨w2, hw2⟩ : ∃ w2, w2 = (w.alloc (.cells #[.int .i64 (x.a : Int), .int .i64 (x.b : Int), .int .i64 (x.c : Int), .string (ba x.pre)] 205)).alloc (.cells #[.int .i64 (y.a : Int), .int .i64 (y.b : Int), .int .i64 (y.c : Int), .string (ba y.pre)] 205) := ⟨_, rfl⟩
  rw [← hw2]
  have kx : Blk w2 w.heap.size #[.int .i64 (x.a : Int), .int .i64 (x.b : Int), .int .i64 (x.c : Int), .string (ba x.pre)] 205 := by rw [hw2]; exact (Blk.new w _ 205).alloc _
  have ky : Blk w2 (w.heap.size + 1) #[.int .i64 (y.a : Int), .int .i64 (y.b : Int), .int .i64 (y.c : Int), .string (ba y.pre)] 205 := by
    rw [hw2]
    have := Blk.new (w.alloc (.cells #[.int .i64 (x.a : Int), .int .i64 (x.b : Int), .int .i64 (x.c : Int), .string (ba x.pre)] 205)) #[.int .i64 (y.a : Int), .int .i64 (y.b : Int), .int .i64 (y.c : Int), .string (ba y.pre)] 205
    have e : (w.alloc (.cells #[.int .i64 (x.a : Int), .int .i64 (x.b : Int), .int .i64 (x.c : Int), .string (ba x.pre)] 205)).heap.size = w.heap.size + 1 := by simp
    rw [e] at this
    exact this
  have b2 : Bel w.heap.size w w2 := by rw [hw2]; exact ((Bel.refl _ _).alloc (Nat.le_refl _) _).alloc (by simp) _
  have k3 : w2.cell? ⟨w.heap.size, 3, none⟩ = some (.string (ba x.pre)) := kx.cell 3
  have l3 : w2.cell? ⟨w.heap.size + 1, 3, none⟩ = some (.string (ba y.pre)) := ky.cell 3
  have H101 : Hid (∀ W : World, W.heap = w2.heap → Calls Tryz.prog 255 #[.slice (some ⟨w.heap.size, 0, none⟩) 3 3, .slice (some ⟨w.heap.size + 1, 0, none⟩) 3 3] W fun e w' => e = .returned (.int .i64 (orI (cmpNat x.a y.a) (orI (cmpNat x.b y.b) (cmpNat x.c y.c)))) ∧ w' = W) := by
    intro W hW
    have ex := kx.same hW
    have ey := ky.same hW
    exact compare3 ⟨ex.cell 0, ex.cell 1, ex.cell 2⟩ ⟨ey.cell 0, ey.cell 1, ey.cell 2⟩
  have H102 : Hid (∀ W : World, W.heap = w2.heap → W.os = w2.os → W.tape = w2.tape → W.output = w2.output → w2.drawn ≤ W.drawn → Calls Tryz.prog 256 #[.string (ba x.pre), .string (ba y.pre)] W fun e w4 => e = .returned (.int .i64 (cmpPres x.pre y.pre)) ∧ Bel w.heap.size w w4 ∧ w4.cell? ⟨w.heap.size, 3, none⟩ = some (.string (ba x.pre)) ∧ w4.cell? ⟨w.heap.size + 1, 3, none⟩ = some (.string (ba y.pre))) := by
    intro W e1 e2 e3 e4 e5
    have hbW : Bel w.heap.size w W := ⟨e2.trans b2.os, e3.trans b2.tape, e4.trans b2.output, by rw [e1]; exact b2.size, fun k hk => by rw [e1]; exact b2.block k hk, Nat.le_trans b2.drawn e5⟩
    have ex := kx.same e1
    have ey := ky.same e1
    refine (cmpPres_any hx hy (hg.below hbW)).mono ?_
    rintro e w4 ⟨rfl, b4⟩
    exact ⟨rfl, hbW.trans (b4.mono hbW.size), (ex.below b4).cell 3, (ey.below b4).cell 3⟩
  clear hw2 kx ky b2
  go_region_held3 (fun w' => w'.cell? ⟨w.heap.size, 3, none⟩ = some (.string (ba x.pre)) ∧ w'.cell? ⟨w.heap.size + 1, 3, none⟩ = some (.string (ba y.pre)))
    (go_keep)
    (first | (go_at_call 255; refine (unhide H101 _ (by rfl)).mono ?_; rintro e w3 ⟨rfl, rfl⟩) | (go_at_call 256; refine (unhide H102 _ (by rfl) (by rfl) (by rfl) (by rfl) (by first | exact Nat.le_refl _ | exact Nat.le_succ _ | simp)).mono ?_; rintro e w4 ⟨rfl, b4, k34, l34⟩) | (go_at_call 93; refine (or_two (x := orI (cmpNat x.a y.a) (orI (cmpNat x.b y.b) (cmpNat x.c y.c))) (y := cmpPres x.pre y.pre) (by simp) (by simp)).mono ?_; rintro e w5 ⟨rfl, rfl⟩))
  have HB := hide b4
  clear b4
  go_wp2
  go_ret
  exact ⟨rfl, (unhide HB).alloc (unhide HB).size _⟩

theorem pre_small {v : Str} {x : Ver} (h : parseV v = some x) : x.pre.length < 4294967281 := by
  obtain ⟨hl, rest, rfl, hr⟩ := parseV_some h
  have e := (parseR_spec hr).2.1
  have := behind_le 45 rest
  rw [e]
  simp at hl
  omega

set_option maxHeartbeats 1000000 in
theorem compare_any {a b : Str} {w : World} (hg : Gd w) : Gives 184 #[.string (ba a), .string (ba b)] w (.int .i64 (cmpV a b)) := by
  unfold Gives
  go_enter Tryz.func184, Tryz.ntmps184
  go_wp2_with (go_at_call 171; refine (parse_any a hg).mono ?_)
  rintro e w1 ⟨rfl, b1⟩
  rw [verV_eq]
  have g1 := hg.below b1
  cases ha : parseV a with
  | none =>
    cases hb : parseV b with
    | none =>
      have HV : Hid (cmpV a b = Lib.compareBytes a b) := by show cmpV a b = _; unfold cmpV; rw [ha, hb]
      have HB := hide hb
      unfold verCells
      clear ha hb
      have b2 : Bel w1.heap.size w1 (w1.alloc (.cells #[.int .i64 0, .int .i64 0, .int .i64 0, .string ⟨#[]⟩] 205)) := (Bel.refl _ _).alloc (Nat.le_refl _) _
      go_wp2_with (go_at_call 171; refine (parse_any b (g1.below b2)).mono ?_)
      rintro e w3 ⟨rfl, b3⟩
      rw [verV_eq, unhide HB]
      unfold verCells
      have BB := hide (below_trans (below_trans b1 b2) b3)
      clear b1 b2 b3
      go_wp2_with (go_at_call 103; refine (cmpBytes_any a b _).mono ?_; rintro e w1 ⟨rfl, hw⟩; subst hw)
      go_ret
      exact ⟨retv (by rw [unhide HV]; rfl), (unhide BB).alloc (unhide BB).size _⟩
    | some y =>
      have HV : Hid (cmpV a b = -1) := by show cmpV a b = _; unfold cmpV; rw [ha, hb]
      have HB := hide hb
      unfold verCells
      clear ha hb
      have b2 : Bel w1.heap.size w1 (w1.alloc (.cells #[.int .i64 0, .int .i64 0, .int .i64 0, .string ⟨#[]⟩] 205)) := (Bel.refl _ _).alloc (Nat.le_refl _) _
      go_wp2_with (go_at_call 171; refine (parse_any b (g1.below b2)).mono ?_)
      rintro e w3 ⟨rfl, b3⟩
      rw [verV_eq, unhide HB]
      unfold verCells
      have BB := hide (below_trans (below_trans b1 b2) b3)
      clear b1 b2 b3
      go_wp2
      go_ret
      exact ⟨retv (by rw [unhide HV]; rfl), (unhide BB).alloc (unhide BB).size _⟩
  | some x =>
    cases hb : parseV b with
    | none =>
      have HV : Hid (cmpV a b = 1) := by show cmpV a b = _; unfold cmpV; rw [ha, hb]
      have HB := hide hb
      unfold verCells
      clear ha hb
      have b2 : Bel w1.heap.size w1 (w1.alloc (.cells #[.int .i64 (x.a : Int), .int .i64 (x.b : Int), .int .i64 (x.c : Int), .string (ba x.pre)] 205)) := (Bel.refl _ _).alloc (Nat.le_refl _) _
      go_wp2_with (go_at_call 171; refine (parse_any b (g1.below b2)).mono ?_)
      rintro e w3 ⟨rfl, b3⟩
      rw [verV_eq, unhide HB]
      unfold verCells
      have BB := hide (below_trans (below_trans b1 b2) b3)
      clear b1 b2 b3
      go_wp2
      go_ret
      exact ⟨retv (by rw [unhide HV]; rfl), (unhide BB).alloc (unhide BB).size _⟩
    | some y =>
      have HV : Hid (cmpV a b = cmpVer x y) := by show cmpV a b = _; unfold cmpV; rw [ha, hb]
      have HB := hide hb
      have HX : Hid (x.pre.length < 4294967281) := pre_small ha
      have HY : Hid (y.pre.length < 4294967281) := pre_small hb
      unfold verCells
      clear ha hb
      have b2 : Bel w1.heap.size w1 (w1.alloc (.cells #[.int .i64 (x.a : Int), .int .i64 (x.b : Int), .int .i64 (x.c : Int), .string (ba x.pre)] 205)) := (Bel.refl _ _).alloc (Nat.le_refl _) _
      go_wp2_with (go_at_call 171; refine (parse_any b (g1.below b2)).mono ?_)
      rintro e w3 ⟨rfl, b3⟩
      rw [verV_eq, unhide HB]
      unfold verCells
      have BB := hide (below_trans (below_trans b1 b2) b3)
      have kx := (Blk.new w1 #[.int .i64 (x.a : Int), .int .i64 (x.b : Int), .int .i64 (x.c : Int), .string (ba x.pre)] 205).below b3
      have hlt := kx.lt
      have c0 := kx.cell 0
      have c1 := kx.cell 1
      have c2 := kx.cell 2
      have c3 := kx.cell 3
      simp at c0 c1 c2 c3
      have b4 : Bel w3.heap.size w3 (w3.alloc (.cells #[.int .i64 (y.a : Int), .int .i64 (y.b : Int), .int .i64 (y.c : Int), .string (ba y.pre)] 205)) := (Bel.refl _ _).alloc (Nat.le_refl _) _
      have G4 := hide (((g1.below b2).below b3).below b4)
      have hne : ¬ w1.heap.size = w3.heap.size := by omega
      clear b1 b2 b3 kx
      go_wp2_with (go_at_call 224; fail)
      refine (cmpVer_any (x := x) (y := y) (unhide HX) (unhide HY) (unhide G4)).mono ?_
      rintro e w5 ⟨rfl, b5⟩
      have B5 := hide (below_trans (below_trans (unhide BB) b4) b5)
      clear b4 b5
      go_wp2
      go_ret
      exact ⟨retv (by rw [unhide HV]; rfl), unhide B5⟩

end Go.Proofs.YthcafeoamabkgaaGreatDoor
