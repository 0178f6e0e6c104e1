/-
  SumfileMerges: the law's walk.
-/
import Derived.Test.YthcafeoamabkgaaGreatDoorMrgR
import Derived.Test.YthcafeoamabkgaaGreatDoorFndR
import Derived.Test.YthcafeoamabkgaaGreatDoorComq
import Derived.Test.YthcafeoamabkgaaGreatDoorFirstW
namespace Go.Proofs.YthcafeoamabkgaaGreatDoor
open Go.RowKit

theorem But.refl (M : Nat) (w : World) : But M w w := ⟨rfl, rfl, rfl, Nat.le_refl _, fun _ _ _ => rfl⟩
theorem But.cell {M : Nat} {w w' : World} (h : But M w w') {p : Addr} (hp : p.block < w.heap.size) (hne : p.block ≠ M) : w'.cell? p = w.cell? p := by
  unfold World.cell?
  rw [h.block _ hp hne]
theorem But.set {M : Nat} {w w' : World} (h : But M w w') (o : Nat) (v : Value) : But M w (w'.setCell ⟨M, o, none⟩ v) := by
  refine ⟨h.os, h.tape, h.output, by have := h.size; simpa [World.setCell] using this, fun k hk hne => ?_⟩
  rw [Below.heap_setCell _ _ _ _ hne]
  exact h.block k hk hne

theorem row_but2 {w w' : World} {g B n size : Nat} {e : TypeId} {v : Value} {xs : List Value} (h : w.ownsRow B e size v n xs) (hg : g < B) (hc : But g w w') : w'.ownsRow B e size v n xs := by
  refine ⟨h.1, ?_⟩
  rcases h.2 with h | ⟨g', cap, cur, e', hb, hblk, rest⟩
  · exact Or.inl h
  · exact Or.inr ⟨g', cap, cur, e', hb, by rw [hc.block g' (Array.getElem?_eq_some_iff.1 hblk).1 (by omega)]; exact hblk, rest⟩

/-- A list of lines that is being written over: nothing else changes. -/
structure Wipe (W : World) (a : Option Addr) (N c g : Nat) (w : World) : Prop where
  but : But g W w
  row : N = 0 ∨ (a = some ⟨g, 0, none⟩ ∧ ∃ d : List Ln, d.length = N ∧ RowL w g c d)

theorem lines_wipe {B n c : Nat} {W : World} {a : Option Addr} {zs : List Ln} (z : Nat) (h : Lines B W (.slice a n c) zs) : ∃ g, ((zs.length = 0 ∧ g = z) ∨ (B ≤ g ∧ g < W.heap.size)) ∧ Wipe W a zs.length c g W := by
  rcases h.2 with ⟨e, h0⟩ | ⟨g, cap, cur, e, hb, hblk, hcap, hcm, hcs, hcur⟩
  · exact ⟨z, Or.inl ⟨h0, rfl⟩, But.refl _ _, Or.inl h0⟩
  · cases e
    exact ⟨g, Or.inr ⟨hb, (Array.getElem?_eq_some_iff.1 hblk).1⟩, But.refl _ _, Or.inr ⟨rfl, zs, rfl, (rowL_of h).1⟩⟩

theorem Wipe.move {W w' : World} {a : Option Addr} {N c g g' : Nat} (h : Wipe W a N c g W) (hc : But g' W w') (hne : N = 0 ∨ (g ≠ g' ∧ g < W.heap.size)) : Wipe w' a N c g w' := by
  refine ⟨But.refl _ _, ?_⟩
  rcases h.row with h0 | ⟨ha, d, hd, hr⟩
  · exact Or.inl h0
  · rcases hne with h0 | ⟨h1, h2⟩
    · exact Or.inl h0
    · obtain ⟨cur, hb, hs⟩ := hr.blk
      refine Or.inr ⟨ha, d, hd, ⟨cur, by rw [hc.block g h2 h1]; exact hb, hs⟩, fun k hk => ?_⟩
      have f : ∀ {o : Nat} {u : Value}, W.cell? ⟨g, o, none⟩ = some u → w'.cell? ⟨g, o, none⟩ = some u := fun {o u} hp => (hc.cell (p := ⟨g, o, none⟩) h2 h1).trans hp
      obtain ⟨h1, h2, h3, h4⟩ := hr.els k hk
      exact ⟨f h1, f h2, f h3, f h4⟩

theorem Wipe.put {W w : World} {N c g i : Nat} {d : List Ln} (hb : But g W w) (hd : d.length = N) (hr : RowL w g c d) (hi : i < d.length) :
    Wipe W (some ⟨g, 0, none⟩) N c g ((((w.setCell ⟨g, i * 4, none⟩ (.string ⟨#[]⟩)).setCell ⟨g, i * 4 + 1, none⟩ (.string ⟨#[]⟩)).setCell ⟨g, i * 4 + 2, none⟩ (.int .i64 0)).setCell ⟨g, i * 4 + 3, none⟩ (.string ⟨#[]⟩)) :=
  ⟨(((hb.set _ _).set _ _).set _ _).set _ _, Or.inr ⟨rfl, d.set i noLn, by rw [List.length_set]; exact hd, hr.put hi noLn⟩⟩

theorem findV_parts (o : Option Ln) : ∃ s b, findV o = .tuple #[.string s, .bool b] := by
  cases o with
  | none => exact ⟨_, _, rfl⟩
  | some x => exact ⟨_, _, rfl⟩

set_option maxRecDepth 100000 in
set_option maxHeartbeats 16000000 in
theorem merges_law {w : World} {a b d : Option Addr} {n m r ac bc dc : Nat} {xs ys : List Ln} {ms : List Md} {mp mv : Str} {kk : Int} (hg : Gd w) (hx : xs.length = n) (hy : ys.length = m) (hm : ms.length = r) (hr6 : r ≤ 1048576) (hmp : mp.length ≤ 1048576) (hA : LRow w a xs) (hB : LRow w b ys) (hD : MRow w d ms) (hxo : ∀ x ∈ xs, MdOk (x.p, x.v)) (hmo : ∀ x ∈ ms, MdOk x) :
    Calls Tryz.prog 5 #[.slice a n ac, .slice b m bc, .agg #[.string (ba mp), .string (ba mv)], .int .i64 kk, .slice d r dc] w fun e w' => e = .returned (.bool true) ∧ Below w.heap.size w w' := by
  obtain ⟨W0, hW0⟩ : ∃ W0, w.alloc (.cells #[.string (ba mp), .string (ba mv)] 36) = W0 := ⟨_, rfl⟩
  have b0 : Below w.heap.size w W0 := by rw [← hW0]; exact (Below.refl _ _).alloc (Nat.le_refl _) _
  have k0 : Blk W0 w.heap.size #[.string (ba mp), .string (ba mv)] 36 := by rw [← hW0]; exact Blk.new _ _ _
  have HG := hide hg
  have HX := hide hx
  have HY := hide hy
  have HM := hide hm
  have HA := hide hA
  have HB := hide hB
  have HD := hide hD
  have HXO := hide hxo
  have HMO := hide hmo
  have HW0 := hide hW0
  have HB0 := hide b0
  have HK0 := hide k0
  have hsz : (ba mp).size = mp.length := ba_size mp
  clear hg hx hy hm hA hB hD hxo hmo hW0 b0 k0
  go_enter Tryz.func5, Tryz.ntmps5
  go_wp2_with (go_at_call 11; fail)
  rw [unhide HW0]
  refine (first_any ((unhide HG).low (unhide HB0))).mono ?_
  rintro e w1 ⟨rfl, b1⟩
  have B1 := hide (low_trans (unhide HB0) b1)
  have K1 := hide ((unhide HK0).low b1)
  have F1 := hide (fewL_any (c := ac) (unhide HX) ((unhide HA).low (unhide B1)))
  clear b1
  go_wp2_with (go_at_call 12; fail)
  refine (unhide F1).mono ?_
  rintro e w2 ⟨⟨r1, rfl, hr1⟩, q, hw⟩
  rw [hw]; clear hw w2 F1
  cases r1 with
  | false =>
    clear hr1
    go_wp2
    go_ret
    exact ⟨rfl, low_drewN (unhide B1) q⟩
  | true =>
    have hn100 := hr1 rfl
    clear hr1
    have F2 := hide (fewL_any (c := bc) (unhide HY) ((unhide HB).low (low_drewN (unhide B1) q)))
    go_wp2_with (go_at_call 12; fail)
    refine (unhide F2).mono ?_
    rintro e w2 ⟨⟨r1, rfl, hr1⟩, q2, hw⟩
    rw [hw]; clear hw w2 F2
    cases r1 with
    | false =>
      clear hr1
      go_wp2
      go_ret
      exact ⟨rfl, low_drewN (unhide B1) (q + q2)⟩
    | true =>
      have hm100 := hr1 rfl
      clear hr1
      obtain ⟨W, hW⟩ : ∃ W, (w1.drewN q).drewN q2 = W := ⟨_, rfl⟩
      have BW : Hid (Below w.heap.size w W) := hide (by rw [← hW]; exact low_drewN (low_drewN (unhide B1) q) q2)
      have KW : Hid (Blk W w.heap.size #[.string (ba mp), .string (ba mv)] 36) := hide (by rw [← hW]; exact (unhide K1).low (low_drewN (low_drewN (Below.refl _ _) _) _))
      rw [hW]
      clear hW
      have c0 : W.cell? ⟨w.heap.size, 0, none⟩ = some (.string (ba mp)) := (unhide KW).cell 0
      have c1 : W.cell? ⟨w.heap.size, 1, none⟩ = some (.string (ba mv)) := (unhide KW).cell 1
      rcases Nat.lt_or_ge 100 r with h100 | h100
      · have g1 : (100 : Int) < (r : Int) := by omega
        go_wp2
        go_ret
        exact ⟨rfl, unhide BW⟩
      have g1 : ¬ (100 : Int) < (r : Int) := by omega
      rcases Nat.lt_or_ge 8000 mp.length with h8 | h8
      · have g2 : (8000 : Int) < (mp.length : Int) := by omega
        go_wp2
        go_ret
        exact ⟨rfl, unhide BW⟩
      have g2 : ¬ (8000 : Int) < (mp.length : Int) := by omega
      have M1 := hide (merge_out (ac := ac) (bc := bc) ((unhide HG).low (unhide BW)) (unhide HX) (unhide HY) (by omega) (by omega) ((unhide HA).low (unhide BW)) ((unhide HB).low (unhide BW)))
      go_wp2_with (go_at_call 27; fail)
      refine (unhide M1).mono ?_
      rintro e w3 ⟨v1, en, zs, rfl, l1, o1, z1, b3⟩
      obtain ⟨a1, cc1, rfl, hl1, _⟩ := Lines.at l1
      obtain ⟨g, hgg, hwp⟩ := lines_wipe w.heap.size l1
      have hW1 := lt_of_cell c0
      have HGA : Hid (w.heap.size ≤ g) := hide (by show w.heap.size ≤ g; simp only at hW1; omega)
      have HGB : Hid (g < w3.heap.size) := hide (by show g < w3.heap.size; have := b3.size; simp only at hW1; omega)
      have HMO1 := hide o1
      have B3 := hide (low_trans (unhide BW) b3)
      have HLZ := hide hl1
      have HWP := hide hwp
      have hzN : zs.length ≤ 200 := by omega
      have KW3 := hide ((unhide KW).low b3)
      have LI1 := hide (lines_any (c := ac) (unhide HX) (by omega) ((unhide HA).low (unhide B3)))
      clear l1 o1 z1 b3 hwp hl1 hgg hW1 c0 c1 M1
      go_wp2_with (go_at_call 23; fail)
      refine (unhide LI1).mono ?_
      rintro e w4 ⟨v2, rfl, l2, b4⟩
      obtain ⟨a2, c2, rfl, lr2, _⟩ := RLines.at l2
      rw [unhide HX]
      have B4 := hide b4
      have LI2 := hide (lines_any (c := bc) (unhide HY) (by omega) ((unhide HB).low (low_trans (unhide B3) b4)))
      have HL2 := hide lr2
      clear l2 lr2 b4 LI1
      go_wp2_with (go_at_call 23; fail)
      refine (unhide LI2).mono ?_
      rintro e w5 ⟨v3, rfl, l3, b5⟩
      obtain ⟨a3, c3, rfl, lr3, _⟩ := RLines.at l3
      rw [unhide HY]
      have B5 := hide (low_trans (unhide B4) b5)
      have RM := hide (refMerge_any (ac := c2) (bc := c3) (unhide HX) (unhide HY) (by omega) (by omega) ((unhide HL2).low b5) lr3)
      clear l3 lr3 b5 LI2
      go_wp2_with (go_at_call 28; fail)
      refine (unhide RM).mono ?_
      rintro e w6 ⟨v4, en4, zs4, rfl, l4, o4, b6⟩
      obtain ⟨rfl, rfl⟩ := (unhide HMO1).one o4
      obtain ⟨a4, c4, rfl, lr4, _⟩ := RLines.at l4
      have B6 := hide (low_trans (unhide B5) b6)
      have HL4 := hide lr4
      have K6 := hide ((unhide KW3).low (unhide B6))
      obtain ⟨N, hN⟩ : ∃ N, zs.length = N := ⟨_, rfl⟩
      rw [hN] at HWP hzN ⊢
      have HN := hide hN
      clear o4 l4 lr4 b6 RM HL2 hN
      have c0 : w6.cell? ⟨w.heap.size, 0, none⟩ = some (.string (ba mp)) := (unhide K6).cell 0
      have c1 : w6.cell? ⟨w.heap.size, 1, none⟩ = some (.string (ba mv)) := (unhide K6).cell 1
      obtain ⟨sv, bv, hfv⟩ := findV_parts (findR xs mp mv kk)
      have FN : Hid (Calls Tryz.prog 17 #[.slice a n ac, .agg #[.string (ba mp), .string (ba mv)], .int .i64 kk] w6 fun e w' => e = .returned (.tuple #[.string sv, .bool bv]) ∧ Below w6.heap.size w6 w') := hide (by
        have := find_any (c := ac) (mp := mp) (mv := mv) (kk := kk) (unhide HX) (by omega) ((unhide HA).low (low_trans (unhide B3) (unhide B6)))
        rw [hfv] at this
        exact this)
      go_wp2_with (go_at_call 17; fail)
      refine (unhide FN).mono ?_
      rintro e w7 ⟨rfl, b7⟩
      have B7 := hide (low_trans (unhide B6) b7)
      have C7 := hide b7
      have K7 := (unhide K6).low b7
      have d0 : w7.cell? ⟨w.heap.size, 0, none⟩ = some (.string (ba mp)) := K7.cell 0
      have d1 : w7.cell? ⟨w.heap.size, 1, none⟩ = some (.string (ba mv)) := K7.cell 1
      have hS : w7.cell? ⟨w.heap.size, 0, none⟩ = some (.string (ba mp)) ∧ w7.cell? ⟨w.heap.size, 1, none⟩ = some (.string (ba mv)) ∧ Below w7.heap.size w7 w7 := ⟨d0, d1, Below.refl _ _⟩
      have hSd : w7.drew.cell? ⟨w.heap.size, 0, none⟩ = some (.string (ba mp)) ∧ w7.drew.cell? ⟨w.heap.size, 1, none⟩ = some (.string (ba mv)) ∧ Below w7.heap.size w7 w7.drew := ⟨d0, d1, (Below.refl _ _).drew⟩
      have KX23 : Hid (∀ wx, (wx.cell? ⟨w.heap.size, 0, none⟩ = some (.string (ba mp)) ∧ wx.cell? ⟨w.heap.size, 1, none⟩ = some (.string (ba mv)) ∧ Below w7.heap.size w7 wx) → Calls Tryz.prog 23 #[.slice a n ac] wx fun e w' => ∃ a5 c5, e = .returned (.slice a5 n c5) ∧ LRow w' a5 xs ∧ (w'.cell? ⟨w.heap.size, 0, none⟩ = some (.string (ba mp)) ∧ w'.cell? ⟨w.heap.size, 1, none⟩ = some (.string (ba mv)) ∧ Below w7.heap.size w7 w')) := hide (fun wx ⟨x1, x2, x3⟩ => by
        refine (lines_any (c := ac) (unhide HX) (by omega) ((unhide HA).low (low_trans (low_trans (unhide B3) (unhide B7)) x3))).mono ?_
        rintro e w' ⟨v, rfl, hv, hb⟩
        obtain ⟨a5, c5, rfl, lr5, _⟩ := RLines.at hv
        exact ⟨a5, c5, by rw [unhide HX], lr5, (hb.cell (lt_of_cell x1)).trans x1, (hb.cell (lt_of_cell x2)).trans x2, low_trans x3 hb⟩)
      have KX29 : Hid (∀ wx a5 c5, LRow wx a5 xs → (wx.cell? ⟨w.heap.size, 0, none⟩ = some (.string (ba mp)) ∧ wx.cell? ⟨w.heap.size, 1, none⟩ = some (.string (ba mv)) ∧ Below w7.heap.size w7 wx) → Calls Tryz.prog 29 #[.slice a5 n c5, .agg #[.string (ba mp), .string (ba mv)], .int .i64 kk] wx fun e w' => e = .returned (.tuple #[.string sv, .bool bv]) ∧ (w'.cell? ⟨w.heap.size, 0, none⟩ = some (.string (ba mp)) ∧ w'.cell? ⟨w.heap.size, 1, none⟩ = some (.string (ba mv)) ∧ Below w7.heap.size w7 w')) := hide (fun wx a5 c5 hl ⟨x1, x2, x3⟩ => by
        have := refFind_any (c := c5) (mp := mp) (mv := mv) (kk := kk) (unhide HX) (by omega) hl
        rw [hfv] at this
        refine this.mono ?_
        rintro e w' ⟨rfl, hb⟩
        exact ⟨rfl, (hb.cell (lt_of_cell x1)).trans x1, (hb.cell (lt_of_cell x2)).trans x2, low_trans x3 hb⟩)
      clear FN b7 K7 c0 c1 hfv
      go_wp2
      go_region_held3 (fun wx => wx.cell? ⟨w.heap.size, 0, none⟩ = some (.string (ba mp)) ∧ wx.cell? ⟨w.heap.size, 1, none⟩ = some (.string (ba mv)) ∧ Below w7.heap.size w7 wx)
        (first | assumption | exact hS | exact hSd)
        (first
          | (go_at_call 23; refine (unhide KX23 _ (by assumption)).mono ?_; rintro e w9 ⟨a5, c5, rfl, hr5, hS9⟩)
          | (revert hr5; intro hr5; go_at_call 29; refine (unhide KX29 _ _ _ (by assumption) (by assumption)).mono ?_; rintro e w9 ⟨rfl, hS9⟩))
      have hb9 : Below w7.heap.size w7 w9 := hS9.2.2
      have B9 := hide (low_trans (unhide B7) hb9)
      have C9 := hide (low_trans (unhide C7) hb9)
      have KE := hide (keep_any (c := ac) (d := dc) (unhide HX) (unhide HM) (by omega) (by omega) ((unhide HA).low (low_trans (unhide B3) (unhide B9))) ((unhide HD).low (low_trans (unhide B3) (unhide B9))) (unhide HXO) (unhide HMO))
      clear hS hSd hS9 hb9 KX23 KX29 d0 d1 hr5
      go_wp2_with (go_at_call 30; fail)
      refine (unhide KE).mono ?_
      rintro e w10 ⟨v10, rfl, l10, b10⟩
      have B10 := hide (low_trans (unhide B9) b10)
      have C10 := hide (low_trans (unhide C9) b10)
      obtain ⟨M, hM⟩ : ∃ M, (keepR ms xs).length = M := ⟨_, rfl⟩
      have HMM := hide hM
      have hMn : M ≤ n := by rw [← hM, ← unhide HX]; exact List.length_filter_le _ _
      obtain ⟨a10, c10, rfl, lr10, _⟩ := Lines.at l10
      obtain ⟨g2, hgg2, hwp2⟩ := lines_wipe w.heap.size l10
      rw [hM] at hgg2 hwp2
      have HLR10 := hide lr10
      have HWP2 := hide hwp2
      have HG2 : Hid (w.heap.size ≤ g2 ∧ g2 < w10.heap.size ∧ (M = 0 ∨ g2 ≠ g)) := hide (by
        have h1 := (unhide B3).size
        have h2 := (unhide B9).size
        have h3 := b10.size
        have h4 := unhide HGB
        have h5 := unhide HGA
        rcases hgg2 with ⟨e, rfl⟩ | ⟨e1, e2⟩
        · exact ⟨Nat.le_refl _, by omega, Or.inl e⟩
        · exact ⟨by omega, e2, Or.inr (by omega)⟩)
      have LI3 := hide (lines_any (c := ac) (unhide HX) (by omega) ((unhide HA).low (low_trans (unhide B3) (unhide B10))))
      clear l10 lr10 b10 hM KE hgg2 hwp2
      go_wp2_with (go_at_call 23; fail)
      refine (unhide LI3).mono ?_
      rintro e w11 ⟨v11, rfl, l11, b11⟩
      obtain ⟨a11, c11, rfl, lr11, _⟩ := RLines.at l11
      rw [unhide HX]
      have B11 := hide (low_trans (unhide B10) b11)
      have RK := hide (refKeep_any (c := c11) (d := dc) (unhide HX) (unhide HM) (by omega) (by omega) lr11 ((unhide HD).low (low_trans (unhide B3) (unhide B11))))
      have HB11 := hide b11
      clear l11 lr11 b11 LI3
      go_wp2_with (go_at_call 31; fail)
      refine (unhide RK).mono ?_
      rintro e w12 ⟨v12, rfl, l12, b12⟩
      obtain ⟨a12, c12, rfl, lr12, _⟩ := RLines.at l12
      rw [unhide HMM]
      have B12 := hide (low_trans (unhide B11) b12)
      have S1 := hide (sameLines_same (ac := c10) (bc := c12) (unhide HMM) (by omega) ((unhide HLR10).low (low_trans (unhide HB11) b12)) lr12)
      have HB12 := hide (low_trans (unhide HB11) b12)
      clear l12 lr12 b12 RK
      go_wp2_with (go_at_call 24; fail)
      refine (unhide S1).mono ?_
      rintro e w13 ⟨rfl, q3, hw⟩
      rw [hw]; clear hw w13 S1
      have S2 := hide (sameLines_same (w := w12.drewN q3) (ac := cc1) (bc := c4) (unhide HN) (by omega) ((unhide HLZ).low (low_drewN (unhide B12) _)) ((unhide HL4).low (low_drewN (low_trans (unhide C10) (unhide HB12)) _)))
      go_wp2_with (go_at_call 24; fail)
      refine (unhide S2).mono ?_
      rintro e w13 ⟨rfl, q4, hw⟩
      rw [hw]; clear hw w13 S2
      obtain ⟨WA, hWA⟩ : ∃ WA, (w12.drewN q3).drewN q4 = WA := ⟨_, rfl⟩
      rw [hWA]
      have BA := hide (by rw [← hWA]; exact low_drewN (low_drewN (unhide B12) q3) q4 : Below w3.heap.size w3 WA)
      have HBA := hide (by rw [← hWA]; exact low_drewN (low_drewN (unhide HB12) q3) q4 : Below w10.heap.size w10 WA)
      have LI4 := hide (lines_any (c := ac) (unhide HX) (by omega) ((unhide HA).low (low_trans (unhide B3) (unhide BA))))
      clear hWA
      go_wp2_with (go_at_call 23; fail)
      refine (unhide LI4).mono ?_
      rintro e w14 ⟨v14, rfl, l14, b14⟩
      obtain ⟨a14, c14, rfl, lr14, _⟩ := RLines.at l14
      rw [unhide HX]
      have B14 := hide (low_trans (unhide BA) b14)
      have HB14 := hide (low_trans (unhide HBA) b14)
      have HL14 := hide l14
      clear lr14 b14 LI4
      have hWP := (unhide HWP).move (g' := g + 1) (But.of (unhide B14)) (Or.inr ⟨by omega, unhide HGB⟩)
      have HWP1 := hide hWP
      clear hWP
      go_wp2
      go_loopw [25] (fun v25 wr => ∃ i : Nat, i ≤ N ∧ v25 = .int .i64 i ∧ Wipe w14 a1 N cc1 g wr) (fun v25 _ => N - (intOf v25).toNat)
      case atStart => exact ⟨0, Nat.zero_le _, rfl, unhide HWP1⟩
      case round =>
        rename World => wr
        obtain ⟨i, hi, rfl, hwi⟩ := hrel
        have HWI := hide hwi
        clear hwi
        by_cases hlt : i < N
        · have HBU := hide (unhide HWI).but
          obtain ⟨rfl, dd, hdd, hrr⟩ : a1 = some ⟨g, 0, none⟩ ∧ ∃ d : List Ln, d.length = N ∧ RowL wr g cc1 d := by
            rcases (unhide HWI).row with h | h
            · omega
            · exact h
          have hid : i < dd.length := by omega
          obtain ⟨x1, x2, x3, x4⟩ := hrr.els i hid
          obtain ⟨z, hz⟩ : ∃ z, dd[i] = z := ⟨_, rfl⟩
          rw [hz] at x1 x2 x3 x4
          have g5 := hrr.free (i * 4)
          have g6 := hrr.free (i * 4 + 1)
          have g7 := hrr.free (i * 4 + 2)
          have g8 := hrr.free (i * 4 + 3)
          have HPU := hide (Wipe.put (unhide HBU) hdd hrr hid)
          clear hz hdd hrr hid
          go_wp2
          go_roundw
          case rel => exact ⟨i + 1, hlt, by simp, unhide HPU⟩
          case measure => simp [intOf]; omega
        · have B15 := hide ((unhide HWI).but.low (unhide B14 |> fun b => low_trans (unhide B3) b) (by have := (unhide B3).size; have := (unhide B14).size; omega) (unhide HGA))
          have HR15 := hide (row_but2 (unhide HL14) (by have := unhide HGB; have := (unhide BA).size; omega) (unhide HWI).but)
          have HWP3 := hide (((unhide HWP2).move (g' := g2 + 1) (But.of (unhide HB14)) (Or.inr ⟨by omega, (unhide HG2).2.1⟩)).move (unhide HWI).but ((unhide HG2).2.2.imp id fun h => ⟨h, by have := (unhide HG2).2.1; have := (unhide HB14).size; omega⟩))
          go_wp2
          clear hlt hi
          go_loopw [26] (fun v26 wq => ∃ i : Nat, i ≤ M ∧ v26 = .int .i64 i ∧ Wipe wr a10 M c10 g2 wq) (fun v26 _ => M - (intOf v26).toNat)
          case atStart => exact ⟨0, Nat.zero_le _, rfl, unhide HWP3⟩
          case round =>
            rename World => wq
            obtain ⟨i, hi, rfl, hwi⟩ := hrel
            have HWI2 := hide hwi
            clear hwi
            by_cases hlt : i < M
            · have HBU := hide (unhide HWI2).but
              obtain ⟨rfl, dd, hdd, hrr⟩ : a10 = some ⟨g2, 0, none⟩ ∧ ∃ d : List Ln, d.length = M ∧ RowL wq g2 c10 d := by
                rcases (unhide HWI2).row with h | h
                · omega
                · exact h
              have hid : i < dd.length := by omega
              obtain ⟨x1, x2, x3, x4⟩ := hrr.els i hid
              obtain ⟨z, hz⟩ : ∃ z, dd[i] = z := ⟨_, rfl⟩
              rw [hz] at x1 x2 x3 x4
              have g5 := hrr.free (i * 4)
              have g6 := hrr.free (i * 4 + 1)
              have g7 := hrr.free (i * 4 + 2)
              have g8 := hrr.free (i * 4 + 3)
              have HPU := hide (Wipe.put (unhide HBU) hdd hrr hid)
              clear hz hdd hrr hid
              go_wp2
              go_roundw
              case rel => exact ⟨i + 1, hlt, by simp, unhide HPU⟩
              case measure => simp [intOf]; omega
            · have B16 := hide ((unhide HWI2).but.low (unhide B15) (unhide B15).size (unhide HG2).1)
              obtain ⟨a16, c16, e16, lr16, _⟩ := RLines.at (row_but2 (unhide HR15) (by have := (unhide HG2).2.1; have := (unhide HBA).size; omega) (unhide HWI2).but)
              rw [unhide HX] at e16
              cases e16
              have S3 := hide (sameLines_same (ac := ac) (bc := c14) (unhide HX) (by omega) ((unhide HA).low (unhide B16)) lr16)
              have e1 : (en == en) = true := by simp
              have e2 : (sv.toList == sv.toList) = true := by simp
              have e3 : (bv == bv) = true := by simp
              clear lr16
              go_wp2_with (go_at_call 15; refine (num_any en _).mono ?_; rintro e w17 ⟨rfl, hw⟩; rw [hw]; clear hw w17)
              go_wp2_with (go_at_call 24; fail)
              refine (unhide S3).mono ?_
              rintro e w17 ⟨rfl, q5, hw⟩
              rw [hw]; clear hw w17 S3
              go_wp2
              go_ret
              exact ⟨rfl, low_drewN (unhide B16) q5⟩

end Go.Proofs.YthcafeoamabkgaaGreatDoor
