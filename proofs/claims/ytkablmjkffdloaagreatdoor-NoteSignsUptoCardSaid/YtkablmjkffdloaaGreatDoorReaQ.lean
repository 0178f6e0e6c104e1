/-
  Lines of signatures read, the program's: one good line.
-/
import Derived.Test.YtkablmjkffdloaaGreatDoorSgnQ
import Derived.Test.YtkablmjkffdloaaGreatDoorGyA
namespace Go.Proofs.YtkablmjkffdloaaGreatDoor
open Go.RowKit

theorem low_put3 {w wa : World} {g : Nat} {x y z : Value} (b : Below w.heap.size w wa) (hg : w.heap.size ≤ g) : Below w.heap.size w (((wa.setCell ⟨g, 0, none⟩ x).setCell ⟨g, 1, none⟩ y).setCell ⟨g, 2, none⟩ z) := low_put2 (low_put2 (low_put2 b hg) hg) hg

theorem BAt.far {w : World} {g O p k : Nat} {xs : Bs} {v : Value} (h : BAt w (some ⟨g, O, none⟩) xs) (hne : p ≠ g) : BAt (w.setCell ⟨p, k, none⟩ v) (some ⟨g, O, none⟩) xs := by
  rcases h.els with h0 | ⟨B, O', e, hc⟩
  · exact ⟨Or.inl h0⟩
  · cases e
    exact ⟨Or.inr ⟨g, O, rfl, fun j hj => by rw [World.cell?_setCell_far _ _ _ _ hne]; exact hc j hj⟩⟩

/-- The line of a signature: its name, what its code says. -/
structure IsLine (l nm b : Bs) : Prop where
  pre : Lib.hasPrefix l dashB = true
  cut : ∃ code, Lib.cut (Lib.trimPrefix l dashB) [32] = (nm, code, true) ∧ fromL code = some b
  name : nameB nm = true
  five : 5 ≤ b.length
  few : b.length ≤ 1000000

set_option maxRecDepth 100000 in
set_option maxHeartbeats 4000000 in
theorem readLine_ok {w : World} {l nm b : Bs} (hl : l.length ≤ 200000) (h : IsLine l nm b) (hg : Gy w) :
    Calls Tryz.prog 193 #[.string (ba l)] w fun e w' => ∃ g n c, e = .returned (.tuple #[.agg #[.string (ba nm), .int .u32 ((numU b).toNat : Int), .slice (some ⟨g, 4, none⟩) n c], .bool true]) ∧ n = b.length - 4 ∧ BAt w' (some ⟨g, 4, none⟩) (b.drop 4) ∧ Below w.heap.size w w' := by
  obtain ⟨hpre, ⟨code, hcut, hfr⟩, hname, h5, hfew⟩ := h
  obtain ⟨B, hB⟩ : ∃ B, w.heap.size = B := ⟨_, rfl⟩
  obtain ⟨W0, hW0⟩ : ∃ W0, w.alloc (.cells #[.string ⟨#[]⟩, .int .u32 0, .slice none 0 0] 157) = W0 := ⟨_, rfl⟩
  have bb : Below w.heap.size w W0 := by rw [← hW0]; exact lowA (Below.refl _ _) _
  have q0 : Blk W0 B #[.string ⟨#[]⟩, .int .u32 0, .slice none 0 0] 157 := by rw [← hW0, ← hB]; exact Blk.new _ _ _
  have hg0 : Gy W0 := hg.low bb
  obtain ⟨m, hm⟩ := hg0.ml
  obtain ⟨R, hR⟩ : ∃ R, Lib.trimPrefix l dashB = R := ⟨_, rfl⟩
  rw [hR] at hcut
  have hRl : R.length ≤ 200000 := by
    have : (Lib.trimPrefix l dashB).length ≤ l.length := by unfold Lib.trimPrefix; split <;> simp
    rw [hR] at this
    omega
  have hcl : nm.length ≤ 200000 ∧ code.length ≤ 200000 := by
    have hC := hcut
    unfold Lib.cut at hC
    split at hC
    · obtain ⟨rfl, rfl⟩ : _ ∧ _ := by simpa using hC
      constructor
      · rw [List.length_take]; omega
      · rw [List.length_drop]; omega
    · simp at hC
  have K1 : Hid (∀ w : World, Calls Tryz.prog 95 #[.string (ba l), .string ⟨#[226, 128, 148, 32]⟩] w fun e w' => e = .returned (.tuple #[.string (ba R), .bool true]) ∧ w' = w) := hide (fun w => by
    have k := Tryz.strings_CutPrefix (ba l) (ba dashB) w
    rw [ba_data, ba_data, hR, hpre] at k
    exact k)
  have K2 : Hid (Calls Tryz.prog 120 #[.string (ba R), .string ⟨#[32]⟩] W0 fun e w' => e = .returned (.tuple #[.string (ba nm), .string (ba code), .bool true]) ∧ Below W0.heap.size W0 w') := hide (by
    have k := Tryz.strings_Cut (ba R) (ba [32]) m W0 (by rw [ba_size]; omega) hm
    rw [ba_data, ba_data, hcut] at k
    refine k.mono ?_
    rintro e w' ⟨rfl, q, rfl⟩
    exact ⟨rfl, lowN (Below.refl _ _) _⟩)
  have K3 : Hid (∀ w : World, Calls Tryz.prog 151 #[.string (ba nm)] w fun e w' => e = .returned (.bool true) ∧ w' = w) := hide (fun w => by
    have k := isKeyName_any (l := nm) (by omega) w
    rw [hname] at k
    exact k)
  have hfe : fromE code = 0 := by unfold fromE; rw [hfr]; rfl
  have hfv : fromV code = b := by unfold fromV; rw [hfr]; rfl
  have K4 : Hid (∀ w : World, Calls Tryz.prog 24 #[.string (ba code)] w fun e w' => ∃ v, e = .returned (.tuple #[v, .int .i64 0]) ∧ OwnB w.heap.size w' v b ∧ Below w.heap.size w w') := hide (fun w => by
    have k := fromB64_any (w := w) (s := code) (by omega)
    rw [hfe, hfv] at k
    exact k)
  have HQ0 := hide q0
  have HB0 := hide bb
  have HW0 := hide hW0
  have HBB := hide hB
  have H5 := hide h5
  have H6 := hide hfew
  clear hpre hcut hfr hname hg hg0 hm hl hRl hcl hfe hfv hR q0 bb hW0 hB h5 hfew
  go_enter Tryz.func193, Tryz.ntmps193
  go_wp2_with (go_at_call 95; fail)
  rw [unhide HW0, unhide HBB]
  clear HW0
  refine (unhide K1 _).mono ?_
  rintro e wn ⟨rfl, hwn⟩
  rw [hwn]
  clear hwn wn K1
  go_wp2_with (go_at_call 120; fail)
  refine (unhide K2).mono ?_
  rintro e w1 ⟨rfl, b1⟩
  have HB1 := hide b1
  clear b1 K2
  go_wp2_with (first
    | (go_at_call 151; refine (unhide K3 _).mono ?_; rintro e wn ⟨rfl, hwn⟩; rw [hwn]; clear hwn wn)
    | (go_at_call 24; fail))
  refine (unhide K4 _).mono ?_
  rintro e w2 ⟨v2, rfl, o2, b2⟩
  obtain ⟨g, c0, rfl⟩ := own_at0 o2 (by have := unhide H5; omega)
  obtain ⟨a', c', e', at2, hc2, hcm⟩ := OwnB.at o2
  obtain ⟨e1, -, e3⟩ := Value.slice.inj e'
  subst e3
  rw [← e1] at at2
  obtain ⟨n, hn⟩ : ∃ n, b.length = n := ⟨_, rfl⟩
  rw [hn] at hc2 ⊢
  have hn5 : 5 ≤ n := by have := unhide H5; omega
  have hcm2 : c0 ≤ 9223372036854775807 := by unfold maxLen at hcm; omega
  have hbl : n ≤ 1000000000 := by have := unhide H6; omega
  have HGB : Hid (w1.heap.size ≤ g) := hide (OwnB.base o2 g rfl)
  have HB2 := hide (low_trans (unhide HB1) b2)
  have q2 := (unhide HQ0).low (unhide HB2)
  have KN := hide (number_any (w := w2.drew) (c := c0) hn (by omega) hbl (at2.low (Below.refl _ _).drew))
  have HAT : Hid (BAt w2 (some ⟨g, 4, none⟩) (b.drop 4)) := hide (by have := at2.drop 4; simpa using this)
  have HN := hide hn
  have HQ2 := hide q2
  have i1 : ¬ (n : Int) ≤ 4 := by omega
  have i2 : (4 : Int) ≤ (n : Int) := by omega
  have i3 : (n : Int) ≤ (c0 : Int) := by omega
  clear o2 b2 e' e1 at2 hcm hn q2 K3 K4
  go_wp2
  go_region_held3 (fun _ => True)
    (trivial)
    (first
      | (go_at_call 153; refine (unhide KN).mono ?_; rintro e w3 ⟨rfl, b3⟩; have q3 := (unhide HQ2).low (low_trans (lowD (Below.refl _ _)) b3); have c30 := q3.cell 0; have c31 := q3.cell 1; have c32 := q3.cell 2; have f30 := q3.free 0; have f31 := q3.free 1; have f32 := q3.free 2; have HB3 := hide (low_trans (lowD (Below.refl _ w2)) b3); have HQ3 := hide q3; clear b3 q3))
  obtain ⟨N, hN⟩ : ∃ N : Nat, (numU b).toNat = N := ⟨_, rfl⟩
  rw [hN]
  have HNN := hide hN
  have qs := (((unhide HQ3).set 0 (.string (ba nm))).set 1 (.int .u32 (N : Int))).set 2 (.slice (some ⟨g, 4, none⟩) (n - 4) (c0 - 4))
  have d0 := qs.cell 0
  have d1 := qs.cell 1
  have d2 := qs.cell 2
  have hBg : B ≠ g := by
    have h1 := (unhide HQ0).lt
    have h2 := unhide HGB
    have h3 := (unhide HB1).size
    omega
  have hL3 := low_trans (unhide HB0) (low_trans (unhide HB2) (unhide HB3))
  have HL : Hid (Below w.heap.size w (((w3.setCell ⟨B, 0, none⟩ (.string (ba nm))).setCell ⟨B, 1, none⟩ (.int .u32 (N : Int))).setCell ⟨B, 2, none⟩ (.slice (some ⟨g, 4, none⟩) (n - 4) (c0 - 4)))) := hide (low_put3 hL3 (by rw [unhide HBB]; exact Nat.le_refl _))
  have HZ : Hid (BAt (((w3.setCell ⟨B, 0, none⟩ (.string (ba nm))).setCell ⟨B, 1, none⟩ (.int .u32 (N : Int))).setCell ⟨B, 2, none⟩ (.slice (some ⟨g, 4, none⟩) (n - 4) (c0 - 4))) (some ⟨g, 4, none⟩) (b.drop 4)) := hide (BAt.far (BAt.far (BAt.far ((unhide HAT).low (unhide HB3)) hBg) hBg) hBg)
  clear qs hN hL3
  go_wp2
  exact bodyPost_ret (v := .tuple #[.agg #[.string (ba nm), .int .u32 (N : Int), .slice (some ⟨g, 4, none⟩) (n - 4) (c0 - 4)], .bool true]) (by simp [results, Tryz.results193, go_sem, d0, d1, d2]) rfl ⟨g, n - 4, c0 - 4, by rw [unhide HNN], by rw [unhide HN], unhide HZ, unhide HL⟩
end Go.Proofs.YtkablmjkffdloaaGreatDoor

namespace Go.Proofs.YtkablmjkffdloaaGreatDoor
open Go.RowKit

theorem info157 : (Tryz.prog.info? 157).map (fun i => (i.zero, i.size, i.bytes)) = some (some (.agg #[.string ⟨#[]⟩, .int .u32 0, .slice none 0 0]), 3, 48) := by kernel_rfl

/-- One signature in a row: its cells and its bytes. -/
structure OneSig (w : World) (v : Value) (nm b : Bs) : Prop where
  at_ : ∃ R cap g c, v = .slice (some ⟨R, 0, none⟩) 1 cap ∧ 1 ≤ cap ∧ w.cell? ⟨R, 0, none⟩ = some (.string (ba nm)) ∧ w.cell? ⟨R, 1, none⟩ = some (.int .u32 ((numU b).toNat : Int)) ∧ w.cell? ⟨R, 2, none⟩ = some (.slice (some ⟨g, 4, none⟩) (b.length - 4) c) ∧ BAt w (some ⟨g, 4, none⟩) (b.drop 4)
theorem OneSig.low {w w' : World} {v : Value} {nm b : Bs} (h : OneSig w v nm b) (hb : Below w.heap.size w w') : OneSig w' v nm b := by
  obtain ⟨R, cap, g, c, hv, h0, h1, h2, h3, h4⟩ := h.at_
  exact ⟨⟨R, cap, g, c, hv, h0, (hb.cell (lt_of_cell h1)).trans h1, (hb.cell (lt_of_cell h2)).trans h2, (hb.cell (lt_of_cell h3)).trans h3, h4.low hb⟩⟩

set_option maxRecDepth 100000 in
set_option maxHeartbeats 4000000 in
theorem readLines_one {w : World} {ls l nm b : Bs} (hl : ls.length ≤ 200000) (h1 : Lib.hasSuffix ls [10] = true) (h2 : Lib.trimSuffix ls [10] = l) (h3 : Lib.countB (ba l) (ba [10]) = 0) (h : IsLine l nm b) (hg : Gy w) :
    Calls Tryz.prog 159 #[.string (ba ls)] w fun e w' => ∃ v, e = .returned (.tuple #[v, .bool true]) ∧ OneSig w' v nm b ∧ Below w.heap.size w w' := by
  obtain ⟨i0, hi, hz0, hz1, hz2⟩ := info_parts info157
  obtain ⟨m, hm⟩ := hg.ml
  have hll : l.length ≤ 200000 := by
    have : (Lib.trimSuffix ls [10]).length ≤ ls.length := by unfold Lib.trimSuffix; split <;> simp
    rw [h2] at this
    omega
  have K1 : Hid (∀ w : World, Calls Tryz.prog 192 #[.string (ba ls), .string ⟨#[10]⟩] w fun e w' => e = .returned (.tuple #[.string (ba l), .bool true]) ∧ w' = w) := hide (fun w => by
    have k := Tryz.strings_CutSuffix (ba ls) (ba [10]) w (by rw [ba_size]; omega)
    rw [ba_data, ba_data, h2, h1] at k
    exact k)
  obtain ⟨A, hA⟩ : ∃ A, w.heap.size = A := ⟨_, rfl⟩
  obtain ⟨W1, hW1⟩ : ∃ W1, w.alloc (.cells #[.string (ba l)] 9) = W1 := ⟨_, rfl⟩
  have b1 : Below w.heap.size w W1 := by rw [← hW1]; exact lowA (Below.refl _ _) _
  have q1 : Blk W1 A #[.string (ba l)] 9 := by rw [← hW1, ← hA]; exact Blk.new _ _ _
  have K2 : Hid (Calls Tryz.prog 98 #[.string (ba l), .string ⟨#[10]⟩] w fun e w' => e = .returned (.slice (some ⟨A, 0, none⟩) 1 1) ∧ w' = W1) := hide (by
    have k := Tryz.strings_Split (ba l) (ba [10]) m w (by rw [ba_size]; omega) hm (by decide)
    rw [h3, Lib.splitB_zero, hA] at k
    rw [← hW1]
    exact k)
  have K3 := hide (readLine_ok (w := W1) hll h (hg.low b1))
  have k0 : W1.cell? ⟨A, 0, none⟩ = some (.string (ba l)) := q1.cell 0
  have HB1 := hide b1
  have HA := hide hA
  clear h h1 h2 h3 hl hg hm hll b1 q1 hW1
  go_enter Tryz.func159, Tryz.ntmps159
  go_wp2_with (go_at_call 192; fail)
  refine (unhide K1 _).mono ?_
  rintro e wn ⟨rfl, hwn⟩
  rw [hwn]
  clear hwn wn K1
  go_wp2_with (go_at_call 98; fail)
  refine (unhide K2).mono ?_
  rintro e wn ⟨rfl, hwn⟩
  rw [hwn]
  clear hwn wn K2
  go_wp2
  go_loopw [6, 8, 9, 10, 21] (fun v6 _ _ _ v21 wr => (v21 = .int .i64 0 ∧ v6 = .slice none 0 0 ∧ wr = W1) ∨ (v21 = .int .i64 1 ∧ OneSig wr v6 nm b ∧ Below w.heap.size w wr)) (fun _ _ _ _ v21 _ => 1 - (intOf v21).toNat)
  case atStart => exact Or.inl ⟨rfl, rfl, rfl⟩
  case round =>
    rename World => wr
    rcases hrel with ⟨rfl, rfl, rfl⟩ | ⟨rfl, h6, hbw⟩
    · go_wp2_with (go_at_call 193; fail)
      refine (unhide K3).mono ?_
      rintro e w4 ⟨g, n, c, rfl, hn, at4, b4⟩
      obtain ⟨N, hN⟩ : ∃ N : Nat, (numU b).toNat = N := ⟨_, rfl⟩
      rw [hN]
      have HN := hide hN
      have HNN := hide hn
      have HAT := hide at4
      have HB4 := hide (low_trans (unhide HB1) b4)
      clear hN hn at4 b4 K3
      go_wp2_with (at_builtin; refine wpList_append_own _ rfl _ _ 158 rfl w4.heap.size 157 i0 (.agg #[.string ⟨#[]⟩, .int .u32 0, .slice none 0 0]) 3 48 Tryz.underlying158 hi hz0 hz1 hz2 rfl (by decide) _ 0 [] rfl ⟨rfl, Or.inl ⟨rfl, rfl⟩⟩ ⟨w4.heap.size + 1, 0, none⟩ 1 1 [.string (ba nm), .int .u32 (N : Int), .slice (some ⟨g, 4, none⟩) n c] rfl rfl ?cells ?kind ?room ?len ?base ?_)
      case cells =>
        intro j u hj
        match j, hj with
        | 0, hj => simp at hj; subst hj; simp [Addr.add]
        | 1, hj => simp at hj; subst hj; simp [Addr.add]
        | 2, hj => simp at hj; subst hj; simp [Addr.add]
      case kind => intro u hu; simp at hu; rcases hu with rfl | rfl | rfl <;> rfl
      case room => unfold maxLen; omega
      case len => omega
      case base => simp; omega
      intro v' w7 hown hgrow _
      have b7 : Below w4.heap.size w4 w7 := (lowA (lowA (Below.refl _ _) _) _).grown hgrow (by simp; omega) (fun j hj => by cases hj)
      have HS : Hid (OneSig w7 v' nm b) := hide (by
        rcases hown.2 with ⟨_, h0⟩ | ⟨R, cap, cur, rfl, hR, hblk, hcap, _, _, htk⟩
        · simp at h0
        · have hc : ∀ j, j < 3 → cur[j]? = ([.string (ba nm), .int .u32 (N : Int), .slice (some ⟨g, 4, none⟩) n c] : List Value)[j]? := fun j hj => by
            have := congrArg (fun l : List Value => l[j]?) htk
            rw [← this, List.getElem?_take_of_lt (by omega)]
            simp
          refine ⟨⟨R, cap, g, c, by simp, by omega, ?_, ?_, ?_, (unhide HAT).low b7⟩⟩
          · rw [Lib.cell_of_heap hblk, hc 0 (by omega)]; rfl
          · rw [Lib.cell_of_heap hblk, hc 1 (by omega), unhide HN]; rfl
          · rw [Lib.cell_of_heap hblk, hc 2 (by omega), ← unhide HNN]; rfl)
      have HB7 := hide (low_trans (unhide HB4) b7)
      clear hown hgrow b7
      go_wp2
      go_roundw
      case rel => exact Or.inr ⟨rfl, unhide HS, unhide HB7⟩
      case measure => simp [intOf]
    · have HS := hide h6
      have HBW := hide hbw
      clear h6 hbw
      go_wp2
      go_ret2
      exact ⟨_, rfl, unhide HS, unhide HBW⟩
end Go.Proofs.YtkablmjkffdloaaGreatDoor
