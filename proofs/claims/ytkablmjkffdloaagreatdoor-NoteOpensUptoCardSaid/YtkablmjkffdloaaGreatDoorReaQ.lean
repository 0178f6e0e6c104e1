/-
  Lines of signatures read, the program's: any lines.
-/
import Derived.Test.YtkablmjkffdloaaGreatDoorSgnQ
import Derived.Test.YtkablmjkffdloaaGreatDoorGyA
import Derived.Test.YtkablmjkffdloaaGreatDoorKysQ
namespace Go.Proofs.YtkablmjkffdloaaGreatDoor
open Go.RowKit

theorem low_put3 {w wa : World} {g : Nat} {x y z : Value} (b : Below w.heap.size w wa) (hg : w.heap.size ≤ g) : Below w.heap.size w (((wa.setCell ⟨g, 0, none⟩ x).setCell ⟨g, 1, none⟩ y).setCell ⟨g, 2, none⟩ z) := low_put2 (low_put2 (low_put2 b hg) hg) hg

theorem BAt.far {w : World} {g O p k : Nat} {xs : Bs} {v : Value} (h : BAt w (some ⟨g, O, none⟩) xs) (hne : p ≠ g) : BAt (w.setCell ⟨p, k, none⟩ v) (some ⟨g, O, none⟩) xs := by
  rcases h.els with h0 | ⟨B, O', e, hc⟩
  · exact ⟨Or.inl h0⟩
  · cases e
    exact ⟨Or.inr ⟨g, O, rfl, fun j hj => by rw [World.cell?_setCell_far _ _ _ _ hne]; exact hc j hj⟩⟩

/-- The line of a signature: its name, what its code says. -/
structure IsLine (l nm b : Bs) : Prop where
  pre : Lib.hasPrefix l dashB = true
  cut : ∃ code, Lib.cut (Lib.trimPrefix l dashB) [32] = (nm, code, true) ∧ fromL code = some b
  name : nameB nm = true
  five : 5 ≤ b.length
  few : b.length ≤ 1000000

set_option maxRecDepth 100000 in
set_option maxHeartbeats 4000000 in
theorem readLine_ok {w : World} {l nm b : Bs} (hl : l.length ≤ 200000) (h : IsLine l nm b) (hg : Gy w) :
    Calls Tryz.prog 193 #[.string (ba l)] w fun e w' => ∃ g n c, e = .returned (.tuple #[.agg #[.string (ba nm), .int .u32 ((numU b).toNat : Int), .slice (some ⟨g, 4, none⟩) n c], .bool true]) ∧ n = b.length - 4 ∧ BAt w' (some ⟨g, 4, none⟩) (b.drop 4) ∧ Below w.heap.size w w' ∧ ∃ cs fr, w'.heap[g]? = some (.cells cs 5 fr) := by
  obtain ⟨hpre, ⟨code, hcut, hfr⟩, hname, h5, hfew⟩ := h
  obtain ⟨B, hB⟩ : ∃ B, w.heap.size = B := ⟨_, rfl⟩
  obtain ⟨W0, hW0⟩ : ∃ W0, w.alloc (.cells #[.string ⟨#[]⟩, .int .u32 0, .slice none 0 0] 157) = W0 := ⟨_, rfl⟩
  have bb : Below w.heap.size w W0 := by rw [← hW0]; exact lowA (Below.refl _ _) _
  have q0 : Blk W0 B #[.string ⟨#[]⟩, .int .u32 0, .slice none 0 0] 157 := by rw [← hW0, ← hB]; exact Blk.new _ _ _
  have hg0 : Gy W0 := hg.low bb
  obtain ⟨m, hm⟩ := hg0.ml
  obtain ⟨R, hR⟩ : ∃ R, Lib.trimPrefix l dashB = R := ⟨_, rfl⟩
  rw [hR] at hcut
  have hRl : R.length ≤ 200000 := by
    have : (Lib.trimPrefix l dashB).length ≤ l.length := by unfold Lib.trimPrefix; split <;> simp
    rw [hR] at this
    omega
  have hcl : nm.length ≤ 200000 ∧ code.length ≤ 200000 := by
    have hC := hcut
    unfold Lib.cut at hC
    split at hC
    · obtain ⟨rfl, rfl⟩ : _ ∧ _ := by simpa using hC
      constructor
      · rw [List.length_take]; omega
      · rw [List.length_drop]; omega
    · simp at hC
  have K1 : Hid (∀ w : World, Calls Tryz.prog 95 #[.string (ba l), .string ⟨#[226, 128, 148, 32]⟩] w fun e w' => e = .returned (.tuple #[.string (ba R), .bool true]) ∧ w' = w) := hide (fun w => by
    have k := Tryz.strings_CutPrefix (ba l) (ba dashB) w
    rw [ba_data, ba_data, hR, hpre] at k
    exact k)
  have K2 : Hid (Calls Tryz.prog 120 #[.string (ba R), .string ⟨#[32]⟩] W0 fun e w' => e = .returned (.tuple #[.string (ba nm), .string (ba code), .bool true]) ∧ Below W0.heap.size W0 w') := hide (by
    have k := Tryz.strings_Cut (ba R) (ba [32]) m W0 (by rw [ba_size]; omega) hm
    rw [ba_data, ba_data, hcut] at k
    refine k.mono ?_
    rintro e w' ⟨rfl, q, rfl⟩
    exact ⟨rfl, lowN (Below.refl _ _) _⟩)
  have K3 : Hid (∀ w : World, Calls Tryz.prog 151 #[.string (ba nm)] w fun e w' => e = .returned (.bool true) ∧ w' = w) := hide (fun w => by
    have k := isKeyName_any (l := nm) (by omega) w
    rw [hname] at k
    exact k)
  have hfe : fromE code = 0 := by unfold fromE; rw [hfr]; rfl
  have hfv : fromV code = b := by unfold fromV; rw [hfr]; rfl
  have K4 : Hid (∀ w : World, Calls Tryz.prog 24 #[.string (ba code)] w fun e w' => ∃ v, e = .returned (.tuple #[v, .int .i64 0]) ∧ OwnB w.heap.size w' v b ∧ Below w.heap.size w w') := hide (fun w => by
    have k := fromB64_any (w := w) (s := code) (by omega)
    rw [hfe, hfv] at k
    exact k)
  have HQ0 := hide q0
  have HB0 := hide bb
  have HW0 := hide hW0
  have HBB := hide hB
  have H5 := hide h5
  have H6 := hide hfew
  clear hpre hcut hfr hname hg hg0 hm hl hRl hcl hfe hfv hR q0 bb hW0 hB h5 hfew
  go_enter Tryz.func193, Tryz.ntmps193
  go_wp2_with (go_at_call 95; fail)
  rw [unhide HW0, unhide HBB]
  clear HW0
  refine (unhide K1 _).mono ?_
  rintro e wn ⟨rfl, hwn⟩
  rw [hwn]
  clear hwn wn K1
  go_wp2_with (go_at_call 120; fail)
  refine (unhide K2).mono ?_
  rintro e w1 ⟨rfl, b1⟩
  have HB1 := hide b1
  clear b1 K2
  go_wp2_with (first
    | (go_at_call 151; refine (unhide K3 _).mono ?_; rintro e wn ⟨rfl, hwn⟩; rw [hwn]; clear hwn wn)
    | (go_at_call 24; fail))
  refine (unhide K4 _).mono ?_
  rintro e w2 ⟨v2, rfl, o2, b2⟩
  obtain ⟨g, c0, rfl⟩ := own_at0 o2 (by have := unhide H5; omega)
  obtain ⟨a', c', e', at2, hc2, hcm⟩ := OwnB.at o2
  obtain ⟨e1, -, e3⟩ := Value.slice.inj e'
  subst e3
  rw [← e1] at at2
  obtain ⟨n, hn⟩ : ∃ n, b.length = n := ⟨_, rfl⟩
  rw [hn] at hc2 ⊢
  have hn5 : 5 ≤ n := by have := unhide H5; omega
  have hcm2 : c0 ≤ 9223372036854775807 := by unfold maxLen at hcm; omega
  have hbl : n ≤ 1000000000 := by have := unhide H6; omega
  have HGB : Hid (w1.heap.size ≤ g) := hide (OwnB.base o2 g rfl)
  have HTY : Hid (∃ cs fr, w2.heap[g]? = some (.cells cs 5 fr)) := hide (by
    rcases o2.2 with ⟨e, _⟩ | ⟨g', cap', cur, e, _, hh, _⟩
    · cases e
    · cases e; exact ⟨cur, _, hh⟩)
  have HB2 := hide (low_trans (unhide HB1) b2)
  have q2 := (unhide HQ0).low (unhide HB2)
  have KN := hide (number_any (w := w2.drew) (c := c0) hn (by omega) hbl (at2.low (Below.refl _ _).drew))
  have HAT : Hid (BAt w2 (some ⟨g, 4, none⟩) (b.drop 4)) := hide (by have := at2.drop 4; simpa using this)
  have HN := hide hn
  have HQ2 := hide q2
  have i1 : ¬ (n : Int) ≤ 4 := by omega
  have i2 : (4 : Int) ≤ (n : Int) := by omega
  have i3 : (n : Int) ≤ (c0 : Int) := by omega
  clear o2 b2 e' e1 at2 hcm hn q2 K3 K4
  go_wp2
  go_region_held3 (fun _ => True)
    (trivial)
    (first
      | (go_at_call 153; refine (unhide KN).mono ?_; rintro e w3 ⟨rfl, b3⟩; have q3 := (unhide HQ2).low (low_trans (lowD (Below.refl _ _)) b3); have c30 := q3.cell 0; have c31 := q3.cell 1; have c32 := q3.cell 2; have f30 := q3.free 0; have f31 := q3.free 1; have f32 := q3.free 2; have HB3 := hide (low_trans (lowD (Below.refl _ w2)) b3); have HQ3 := hide q3; clear b3 q3))
  obtain ⟨N, hN⟩ : ∃ N : Nat, (numU b).toNat = N := ⟨_, rfl⟩
  rw [hN]
  have HNN := hide hN
  have qs := (((unhide HQ3).set 0 (.string (ba nm))).set 1 (.int .u32 (N : Int))).set 2 (.slice (some ⟨g, 4, none⟩) (n - 4) (c0 - 4))
  have d0 := qs.cell 0
  have d1 := qs.cell 1
  have d2 := qs.cell 2
  have hBg : B ≠ g := by
    have h1 := (unhide HQ0).lt
    have h2 := unhide HGB
    have h3 := (unhide HB1).size
    omega
  have hL3 := low_trans (unhide HB0) (low_trans (unhide HB2) (unhide HB3))
  have HL : Hid (Below w.heap.size w (((w3.setCell ⟨B, 0, none⟩ (.string (ba nm))).setCell ⟨B, 1, none⟩ (.int .u32 (N : Int))).setCell ⟨B, 2, none⟩ (.slice (some ⟨g, 4, none⟩) (n - 4) (c0 - 4)))) := hide (low_put3 hL3 (by rw [unhide HBB]; exact Nat.le_refl _))
  have HZ : Hid (BAt (((w3.setCell ⟨B, 0, none⟩ (.string (ba nm))).setCell ⟨B, 1, none⟩ (.int .u32 (N : Int))).setCell ⟨B, 2, none⟩ (.slice (some ⟨g, 4, none⟩) (n - 4) (c0 - 4))) (some ⟨g, 4, none⟩) (b.drop 4)) := hide (BAt.far (BAt.far (BAt.far ((unhide HAT).low (unhide HB3)) hBg) hBg) hBg)
  have HT3 : Hid (∃ cs fr, (((w3.setCell ⟨B, 0, none⟩ (.string (ba nm))).setCell ⟨B, 1, none⟩ (.int .u32 (N : Int))).setCell ⟨B, 2, none⟩ (.slice (some ⟨g, 4, none⟩) (n - 4) (c0 - 4))).heap[g]? = some (.cells cs 5 fr)) := hide (by
    obtain ⟨cs, fr, hh⟩ := unhide HTY
    have hgB : g ≠ B := fun e => hBg e.symm
    refine ⟨cs, fr, ?_⟩
    rw [Below.heap_setCell _ _ _ _ (by show g ≠ B; exact hgB), Below.heap_setCell _ _ _ _ (by show g ≠ B; exact hgB), Below.heap_setCell _ _ _ _ (by show g ≠ B; exact hgB)]
    exact ((unhide HB3).block g (Array.getElem?_eq_some_iff.1 hh).1).trans hh)
  clear qs hN hL3
  go_wp2
  exact bodyPost_ret (v := .tuple #[.agg #[.string (ba nm), .int .u32 (N : Int), .slice (some ⟨g, 4, none⟩) (n - 4) (c0 - 4)], .bool true]) (by simp [results, Tryz.results193, go_sem, d0, d1, d2]) rfl ⟨g, n - 4, c0 - 4, by rw [unhide HNN], by rw [unhide HN], unhide HZ, unhide HL, unhide HT3⟩
end Go.Proofs.YtkablmjkffdloaaGreatDoor

namespace Go.Proofs.YtkablmjkffdloaaGreatDoor
open Go.RowKit

theorem info157 : (Tryz.prog.info? 157).map (fun i => (i.zero, i.size, i.bytes)) = some (some (.agg #[.string ⟨#[]⟩, .int .u32 0, .slice none 0 0]), 3, 48) := by kernel_rfl

/-- One signature in a row: its cells and its bytes. -/
structure OneSig (w : World) (v : Value) (nm b : Bs) : Prop where
  at_ : ∃ R cap g c, v = .slice (some ⟨R, 0, none⟩) 1 cap ∧ 1 ≤ cap ∧ w.cell? ⟨R, 0, none⟩ = some (.string (ba nm)) ∧ w.cell? ⟨R, 1, none⟩ = some (.int .u32 ((numU b).toNat : Int)) ∧ w.cell? ⟨R, 2, none⟩ = some (.slice (some ⟨g, 4, none⟩) (b.length - 4) c) ∧ BAt w (some ⟨g, 4, none⟩) (b.drop 4)
theorem OneSig.low {w w' : World} {v : Value} {nm b : Bs} (h : OneSig w v nm b) (hb : Below w.heap.size w w') : OneSig w' v nm b := by
  obtain ⟨R, cap, g, c, hv, h0, h1, h2, h3, h4⟩ := h.at_
  exact ⟨⟨R, cap, g, c, hv, h0, (hb.cell (lt_of_cell h1)).trans h1, (hb.cell (lt_of_cell h2)).trans h2, (hb.cell (lt_of_cell h3)).trans h3, h4.low hb⟩⟩

set_option maxRecDepth 100000 in
set_option maxHeartbeats 4000000 in
theorem readLines_one {w : World} {ls l nm b : Bs} (hl : ls.length ≤ 200000) (h1 : Lib.hasSuffix ls [10] = true) (h2 : Lib.trimSuffix ls [10] = l) (h3 : Lib.countB (ba l) (ba [10]) = 0) (h : IsLine l nm b) (hg : Gy w) :
    Calls Tryz.prog 159 #[.string (ba ls)] w fun e w' => ∃ v, e = .returned (.tuple #[v, .bool true]) ∧ OneSig w' v nm b ∧ Below w.heap.size w w' := by
  obtain ⟨i0, hi, hz0, hz1, hz2⟩ := info_parts info157
  obtain ⟨m, hm⟩ := hg.ml
  have hll : l.length ≤ 200000 := by
    have : (Lib.trimSuffix ls [10]).length ≤ ls.length := by unfold Lib.trimSuffix; split <;> simp
    rw [h2] at this
    omega
  have K1 : Hid (∀ w : World, Calls Tryz.prog 192 #[.string (ba ls), .string ⟨#[10]⟩] w fun e w' => e = .returned (.tuple #[.string (ba l), .bool true]) ∧ w' = w) := hide (fun w => by
    have k := Tryz.strings_CutSuffix (ba ls) (ba [10]) w (by rw [ba_size]; omega)
    rw [ba_data, ba_data, h2, h1] at k
    exact k)
  obtain ⟨A, hA⟩ : ∃ A, w.heap.size = A := ⟨_, rfl⟩
  obtain ⟨W1, hW1⟩ : ∃ W1, w.alloc (.cells #[.string (ba l)] 9) = W1 := ⟨_, rfl⟩
  have b1 : Below w.heap.size w W1 := by rw [← hW1]; exact lowA (Below.refl _ _) _
  have q1 : Blk W1 A #[.string (ba l)] 9 := by rw [← hW1, ← hA]; exact Blk.new _ _ _
  have K2 : Hid (Calls Tryz.prog 98 #[.string (ba l), .string ⟨#[10]⟩] w fun e w' => e = .returned (.slice (some ⟨A, 0, none⟩) 1 1) ∧ w' = W1) := hide (by
    have k := Tryz.strings_Split (ba l) (ba [10]) m w (by rw [ba_size]; omega) hm (by decide)
    rw [h3, Lib.splitB_zero, hA] at k
    rw [← hW1]
    exact k)
  have K3 := hide (readLine_ok (w := W1) hll h (hg.low b1))
  have k0 : W1.cell? ⟨A, 0, none⟩ = some (.string (ba l)) := q1.cell 0
  have HB1 := hide b1
  have HA := hide hA
  clear h h1 h2 h3 hl hg hm hll b1 q1 hW1
  go_enter Tryz.func159, Tryz.ntmps159
  go_wp2_with (go_at_call 192; fail)
  refine (unhide K1 _).mono ?_
  rintro e wn ⟨rfl, hwn⟩
  rw [hwn]
  clear hwn wn K1
  go_wp2_with (go_at_call 98; fail)
  refine (unhide K2).mono ?_
  rintro e wn ⟨rfl, hwn⟩
  rw [hwn]
  clear hwn wn K2
  go_wp2
  go_loopw [6, 8, 9, 10, 21] (fun v6 _ _ _ v21 wr => (v21 = .int .i64 0 ∧ v6 = .slice none 0 0 ∧ wr = W1) ∨ (v21 = .int .i64 1 ∧ OneSig wr v6 nm b ∧ Below w.heap.size w wr)) (fun _ _ _ _ v21 _ => 1 - (intOf v21).toNat)
  case atStart => exact Or.inl ⟨rfl, rfl, rfl⟩
  case round =>
    rename World => wr
    rcases hrel with ⟨rfl, rfl, rfl⟩ | ⟨rfl, h6, hbw⟩
    · go_wp2_with (go_at_call 193; fail)
      refine (unhide K3).mono ?_
      rintro e w4 ⟨g, n, c, rfl, hn, at4, b4, -⟩
      obtain ⟨N, hN⟩ : ∃ N : Nat, (numU b).toNat = N := ⟨_, rfl⟩
      rw [hN]
      have HN := hide hN
      have HNN := hide hn
      have HAT := hide at4
      have HB4 := hide (low_trans (unhide HB1) b4)
      clear hN hn at4 b4 K3
      go_wp2_with (at_builtin; refine wpList_append_own _ rfl _ _ 158 rfl w4.heap.size 157 i0 (.agg #[.string ⟨#[]⟩, .int .u32 0, .slice none 0 0]) 3 48 Tryz.underlying158 hi hz0 hz1 hz2 rfl (by decide) _ 0 [] rfl ⟨rfl, Or.inl ⟨rfl, rfl⟩⟩ ⟨w4.heap.size + 1, 0, none⟩ 1 1 [.string (ba nm), .int .u32 (N : Int), .slice (some ⟨g, 4, none⟩) n c] rfl rfl ?cells ?kind ?room ?len ?base ?_)
      case cells =>
        intro j u hj
        match j, hj with
        | 0, hj => simp at hj; subst hj; simp [Addr.add]
        | 1, hj => simp at hj; subst hj; simp [Addr.add]
        | 2, hj => simp at hj; subst hj; simp [Addr.add]
      case kind => intro u hu; simp at hu; rcases hu with rfl | rfl | rfl <;> rfl
      case room => unfold maxLen; omega
      case len => omega
      case base => simp; omega
      intro v' w7 hown hgrow _
      have b7 : Below w4.heap.size w4 w7 := (lowA (lowA (Below.refl _ _) _) _).grown hgrow (by simp; omega) (fun j hj => by cases hj)
      have HS : Hid (OneSig w7 v' nm b) := hide (by
        rcases hown.2 with ⟨_, h0⟩ | ⟨R, cap, cur, rfl, hR, hblk, hcap, _, _, htk⟩
        · simp at h0
        · have hc : ∀ j, j < 3 → cur[j]? = ([.string (ba nm), .int .u32 (N : Int), .slice (some ⟨g, 4, none⟩) n c] : List Value)[j]? := fun j hj => by
            have := congrArg (fun l : List Value => l[j]?) htk
            rw [← this, List.getElem?_take_of_lt (by omega)]
            simp
          refine ⟨⟨R, cap, g, c, by simp, by omega, ?_, ?_, ?_, (unhide HAT).low b7⟩⟩
          · rw [Lib.cell_of_heap hblk, hc 0 (by omega)]; rfl
          · rw [Lib.cell_of_heap hblk, hc 1 (by omega), unhide HN]; rfl
          · rw [Lib.cell_of_heap hblk, hc 2 (by omega), ← unhide HNN]; rfl)
      have HB7 := hide (low_trans (unhide HB4) b7)
      clear hown hgrow b7
      go_wp2
      go_roundw
      case rel => exact Or.inr ⟨rfl, unhide HS, unhide HB7⟩
      case measure => simp [intOf]
    · have HS := hide h6
      have HBW := hide hbw
      clear h6 hbw
      go_wp2
      go_ret2
      exact ⟨_, rfl, unhide HS, unhide HBW⟩
end Go.Proofs.YtkablmjkffdloaaGreatDoor

namespace Go.Proofs.YtkablmjkffdloaaGreatDoor
open Go.RowKit

theorem b64_ge : ∀ (b : Bs), b.length ≤ (b64 b).length
  | [] => by simp
  | [a] => by show _ ≤ (grp [a]).length; rw [grp_len [a] (by simp) (by simp)]; simp
  | [a, b] => by show _ ≤ (grp [a, b]).length; rw [grp_len [a, b] (by simp) (by simp)]; simp
  | a :: b :: c :: r => by
    have := b64_ge r
    show _ ≤ (grp [a, b, c] ++ b64 r).length
    rw [List.length_append, grp_len _ (by simp) (by simp)]
    simp
    omega
/-- What a line says: a name and bytes. -/
def lineR (l : Bs) : Option (Bs × Bs) :=
  if (Lib.hasPrefix l dashB && ((Lib.cut (Lib.trimPrefix l dashB) [32]).2.2 && nameB (Lib.cut (Lib.trimPrefix l dashB) [32]).1)) = true then
    (match fromL (Lib.cut (Lib.trimPrefix l dashB) [32]).2.1 with
      | none => none
      | some b => if 5 ≤ b.length then some ((Lib.cut (Lib.trimPrefix l dashB) [32]).1, b) else none)
  else none
theorem cut_len (l : Bs) : (Lib.cut (Lib.trimPrefix l dashB) [32]).1.length ≤ l.length ∧ (Lib.cut (Lib.trimPrefix l dashB) [32]).2.1.length ≤ l.length := by
  have h1 : (Lib.trimPrefix l dashB).length ≤ l.length := by unfold Lib.trimPrefix; split <;> simp
  unfold Lib.cut
  split
  · constructor
    · rw [List.length_take]; omega
    · rw [List.length_drop]; omega
  · exact ⟨h1, by simp⟩
theorem line_is {l nm b : Bs} (hl : l.length ≤ 200000) (h : lineR l = some (nm, b)) : IsLine l nm b := by
  unfold lineR at h
  obtain ⟨C, hC⟩ : ∃ C, Lib.cut (Lib.trimPrefix l dashB) [32] = C := ⟨_, rfl⟩
  have hcl := cut_len l
  rw [hC] at h hcl
  obtain ⟨cn, cc, fd⟩ := C
  split at h
  · rename_i hb
    simp only [Bool.and_eq_true] at hb
    obtain ⟨hp, hf, hn⟩ := hb
    cases hfr : fromL cc with
    | none => rw [hfr] at h; cases h
    | some b' =>
      rw [hfr] at h
      simp only at h
      split at h
      · rename_i h5
        simp only [Option.some.injEq, Prod.mk.injEq] at h
        obtain ⟨rfl, rfl⟩ := h
        have hlen : b'.length ≤ 1000000 := by
          have h1 := from_some hfr
          have h2 := b64_ge b'
          rw [h1] at h2
          have h3 := hcl.2
          simp only at h3
          omega
        exact ⟨hp, ⟨cc, by rw [hC, hf], hfr⟩, hn, h5, hlen⟩
      · cases h
  · cases h

set_option maxRecDepth 100000 in
set_option maxHeartbeats 4000000 in
theorem readLine_bad {w : World} {l : Bs} (hl : l.length ≤ 200000) (h : lineR l = none) (hg : Gy w) :
    Calls Tryz.prog 193 #[.string (ba l)] w fun e w' => e = .returned (.tuple #[.agg #[.string ⟨#[]⟩, .int .u32 0, .slice none 0 0], .bool false]) ∧ Below w.heap.size w w' := by
  obtain ⟨B, hB⟩ : ∃ B, w.heap.size = B := ⟨_, rfl⟩
  obtain ⟨W0, hW0⟩ : ∃ W0, w.alloc (.cells #[.string ⟨#[]⟩, .int .u32 0, .slice none 0 0] 157) = W0 := ⟨_, rfl⟩
  have bb : Below w.heap.size w W0 := by rw [← hW0]; exact lowA (Below.refl _ _) _
  have q0 : Blk W0 B #[.string ⟨#[]⟩, .int .u32 0, .slice none 0 0] 157 := by rw [← hW0, ← hB]; exact Blk.new _ _ _
  have hg0 : Gy W0 := hg.low bb
  obtain ⟨m, hm⟩ := hg0.ml
  unfold lineR at h
  have hcl := cut_len l
  obtain ⟨R, hR⟩ : ∃ R, Lib.trimPrefix l dashB = R := ⟨_, rfl⟩
  have hRl : R.length ≤ 200000 := by
    have : (Lib.trimPrefix l dashB).length ≤ l.length := by unfold Lib.trimPrefix; split <;> simp
    rw [hR] at this
    omega
  rw [hR] at h hcl
  obtain ⟨C, hC⟩ : ∃ C, Lib.cut R [32] = C := ⟨_, rfl⟩
  rw [hC] at h hcl
  obtain ⟨cn, cc, fd⟩ := C
  simp only at hcl h
  obtain ⟨hp, hpp⟩ : ∃ hp, Lib.hasPrefix l dashB = hp := ⟨_, rfl⟩
  obtain ⟨nb, hnb⟩ : ∃ nb, nameB cn = nb := ⟨_, rfl⟩
  rw [hpp, hnb] at h
  have K1 : Hid (∀ w : World, Calls Tryz.prog 95 #[.string (ba l), .string ⟨#[226, 128, 148, 32]⟩] w fun e w' => e = .returned (.tuple #[.string (ba R), .bool hp]) ∧ w' = w) := hide (fun w => by
    have k := Tryz.strings_CutPrefix (ba l) (ba dashB) w
    rw [ba_data, ba_data, hR, hpp] at k
    exact k)
  have K2 : Hid (Calls Tryz.prog 120 #[.string (ba R), .string ⟨#[32]⟩] W0 fun e w' => e = .returned (.tuple #[.string (ba cn), .string (ba cc), .bool fd]) ∧ Below W0.heap.size W0 w') := hide (by
    have k := Tryz.strings_Cut (ba R) (ba [32]) m W0 (by rw [ba_size]; omega) hm
    rw [ba_data, ba_data, hC] at k
    refine k.mono ?_
    rintro e w' ⟨rfl, q, rfl⟩
    exact ⟨rfl, lowN (Below.refl _ _) _⟩)
  have K3 : Hid (∀ w : World, Calls Tryz.prog 151 #[.string (ba cn)] w fun e w' => e = .returned (.bool nb) ∧ w' = w) := hide (fun w => by
    have k := isKeyName_any (l := cn) (by omega) w
    rw [hnb] at k
    exact k)
  have K4 : Hid (∀ w : World, Calls Tryz.prog 24 #[.string (ba cc)] w fun e w' => ∃ v, e = .returned (.tuple #[v, .int .i64 (fromE cc)]) ∧ OwnB w.heap.size w' v (fromV cc) ∧ Below w.heap.size w w') := hide (fun w => fromB64_any (w := w) (s := cc) (by omega))
  have HQ0 := hide q0
  have HB0 := hide bb
  have HW0 := hide hW0
  have HBB := hide hB
  have H := hide h
  clear hg hg0 hm hl hRl hcl hR q0 bb hW0 hB hC hpp hnb h
  cases hp with
  | false =>
    go_enter Tryz.func193, Tryz.ntmps193
    go_wp2_with (go_at_call 95; fail)
    rw [unhide HW0, unhide HBB]
    refine (unhide K1 _).mono ?_
    rintro e wn ⟨rfl, hwn⟩
    rw [hwn]
    clear hwn wn K1
    go_wp2_with (go_at_call 120; fail)
    refine (unhide K2).mono ?_
    rintro e w1 ⟨rfl, b1⟩
    have q1 := (unhide HQ0).low b1
    have c0 := q1.cell 0
    have c1 := q1.cell 1
    have c2 := q1.cell 2
    have f0 := q1.free 0
    have f1 := q1.free 1
    have f2 := q1.free 2
    have qs := ((q1.set 0 (.string ⟨#[]⟩)).set 1 (.int .u32 0)).set 2 (.slice none 0 0)
    have d0 := qs.cell 0
    have d1 := qs.cell 1
    have d2 := qs.cell 2
    have HL : Hid (Below w.heap.size w (((w1.setCell ⟨B, 0, none⟩ (.string ⟨#[]⟩)).setCell ⟨B, 1, none⟩ (.int .u32 0)).setCell ⟨B, 2, none⟩ (.slice none 0 0))) := hide (low_put3 (low_trans (unhide HB0) b1) (by rw [unhide HBB]; exact Nat.le_refl _))
    clear q1 qs
    clear b1
    go_wp2
    exact bodyPost_ret (v := .tuple #[.agg #[.string ⟨#[]⟩, .int .u32 0, .slice none 0 0], .bool false]) (by simp [results, Tryz.results193, go_sem, d0, d1, d2]) rfl ⟨rfl, unhide HL⟩
  | true =>
    cases fd with
    | false =>
      go_enter Tryz.func193, Tryz.ntmps193
      go_wp2_with (go_at_call 95; fail)
      rw [unhide HW0, unhide HBB]
      refine (unhide K1 _).mono ?_
      rintro e wn ⟨rfl, hwn⟩
      rw [hwn]
      clear hwn wn K1
      go_wp2_with (go_at_call 120; fail)
      refine (unhide K2).mono ?_
      rintro e w1 ⟨rfl, b1⟩
      have q1 := (unhide HQ0).low b1
      have c0 := q1.cell 0
      have c1 := q1.cell 1
      have c2 := q1.cell 2
      have f0 := q1.free 0
      have f1 := q1.free 1
      have f2 := q1.free 2
      have qs := ((q1.set 0 (.string ⟨#[]⟩)).set 1 (.int .u32 0)).set 2 (.slice none 0 0)
      have d0 := qs.cell 0
      have d1 := qs.cell 1
      have d2 := qs.cell 2
      have HL : Hid (Below w.heap.size w (((w1.setCell ⟨B, 0, none⟩ (.string ⟨#[]⟩)).setCell ⟨B, 1, none⟩ (.int .u32 0)).setCell ⟨B, 2, none⟩ (.slice none 0 0))) := hide (low_put3 (low_trans (unhide HB0) b1) (by rw [unhide HBB]; exact Nat.le_refl _))
      clear q1 qs
      clear b1
      go_wp2
      exact bodyPost_ret (v := .tuple #[.agg #[.string ⟨#[]⟩, .int .u32 0, .slice none 0 0], .bool false]) (by simp [results, Tryz.results193, go_sem, d0, d1, d2]) rfl ⟨rfl, unhide HL⟩
    | true =>
      cases nb with
      | false =>
        go_enter Tryz.func193, Tryz.ntmps193
        go_wp2_with (go_at_call 95; fail)
        rw [unhide HW0, unhide HBB]
        refine (unhide K1 _).mono ?_
        rintro e wn ⟨rfl, hwn⟩
        rw [hwn]
        clear hwn wn K1
        go_wp2_with (go_at_call 120; fail)
        refine (unhide K2).mono ?_
        rintro e w1 ⟨rfl, b1⟩
        have q1 := (unhide HQ0).low b1
        have c0 := q1.cell 0
        have c1 := q1.cell 1
        have c2 := q1.cell 2
        have f0 := q1.free 0
        have f1 := q1.free 1
        have f2 := q1.free 2
        have qs := ((q1.set 0 (.string ⟨#[]⟩)).set 1 (.int .u32 0)).set 2 (.slice none 0 0)
        have d0 := qs.cell 0
        have d1 := qs.cell 1
        have d2 := qs.cell 2
        have HL : Hid (Below w.heap.size w (((w1.setCell ⟨B, 0, none⟩ (.string ⟨#[]⟩)).setCell ⟨B, 1, none⟩ (.int .u32 0)).setCell ⟨B, 2, none⟩ (.slice none 0 0))) := hide (low_put3 (low_trans (unhide HB0) b1) (by rw [unhide HBB]; exact Nat.le_refl _))
        clear q1 qs
        clear b1
        go_wp2_with (go_at_call 151; refine (unhide K3 _).mono ?_; rintro e wn ⟨rfl, hwn⟩; rw [hwn]; clear hwn wn)
        exact bodyPost_ret (v := .tuple #[.agg #[.string ⟨#[]⟩, .int .u32 0, .slice none 0 0], .bool false]) (by simp [results, Tryz.results193, go_sem, d0, d1, d2]) rfl ⟨rfl, unhide HL⟩
      | true =>
        have hh := unhide H
        rw [if_pos (show (true && (true && true)) = true from rfl)] at hh
        cases hfr : fromL cc with
        | none =>
          have hfe : fromE cc = 15 := by unfold fromE; rw [hfr]; rfl
          rw [hfe] at K4
          clear hh hfe hfr
          go_enter Tryz.func193, Tryz.ntmps193
          go_wp2_with (go_at_call 95; fail)
          rw [unhide HW0, unhide HBB]
          refine (unhide K1 _).mono ?_
          rintro e wn ⟨rfl, hwn⟩
          rw [hwn]
          clear hwn wn K1
          go_wp2_with (go_at_call 120; fail)
          refine (unhide K2).mono ?_
          rintro e w1 ⟨rfl, b1⟩
          have HB1 := hide b1
          clear b1 K2
          go_wp2_with (first
            | (go_at_call 151; refine (unhide K3 _).mono ?_; rintro e wn ⟨rfl, hwn⟩; rw [hwn]; clear hwn wn)
            | (go_at_call 24; fail))
          refine (unhide K4 _).mono ?_
          rintro e w2 ⟨v2, rfl, o2, b2⟩
          obtain ⟨a2, c2', rfl, -, -, -⟩ := OwnB.at o2
          have b12 := low_trans (unhide HB1) b2
          have q1 := (unhide HQ0).low b12
          have c0 := q1.cell 0
          have c1 := q1.cell 1
          have c2 := q1.cell 2
          have f0 := q1.free 0
          have f1 := q1.free 1
          have f2 := q1.free 2
          have qs := ((q1.set 0 (.string ⟨#[]⟩)).set 1 (.int .u32 0)).set 2 (.slice none 0 0)
          have d0 := qs.cell 0
          have d1 := qs.cell 1
          have d2 := qs.cell 2
          have HL : Hid (Below w.heap.size w (((w2.setCell ⟨B, 0, none⟩ (.string ⟨#[]⟩)).setCell ⟨B, 1, none⟩ (.int .u32 0)).setCell ⟨B, 2, none⟩ (.slice none 0 0))) := hide (low_put3 (low_trans (unhide HB0) b12) (by rw [unhide HBB]; exact Nat.le_refl _))
          clear q1 qs
          clear b12 b2 o2 K3 K4
          go_wp2
          exact bodyPost_ret (v := .tuple #[.agg #[.string ⟨#[]⟩, .int .u32 0, .slice none 0 0], .bool false]) (by simp [results, Tryz.results193, go_sem, d0, d1, d2]) rfl ⟨rfl, unhide HL⟩
        | some b =>
          rw [hfr] at hh
          simp only at hh
          have h4 : b.length ≤ 4 := by
            by_cases h5 : 5 ≤ b.length
            · rw [if_pos h5] at hh; cases hh
            · omega
          have hfe : fromE cc = 0 := by unfold fromE; rw [hfr]; rfl
          have hfv : fromV cc = b := by unfold fromV; rw [hfr]; rfl
          rw [hfe, hfv] at K4
          obtain ⟨bl, hbl⟩ : ∃ bl, b.length = bl := ⟨_, rfl⟩
          have i4 : (bl : Int) ≤ 4 := by omega
          clear hh hfe hfr hfv h4
          go_enter Tryz.func193, Tryz.ntmps193
          go_wp2_with (go_at_call 95; fail)
          rw [unhide HW0, unhide HBB]
          refine (unhide K1 _).mono ?_
          rintro e wn ⟨rfl, hwn⟩
          rw [hwn]
          clear hwn wn K1
          go_wp2_with (go_at_call 120; fail)
          refine (unhide K2).mono ?_
          rintro e w1 ⟨rfl, b1⟩
          have HB1 := hide b1
          clear b1 K2
          go_wp2_with (first
            | (go_at_call 151; refine (unhide K3 _).mono ?_; rintro e wn ⟨rfl, hwn⟩; rw [hwn]; clear hwn wn)
            | (go_at_call 24; fail))
          refine (unhide K4 _).mono ?_
          rintro e w2 ⟨v2, rfl, o2, b2⟩
          obtain ⟨a2, c2', rfl, -, -, -⟩ := OwnB.at o2
          have b12 := low_trans (unhide HB1) b2
          rw [hbl]
          have q1 := (unhide HQ0).low b12
          have c0 := q1.cell 0
          have c1 := q1.cell 1
          have c2 := q1.cell 2
          have f0 := q1.free 0
          have f1 := q1.free 1
          have f2 := q1.free 2
          have qs := ((q1.set 0 (.string ⟨#[]⟩)).set 1 (.int .u32 0)).set 2 (.slice none 0 0)
          have d0 := qs.cell 0
          have d1 := qs.cell 1
          have d2 := qs.cell 2
          have HL : Hid (Below w.heap.size w (((w2.setCell ⟨B, 0, none⟩ (.string ⟨#[]⟩)).setCell ⟨B, 1, none⟩ (.int .u32 0)).setCell ⟨B, 2, none⟩ (.slice none 0 0))) := hide (low_put3 (low_trans (unhide HB0) b12) (by rw [unhide HBB]; exact Nat.le_refl _))
          clear q1 qs
          clear b12 b2 o2 K3 K4 hbl
          go_wp2
          exact bodyPost_ret (v := .tuple #[.agg #[.string ⟨#[]⟩, .int .u32 0, .slice none 0 0], .bool false]) (by simp [results, Tryz.results193, go_sem, d0, d1, d2]) rfl ⟨rfl, unhide HL⟩
end Go.Proofs.YtkablmjkffdloaaGreatDoor

namespace Go.Proofs.YtkablmjkffdloaaGreatDoor
open Go.RowKit

/-- A signature: a name, bytes, and where they lie. -/
structure Sx where
  nm : Bs
  b : Bs
  g : Nat
  c : Nat
def sxK (x : Sx) : Bs × Bs := (x.nm, x.b)
def sxC : List Sx → List Value
  | [] => []
  | x :: l => .string (ba x.nm) :: .int .u32 ((numU x.b).toNat : Int) :: .slice (some ⟨x.g, 4, none⟩) (x.b.length - 4) x.c :: sxC l
theorem sxC_append (l m : List Sx) : sxC (l ++ m) = sxC l ++ sxC m := by
  induction l with
  | nil => rfl
  | cons x l ih => simp [sxC, ih]
theorem sxC_at : ∀ (l : List Sx) (k : Nat) (hk : k < l.length), (sxC l)[k * 3]? = some (.string (ba l[k].nm)) ∧ (sxC l)[k * 3 + 1]? = some (.int .u32 ((numU l[k].b).toNat : Int)) ∧ (sxC l)[k * 3 + 2]? = some (.slice (some ⟨l[k].g, 4, none⟩) (l[k].b.length - 4) l[k].c)
  | [], k, hk => by simp at hk
  | x :: l, 0, _ => by simp [sxC]
  | x :: l, k + 1, hk => by
    have := sxC_at l k (by simpa using hk)
    have e1 : (k + 1) * 3 = k * 3 + 1 + 1 + 1 := by omega
    rw [e1]
    simpa [sxC] using this
/-- A row of signatures of our own, with their bytes. -/
def SOwn (base : Nat) (w : World) (v : Value) (l : List Sx) : Prop := w.ownsRow base 157 3 v l.length (sxC l) ∧ ∀ x ∈ l, BAt w (some ⟨x.g, 4, none⟩) (x.b.drop 4) ∧ ∃ cs fr, w.heap[x.g]? = some (.cells cs 5 fr)
theorem row_less {w : World} {base base' n sz : Nat} {e : TypeId} {v : Value} {xs : List Value} (hb : base' ≤ base) (h : w.ownsRow base e sz v n xs) : w.ownsRow base' e sz v n xs := ⟨h.1, h.2.imp id (by
  rintro ⟨g, cap, cur, h1, h2, h3⟩
  exact ⟨g, cap, cur, h1, Nat.le_trans hb h2, h3⟩)⟩
theorem bat_keep {w w' : World} {g O : Nat} {xs : Bs} (h : BAt w (some ⟨g, O, none⟩) xs) (hb : w'.heap[g]? = w.heap[g]?) : BAt w' (some ⟨g, O, none⟩) xs := by
  rcases h.els with h0 | ⟨B, O', e, hc⟩
  · exact ⟨Or.inl h0⟩
  · cases e
    exact ⟨Or.inr ⟨g, O, rfl, fun j hj => by rw [← hc j hj]; simp [World.cell?, hb]⟩⟩
theorem SOwn.low {base : Nat} {w w' : World} {v : Value} {l : List Sx} (h : SOwn base w v l) (b : Below w.heap.size w w') : SOwn base w' v l := ⟨row_low h.1 b, fun x hx => by
  obtain ⟨h1, cs, fr, h2⟩ := h.2 x hx
  exact ⟨h1.low b, cs, fr, (b.block x.g (Array.getElem?_eq_some_iff.1 h2).1).trans h2⟩⟩
theorem SOwn.less {base base' : Nat} {w : World} {v : Value} {l : List Sx} (hb : base' ≤ base) (h : SOwn base w v l) : SOwn base' w v l := ⟨row_less hb h.1, h.2⟩

/-- append of a signature. -/
theorem app_sx {B : Nat} {w W1 : World} {v : Value} {l : List Sx} {x : Sx} {N : Int} {n : Nat} (hN : ((numU x.b).toNat : Int) = N) (hn : x.b.length - 4 = n) (ho : w.ownsRow B 157 3 v l.length (sxC l)) (hB : B ≤ w.heap.size) (hl : l.length ≤ 1000000) (hW : w.alloc (.cells #[.string (ba x.nm), .int .u32 N, .slice (some ⟨x.g, 4, none⟩) n x.c] 157) = W1) :
    ∃ v' w', (Builtin.append_ #[158, 158] 158 #[v, .slice (some ⟨w.heap.size, 0, none⟩) 1 1]).run Tryz.prog W1 = .ok v' w' ∧ w'.ownsRow B 157 3 v' (l ++ [x]).length (sxC (l ++ [x])) ∧ w.grownBy w' v.ownBlock := by
  subst hN hn
  obtain ⟨i0, hi, hz0, hz1, hz2⟩ := info_parts info157
  have b1 : Below w.heap.size w W1 := by rw [← hW]; exact lowA (Below.refl _ _) _
  have hz : Blk W1 w.heap.size #[.string (ba x.nm), .int .u32 ((numU x.b).toNat : Int), .slice (some ⟨x.g, 4, none⟩) (x.b.length - 4) x.c] 157 := by rw [← hW]; exact Blk.new _ _ _
  obtain ⟨v', w', r1, r2, r3, _, _⟩ := run_append_own_at (P := Tryz.prog) W1 B 158 158 157 i0 _ 3 48 Tryz.underlying158 hi hz0 hz1 hz2 rfl (by decide) v l.length (sxC l) (row_low ho b1) ⟨w.heap.size, 0, none⟩ 1 1 (sxC [x]) rfl (fun j u hj => by
    rw [WideShapes.add_plain, Nat.zero_add, hz.cell j]
    match j, hj with
    | 0, hj => exact hj
    | 1, hj => exact hj
    | 2, hj => exact hj
    | j + 3, hj => simp [sxC] at hj) (fun u hu => by
      simp [sxC] at hu
      rcases hu with rfl | rfl | rfl <;> rfl) (by unfold maxLen; omega) (by omega) (Nat.le_trans hB b1.size)
  refine ⟨v', w', r1, ?_, ⟨r3.os.trans b1.os, r3.tape.trans b1.tape, r3.output.trans b1.output, Nat.le_trans b1.size r3.size, fun k hk hne => (r3.block k (Nat.lt_of_lt_of_le hk b1.size) hne).trans (b1.block k hk)⟩⟩
  rw [sxC_append, List.length_append]
  exact r2

/-- The lines of a text. -/
def partsB (s : Bs) : List ByteArray := Lib.splitB (ba [10]) 0 (Lib.countB (ba s) (ba [10])) (ba s)
def partsL (s : Bs) : List Bs := (partsB s).map fun p => p.data.toList
theorem extract_size_le (s : ByteArray) (a b : Nat) : (s.extract a b).size ≤ s.size := by
  simp [ByteArray.size_extract]; omega
theorem splitB_sizes (sep : ByteArray) : ∀ (k : Nat) (s : ByteArray), ∀ p ∈ Lib.splitB sep 0 k s, p.size ≤ s.size
  | 0, s => by intro p hp; simp [Lib.splitB] at hp; subst hp; exact Nat.le_refl _
  | k + 1, s => by
    intro p hp
    unfold Lib.splitB at hp
    split at hp
    · simp at hp; subst hp; exact Nat.le_refl _
    · simp only [List.mem_cons] at hp
      rcases hp with rfl | hp
      · exact extract_size_le _ _ _
      · exact Nat.le_trans (splitB_sizes sep k _ p hp) (extract_size_le _ _ _)
theorem parts_length (s : Bs) : (partsL s).length = Lib.countB (ba s) (ba [10]) + 1 := by unfold partsL; rw [List.length_map]; exact Lib.splitB_all (ba [10]) (by decide) 0 _ _ rfl
theorem parts_ba (s : Bs) : (partsL s).map ba = partsB s := by
  unfold partsL
  rw [List.map_map]
  conv => rhs; rw [← List.map_id (partsB s)]
  apply List.map_congr_left
  intro p _
  exact ba_of p
theorem parts_size (s p : Bs) (h : p ∈ partsL s) : p.length ≤ s.length := by
  obtain ⟨q, hq, rfl⟩ := List.mem_map.1 h
  have := splitB_sizes (ba [10]) _ _ q hq
  rw [ba_size] at this
  simpa using this
def mapL : List Bs → Option (List (Bs × Bs))
  | [] => some []
  | l :: r => match lineR l with
    | none => none
    | some p => match mapL r with
      | none => none
      | some q => some (p :: q)
/-- What lines say. -/
def linesR (ls : Bs) : Option (List (Bs × Bs)) := if Lib.hasSuffix ls [10] = true then mapL (partsL (Lib.trimSuffix ls [10])) else none
/-- Behind some lines. -/
def bhd (xs : List Sx) : Option (List (Bs × Bs)) → Option (List (Bs × Bs))
  | none => none
  | some q => some (xs.map sxK ++ q)
def LnsSaid (w : World) (ls : Bs) (e : Ending) (w' : World) : Prop := (linesR ls = none ∧ e = .returned (.tuple #[.slice none 0 0, .bool false])) ∨ ∃ v xs, linesR ls = some (xs.map sxK) ∧ e = .returned (.tuple #[v, .bool true]) ∧ SOwn w.heap.size w' v xs

set_option maxRecDepth 100000 in
set_option maxHeartbeats 4000000 in
theorem readLines_any {w : World} {ls : Bs} (hl : ls.length ≤ 200000) (hg : Gy w) :
    Calls Tryz.prog 159 #[.string (ba ls)] w fun e w' => LnsSaid w ls e w' ∧ Below w.heap.size w w' := by
  obtain ⟨m, hm⟩ := hg.ml
  obtain ⟨l, h2⟩ : ∃ l, Lib.trimSuffix ls [10] = l := ⟨_, rfl⟩
  obtain ⟨sf, h1⟩ : ∃ sf, Lib.hasSuffix ls [10] = sf := ⟨_, rfl⟩
  have hll : l.length ≤ 200000 := by
    have : (Lib.trimSuffix ls [10]).length ≤ ls.length := by unfold Lib.trimSuffix; split <;> simp
    rw [h2] at this
    omega
  have K1 : Hid (∀ w : World, Calls Tryz.prog 192 #[.string (ba ls), .string ⟨#[10]⟩] w fun e w' => e = .returned (.tuple #[.string (ba l), .bool sf]) ∧ w' = w) := hide (fun w => by
    have k := Tryz.strings_CutSuffix (ba ls) (ba [10]) w (by rw [ba_size]; omega)
    rw [ba_data, ba_data, h2, h1] at k
    exact k)
  cases sf with
  | false =>
    have HF : Hid (linesR ls = none) := hide (by unfold linesR; rw [if_neg (by rw [h1]; simp)])
    clear h1 h2 hm hg hl hll
    go_enter Tryz.func159, Tryz.ntmps159
    go_wp2_with (go_at_call 192; refine (unhide K1 _).mono ?_; rintro e wn ⟨rfl, hwn⟩; rw [hwn]; clear hwn wn)
    go_ret2
    exact ⟨Or.inl ⟨unhide HF, rfl⟩, Below.refl _ _⟩
  | true =>
    obtain ⟨P, hP⟩ : ∃ P, partsL l = P := ⟨_, rfl⟩
    have HR : Hid (linesR ls = mapL P) := hide (by unfold linesR; rw [if_pos h1, h2, hP])
    obtain ⟨np, hnp⟩ : ∃ np, Lib.countB (ba l) (ba [10]) + 1 = np := ⟨_, rfl⟩
    have hPl : P.length = np := by rw [← hP, parts_length, hnp]
    have hPs : ∀ p ∈ P, p.length ≤ 200000 := fun p hp => by rw [← hP] at hp; have := parts_size l p hp; omega
    obtain ⟨A, hA⟩ : ∃ A, w.heap.size = A := ⟨_, rfl⟩
    obtain ⟨W1, hW1⟩ : ∃ W1, w.alloc (.cells ((P.map ba).map Value.string).toArray 9) = W1 := ⟨_, rfl⟩
    have b1 : Below w.heap.size w W1 := by rw [← hW1]; exact lowA (Below.refl _ _) _
    have q1 : Blk W1 A ((P.map ba).map Value.string).toArray 9 := by rw [← hW1, ← hA]; exact Blk.new _ _ _
    have K2 : Hid (Calls Tryz.prog 98 #[.string (ba l), .string ⟨#[10]⟩] w fun e w' => e = .returned (.slice (some ⟨A, 0, none⟩) np np) ∧ w' = W1) := hide (by
      have k := Tryz.strings_Split (ba l) (ba [10]) m w (by rw [ba_size]; omega) hm (by decide)
      rw [hnp, hA] at k
      have e : Lib.splitB (ba [10]) 0 (Lib.countB (ba l) (ba [10])) (ba l) = P.map ba := by rw [← hP, parts_ba]; rfl
      rw [e] at k
      rw [← hW1]
      exact k)
    have hcl : ∀ k (hk : k < P.length), W1.cell? ⟨A, k, none⟩ = some (.string (ba P[k])) := fun k hk => by
      rw [q1.cell k]
      simp [hk]
    have hnp2 : np ≤ 200001 := by
      have h3 := Lib.countB_le (ba [10]) (by decide) _ (ba l) (Nat.le_refl _)
      rw [ba_size] at h3
      omega
    have HPL := hide hPl
    have HPS := hide hPs
    have HCL := hide hcl
    have HB1 := hide b1
    have HA := hide hA
    have HG := hide (hg.low b1)
    clear h1 h2 hP hnp hPl hPs hcl b1 q1 hW1 hA hg hm hl hll
    go_enter Tryz.func159, Tryz.ntmps159
    go_wp2_with (go_at_call 192; fail)
    refine (unhide K1 _).mono ?_
    rintro e wn ⟨rfl, hwn⟩
    rw [hwn]
    clear hwn wn K1
    go_wp2_with (go_at_call 98; fail)
    refine (unhide K2).mono ?_
    rintro e wn ⟨rfl, hwn⟩
    rw [hwn]
    clear hwn wn K2
    go_wp2
    go_loopw [6, 8, 9, 10, 21] (fun v6 _ _ _ v21 wr => ∃ (i : Nat) (xs : List Sx), i ≤ np ∧ xs.length ≤ i ∧ v21 = .int .i64 (i : Int) ∧ Hid (mapL P = bhd xs (mapL (P.drop i))) ∧ SOwn W1.heap.size wr v6 xs ∧ Below W1.heap.size W1 wr) (fun _ _ _ _ v21 _ => np - (intOf v21).toNat)
    case atStart => exact ⟨0, [], Nat.zero_le _, Nat.zero_le _, rfl, hide (by rw [List.drop_zero]; cases mapL P <;> rfl), ⟨World.ownsRow_nil _ _ _ _, fun x hx => by cases hx⟩, Below.refl _ _⟩
    case round =>
      rename World => wr
      obtain ⟨i, xs, hi, hxi, rfl, hmap, hown, hbw⟩ := hrel
      by_cases hlt : i < np
      · have hil : i < P.length := by rw [unhide HPL]; exact hlt
        have hlt' : (i : Int) < (np : Int) := by omega
        have c0 := unhide HCL i hil
        have c1 : wr.cell? ⟨A, i, none⟩ = some (.string (ba P[i])) := (hbw.cell (lt_of_cell c0)).trans c0
        have hps := unhide HPS _ (List.getElem_mem hil)
        have hdr : P.drop i = P[i] :: P.drop (i + 1) := List.drop_eq_getElem_cons hil
        obtain ⟨p, hp⟩ : ∃ p, P[i] = p := ⟨_, rfl⟩
        rw [hp] at c1 hps hdr
        have HOW := hide hown
        have HBW := hide hbw
        have HDR := hide hdr
        clear c0 hown hbw hp hdr
        cases hlr : lineR p with
        | none =>
          have K3 := hide (readLine_bad (w := wr) hps hlr ((unhide HG).low (unhide HBW)))
          have HF : Hid (linesR ls = none) := hide (by
            rw [unhide HR, unhide hmap, unhide HDR]
            simp only [mapL, hlr, bhd])
          clear hlr hps hmap
          go_wp2_with (go_at_call 193; fail)
          refine (unhide K3).mono ?_
          rintro e w4 ⟨rfl, b4⟩
          have HB4 : Hid (∀ o, Below w.heap.size w (w4.alloc o)) := hide (fun o => lowA (low_trans (unhide HB1) (low_trans (unhide HBW) b4)) o)
          clear b4 K3
          go_wp2
          go_ret2
          exact ⟨Or.inl ⟨unhide HF, rfl⟩, unhide HB4 _⟩
        | some nb =>
          obtain ⟨nm, b⟩ := nb
          have K3 := hide (readLine_ok (w := wr) hps (line_is hps hlr) ((unhide HG).low (unhide HBW)))
          have HLR := hide hlr
          clear hlr hps
          go_wp2_with (go_at_call 193; fail)
          refine (unhide K3).mono ?_
          rintro e w4 ⟨g, n, cc, rfl, hn, at4, b4, ty4⟩
          obtain ⟨NN, hNN⟩ : ∃ NN : Int, ((numU b).toNat : Int) = NN := ⟨_, rfl⟩
          rw [hNN]
          obtain ⟨W5, hW5⟩ : ∃ W5, w4.alloc (.cells #[.string (ba nm), .int .u32 NN, .slice (some ⟨g, 4, none⟩) n cc] 157) = W5 := ⟨_, rfl⟩
          have b45 : Below w4.heap.size w4 W5 := by rw [← hW5]; exact lowA (Below.refl _ _) _
          have o5 := ((unhide HOW).low b4).low b45
          have bw5 : Below W1.heap.size W1 W5 := low_trans (unhide HBW) (low_trans b4 b45)
          obtain ⟨W6, hW6⟩ : ∃ W6, W5.alloc (.cells #[.string (ba nm), .int .u32 NN, .slice (some ⟨g, 4, none⟩) n cc] 157) = W6 := ⟨_, rfl⟩
          obtain ⟨v7, w7, happ, o7, gr7⟩ := app_sx (x := ⟨nm, b, g, cc⟩) hNN hn.symm o5.1 bw5.size (by omega) hW6
          have s5 : W5.heap.size = w4.heap.size + 1 := by rw [← hW5]; simp
          rw [s5] at happ
          have b57 : Below W1.heap.size W1 w7 := bw5.grown gr7 bw5.size (fun k hk => (row_ge o5.1 hk).1)
          have HS7 : Hid (SOwn W1.heap.size w7 v7 (xs ++ [⟨nm, b, g, cc⟩])) := hide ⟨o7, fun x hx => by
            have hbx : BAt W5 (some ⟨x.g, 4, none⟩) (x.b.drop 4) ∧ ∃ cs fr, W5.heap[x.g]? = some (.cells cs 5 fr) := by
              rcases List.mem_append.1 hx with h | h
              · exact o5.2 x h
              · simp at h
                subst h
                obtain ⟨cs, fr, hty⟩ := ty4
                exact ⟨at4.low b45, cs, fr, (b45.block g (Array.getElem?_eq_some_iff.1 hty).1).trans hty⟩
            obtain ⟨h1, cs, fr, h2⟩ := hbx
            have hk := gr7.block x.g (Array.getElem?_eq_some_iff.1 h2).1 (fun e => by
              obtain ⟨_, cur, hc⟩ := row_ge o5.1 e.symm
              have e2 := h2.symm.trans hc
              simp at e2)
            exact ⟨bat_keep h1 hk, cs, fr, hk.trans h2⟩⟩
          have HM : Hid (mapL P = bhd (xs ++ [⟨nm, b, g, cc⟩]) (mapL (P.drop (i + 1)))) := hide (by
            rw [unhide hmap, unhide HDR]
            simp only [mapL, unhide HLR]
            cases mapL (P.drop (i + 1)) with
            | none => rfl
            | some q => simp [bhd, sxK])
          have HB7 := hide b57
          have HW5 := hide hW5
          have HW6 := hide hW6
          clear s5 hn at4 b4 ty4 hNN b45 o5 bw5 o7 gr7 b57 hmap hW5 hW6 K3
          go_wp2_with (at_builtin; rw [unhide HW5, unhide HW6]; refine Lib.wpList_append_run _ rfl _ _ _ _ rfl _ _ rfl rfl _ _ happ ?_; clear happ)
          go_roundw
          case rel => exact ⟨i + 1, _, hlt, by simp; omega, by push_cast; rfl, HM, unhide HS7, unhide HB7⟩
          case measure => simp [intOf]; omega
      · have hie : i = np := by omega
        subst hie
        have HF : Hid (linesR ls = some (xs.map sxK)) := hide (by
          rw [unhide HR, unhide hmap, List.drop_of_length_le (by rw [unhide HPL]; exact Nat.le_refl _)]
          simp [mapL, bhd])
        have HO := hide (SOwn.less (unhide HB1).size hown)
        have HB := hide (low_trans (unhide HB1) hbw)
        clear hmap hown hbw
        go_wp2
        go_ret2
        exact ⟨Or.inr ⟨_, xs, unhide HF, rfl, unhide HO⟩, unhide HB⟩
end Go.Proofs.YtkablmjkffdloaaGreatDoor
