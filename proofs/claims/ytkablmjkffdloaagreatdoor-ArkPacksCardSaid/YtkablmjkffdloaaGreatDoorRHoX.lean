/-
  The reference's sum of files: any files.
-/
import Derived.Test.YtkablmjkffdloaaGreatDoorHex
import Derived.Test.YtkablmjkffdloaaGreatDoorRByN
import Derived.Test.YtkablmjkffdloaaGreatDoorRVal
import Derived.Test.YtkablmjkffdloaaGreatDoorRefY
import Derived.Lib.AppendStr
import Derived.Test.YtkablmjkffdloaaGreatDoorRNmX
import Derived.Test.YtkablmjkffdloaaGreatDoorByX
import Derived.Test.YtkablmjkffdloaaGreatDoorFlsA
import Derived.Test.YtkablmjkffdloaaGreatDoorArcQ
import Derived.Test.YtkablmjkffdloaaGreatDoorPckA
import Derived.Deep.RegionHeld3
namespace Go.Proofs.YtkablmjkffdloaaGreatDoor
open Go.RowKit

set_option maxRecDepth 100000 in
set_option maxHeartbeats 2000000 in
theorem refHex_any {w : World} {a : Option Addr} {n c : Nat} {b : Bs} (hn : b.length = n) (hN : n ≤ 1048576) (h : BAt w a b) :
    Calls Tryz.prog 32 #[.slice a n c] w fun e w' => e = .returned (.string ⟨(hexL b).toArray⟩) ∧ Below w.heap.size w w' := by
  have HN := hide hn
  have H := hide h
  clear hn h
  go_enter Tryz.func32, Tryz.ntmps32
  go_wp2
  go_loopw [4, 5] (fun v4 v5 wr => ∃ j : Nat, j ≤ n ∧ v5 = .int .i64 (j : Int) ∧ OwnB w.heap.size wr v4 (hexL (b.take j)) ∧ Below w.heap.size w wr) (fun _ v5 _ => n - (intOf v5).toNat)
  case atStart => exact ⟨0, Nat.zero_le _, rfl, ⟨rfl, Or.inl ⟨rfl, rfl⟩⟩, Below.refl _ _⟩
  case round =>
    rename World => wr
    obtain ⟨j, hj, rfl, ho, hb⟩ := hrel
    by_cases hlt : j < n
    · have hjl : j < b.length := by rw [unhide HN]; exact hlt
      obtain ⟨B, O, rfl, hcell⟩ := ((unhide H).low hb).at hjl
      have hsn := hexL_snoc hjl
      obtain ⟨x, hx⟩ : ∃ x, b[j] = x := ⟨_, rfl⟩
      rw [hx] at hcell hsn
      have hx2 := u8_lt x
      have hlen : (hexL (b.take j)).length ≤ 2147483648 := by rw [hexL_len, List.length_take]; omega
      obtain ⟨p, hp⟩ : ∃ p, x.toNat / 16 = p := ⟨_, rfl⟩
      obtain ⟨q, hq⟩ : ∃ q, x.toNat % 16 = q := ⟨_, rfl⟩
      have p1 : (x.toNat : Int) / 16 = (p : Int) := by omega
      have p2 : (x.toNat : Int).tmod 16 = (q : Int) := by rw [Int.tmod_eq_emod_of_nonneg (by omega)]; omega
      have p3 : IntKind.u8.wrap (p : Int) = (p : Int) := by rw [IntKind.wrap_u8]; omega
      have p16 : p < 16 := by omega
      have q16 : q < 16 := by omega
      have p16i : (p : Int) < 16 := by omega
      have q16i : (q : Int) < 16 := by omega
      obtain ⟨y, hy⟩ : ∃ y, digN p = y := ⟨_, rfl⟩
      obtain ⟨z, hz⟩ : ∃ z, digN q = z := ⟨_, rfl⟩
      have dy := (dig_at p16).trans hy
      have dz := (dig_at q16).trans hz
      unfold digitsB at dy dz
      obtain ⟨W1, hW1⟩ : ∃ W1, wr.drew.alloc (.cells #[.int .u8 (y.toNat : Int), .int .u8 (z.toNat : Int)] 5) = W1 := ⟨_, rfl⟩
      obtain ⟨v', w', happ, hown, hgr⟩ := app_two (W1 := W1) (w := wr.drew) (ho.low (Below.refl _ _).drew) hb.size hlen hW1
      have hh : hex2 x = [y, z] := by unfold hex2; rw [hp, hq, hy, hz]
      rw [← hh, hsn] at hown
      have HP : Hid (OwnB w.heap.size w' v' (hexL (b.take (j + 1))) ∧ Below w.heap.size w w') := hide ⟨hown, hb.drew.trans (hgr.low hb.size (OwnB.base ho))⟩
      have HW1 := hide hW1
      clear ho hb hown hgr hW1 hsn hx hh hy hz hp hq hlen
      have mixed : Tryz.prog.follows .mixedOrders = true := by kernel_rfl
      go_wp2
      refine wp_region_any mixed ?_
      refine wpAny_take (i := 0) (v := u4) rfl (by kernel_rfl) (by kernel_rfl) (by kernel_rfl) (fun _ _ _ h => h) (Or.inl ⟨rfl, fun _ => rfl⟩) ?_
      refine wpAny_take (i := 1) (v := .string ⟨#[48, 49, 50, 51, 52, 53, 54, 55, 56, 57, 97, 98, 99, 100, 101, 102]⟩) rfl (by kernel_rfl) (by kernel_rfl) (by kernel_rfl) (fun _ _ _ h => h) (Or.inl ⟨rfl, fun _ => rfl⟩) ?_
      refine wpAny_take (i := 2) (v := .slice (some ⟨B, O, none⟩) n c) rfl (by kernel_rfl) (by kernel_rfl) (by kernel_rfl) (fun _ _ _ h => h) (Or.inl ⟨rfl, fun _ => rfl⟩) ?_
      refine wpAny_take (i := 3) (v := .int .i64 (j : Int)) rfl (by kernel_rfl) (by kernel_rfl) (by kernel_rfl) (fun _ _ _ h => h) (Or.inl ⟨rfl, fun _ => rfl⟩) ?_
      refine wpAny_take (i := 4) (v := .pointer (some ⟨B, O + j, none⟩)) rfl (by kernel_rfl) (by kernel_rfl) (by kernel_rfl) (fun _ _ _ h => h) (Or.inl ⟨rfl, fun _ => by go_simp⟩) ?_
      go_simp
      refine wpAny_take (i := 8) (v := .string ⟨#[48, 49, 50, 51, 52, 53, 54, 55, 56, 57, 97, 98, 99, 100, 101, 102]⟩) rfl (by kernel_rfl) (by kernel_rfl) (by kernel_rfl) (fun _ _ _ h => h) (Or.inl ⟨rfl, fun _ => rfl⟩) ?_
      refine wpAny_take (i := 9) (v := .slice (some ⟨B, O, none⟩) n c) rfl (by kernel_rfl) (by kernel_rfl) (by kernel_rfl) (fun _ _ _ h => h) (Or.inl ⟨rfl, fun _ => rfl⟩) ?_
      refine wpAny_take (i := 10) (v := .int .i64 (j : Int)) rfl (by kernel_rfl) (by kernel_rfl) (by kernel_rfl) (fun _ _ _ h => h) (Or.inl ⟨rfl, fun _ => rfl⟩) ?_
      refine wpAny_take (i := 11) (v := .pointer (some ⟨B, O + j, none⟩)) rfl (by kernel_rfl) (by kernel_rfl) (by kernel_rfl) (fun _ _ _ h => h) (Or.inl ⟨rfl, fun _ => by go_simp⟩) ?_
      go_simp
      refine wpAny_ready (rs := [5, 12]) (by kernel_rfl) (by simp) (ready_step _ rfl rfl (fun K hK => ?_) (ready_step _ rfl rfl (fun K hK => ?_) AllReady.nil))
      · go_simp
        refine hK _ _ ?_
        clear hK K
        go_simp
        refine wpAny_take (i := 6) (v := .int .u8 (p : Int)) rfl (by kernel_rfl) (by kernel_rfl) (by kernel_rfl) (fun _ _ _ h => h) (Or.inl ⟨rfl, fun _ => by go_simp⟩) ?_
        refine wpAny_take (i := 7) (v := .int .u8 (y.toNat : Int)) rfl (by kernel_rfl) (by kernel_rfl) (by kernel_rfl) (fun _ _ _ h => h) (Or.inl ⟨rfl, fun _ => by go_simp⟩) ?_
        go_simp
        refine wpAny_ready (rs := [12]) (by kernel_rfl) (by simp) (ready_step _ rfl rfl (fun K hK => ?_) AllReady.nil)
        go_simp
        refine hK _ _ ?_
        clear hK K
        go_simp
        refine wpAny_take (i := 13) (v := .int .u8 (q : Int)) rfl (by kernel_rfl) (by kernel_rfl) (by kernel_rfl) (fun _ _ _ h => h) (Or.inl ⟨rfl, fun _ => by go_simp⟩) ?_
        refine wpAny_take (i := 14) (v := .int .u8 (z.toNat : Int)) rfl (by kernel_rfl) (by kernel_rfl) (by kernel_rfl) (fun _ _ _ h => h) (Or.inl ⟨rfl, fun _ => by go_simp⟩) ?_
        go_simp
        refine wpAny_ready (rs := [15]) (by kernel_rfl) (by simp) (ready_step _ rfl rfl (fun K hK => ?_) AllReady.nil)
        go_simp
        refine hK _ _ ?_
        clear hK K
        refine wpAny_ready (rs := [16]) (by kernel_rfl) (by simp) (ready_step _ rfl rfl (fun K hK => ?_) AllReady.nil)
        rw [show (wr.alloc (.cells #[.int .u8 (y.toNat : Int), .int .u8 (z.toNat : Int)] 5)).drew = W1 from unhide HW1]
        refine Lib.wp_append_run _ _ _ _ _ rfl _ _ rfl rfl _ _ happ ?_
        refine hK _ _ ?_
        clear hK K
        refine wpAny_ready (rs := [17]) (by kernel_rfl) (by simp) (ready_step _ rfl rfl (fun K hK => ?_) AllReady.nil)
        go_simp
        refine hK _ _ ?_
        clear hK K
        refine wpAny_done (by kernel_rfl) ?_ _
        go_wp2
        go_roundw
        case rel => exact ⟨j + 1, hlt, by simp, (unhide HP).1, (unhide HP).2⟩
        case measure => simp [intOf]; omega
      · go_simp
        refine hK _ _ ?_
        clear hK K
        go_simp
        refine wpAny_take (i := 13) (v := .int .u8 (q : Int)) rfl (by kernel_rfl) (by kernel_rfl) (by kernel_rfl) (fun _ _ _ h => h) (Or.inl ⟨rfl, fun _ => by go_simp⟩) ?_
        refine wpAny_take (i := 14) (v := .int .u8 (z.toNat : Int)) rfl (by kernel_rfl) (by kernel_rfl) (by kernel_rfl) (fun _ _ _ h => h) (Or.inl ⟨rfl, fun _ => by go_simp⟩) ?_
        go_simp
        refine wpAny_ready (rs := [5]) (by kernel_rfl) (by simp) (ready_step _ rfl rfl (fun K hK => ?_) AllReady.nil)
        go_simp
        refine hK _ _ ?_
        clear hK K
        go_simp
        refine wpAny_take (i := 6) (v := .int .u8 (p : Int)) rfl (by kernel_rfl) (by kernel_rfl) (by kernel_rfl) (fun _ _ _ h => h) (Or.inl ⟨rfl, fun _ => by go_simp⟩) ?_
        refine wpAny_take (i := 7) (v := .int .u8 (y.toNat : Int)) rfl (by kernel_rfl) (by kernel_rfl) (by kernel_rfl) (fun _ _ _ h => h) (Or.inl ⟨rfl, fun _ => by go_simp⟩) ?_
        go_simp
        refine wpAny_ready (rs := [15]) (by kernel_rfl) (by simp) (ready_step _ rfl rfl (fun K hK => ?_) AllReady.nil)
        go_simp
        refine hK _ _ ?_
        clear hK K
        refine wpAny_ready (rs := [16]) (by kernel_rfl) (by simp) (ready_step _ rfl rfl (fun K hK => ?_) AllReady.nil)
        rw [show (wr.alloc (.cells #[.int .u8 (y.toNat : Int), .int .u8 (z.toNat : Int)] 5)).drew = W1 from unhide HW1]
        refine Lib.wp_append_run _ _ _ _ _ rfl _ _ rfl rfl _ _ happ ?_
        refine hK _ _ ?_
        clear hK K
        refine wpAny_ready (rs := [17]) (by kernel_rfl) (by simp) (ready_step _ rfl rfl (fun K hK => ?_) AllReady.nil)
        go_simp
        refine hK _ _ ?_
        clear hK K
        refine wpAny_done (by kernel_rfl) ?_ _
        go_wp2
        go_roundw
        case rel => exact ⟨j + 1, hlt, by simp, (unhide HP).1, (unhide HP).2⟩
        case measure => simp [intOf]; omega
    · have hjn : j = n := by omega
      subst hjn
      rw [← unhide HN, List.take_length] at ho
      have hcv := conv_own ho
      have HB := hide hb
      clear ho hb
      go_wp2
      go_ret
      exact ⟨rfl, unhide HB⟩

end Go.Proofs.YtkablmjkffdloaaGreatDoor

namespace Go.Proofs.YtkablmjkffdloaaGreatDoor
open Go.RowKit

theorem goMod_good : (pieces 47 goMod).all elG = true := by decide +kernel

set_option maxRecDepth 100000 in
set_option maxHeartbeats 1000000 in
theorem names_one {w : World} {B : Nat} (h0 : w.cell? ⟨B, 0, none⟩ = some (.string (ba goMod))) :
    Calls Tryz.prog 93 #[.slice (some ⟨B, 0, none⟩) 1 1] w fun e w' => e = .returned (.int .i64 0) ∧ Below w.heap.size w w' := by
  have HV := hide (fun wx => refValid_good (l := goMod) (by decide) (by decide) goMod_good wx)
  obtain ⟨GM, hGM⟩ : ∃ GM, ba goMod = GM := ⟨_, rfl⟩
  rw [hGM] at h0 HV
  have H0 := hide h0
  clear h0 hGM
  go_enter Tryz.func93, Tryz.ntmps93
  go_wp2
  go_loopw [3, 4, 5] (fun v3 _ _ wr => (v3 = .int .i64 0 ∨ v3 = .int .i64 1) ∧ Below w.heap.size w wr) (fun v3 _ _ _ => 1 - (intOf v3).toNat)
  case atStart => exact ⟨Or.inl rfl, Below.refl _ _⟩
  case round =>
    rename World => wr
    obtain ⟨hv, hb⟩ := hrel
    have h0 := (hb.cell (lt_of_cell (unhide H0))).trans (unhide H0)
    have HB := hide hb
    clear hb
    rcases hv with rfl | rfl
    · go_wp2_with (go_at_call 49; fail)
      refine (unhide HV _).mono ?_
      rintro e w1 ⟨rfl, b1⟩
      have HB1 := hide (low_trans (unhide HB) b1)
      clear b1 h0
      go_wp2
      refine wp_loop_rounds 1 ?_
      rw [rounds_succ]
      go_wp2
      exact ⟨⟨Or.inr rfl, unhide HB1⟩, by simp [intOf]⟩
    · go_wp2
      go_ret
      exact ⟨rfl, unhide HB⟩

set_option maxRecDepth 100000 in
set_option maxHeartbeats 2000000 in
theorem refH1_one {w : World} {B n c : Nat} {a : Option Addr} {b : Bs} (h0 : w.cell? ⟨B, 0, none⟩ = some (.string (ba goMod))) (h1 : w.cell? ⟨B, 1, none⟩ = some (.slice a n c)) (hn : b.length = n) (hN : n ≤ 1048576) (h : BAt w a b) :
    Calls Tryz.prog 41 #[.slice (some ⟨B, 0, none⟩) 1 1] w fun e w' => e = .returned (.tuple #[.string (ba (manF b)), .int .i64 0]) ∧ Below w.heap.size w w' := by
  have HNM := hide (names_one h0)
  have HC := hide (And.intro h0 h1)
  have HA := hide (And.intro hn h)
  clear h0 h1 hn h
  go_enter Tryz.func41, Tryz.ntmps41
  go_wp2_with (go_at_call 93; fail)
  refine (unhide HNM).mono ?_
  rintro e w1 ⟨rfl, b1⟩
  have HB1 := hide b1
  have HBY := hide (byN_one (x := ⟨goMod, a, n, c⟩) ((b1.cell (lt_of_cell (unhide HC).1)).trans (unhide HC).1) ((b1.cell (lt_of_cell (unhide HC).2)).trans (unhide HC).2))
  clear b1 HNM
  go_wp2_with (go_at_call 22; fail)
  refine (unhide HBY).mono ?_
  rintro e w2 ⟨v2, rfl, hrow, b2⟩
  obtain ⟨ra, rc, hv2, hrc, hrb⟩ := FRow.rowB hrow
  subst hv2
  obtain ⟨g, cur, hra, hblk, hcur⟩ : ∃ g cur, ra = some ⟨g, 0, none⟩ ∧ w2.heap[g]? = some (.cells cur 56 (0, 0)) ∧ ∀ j, j < 1 * 2 → cur[j]? = (flsV [⟨goMod, a, n, c⟩])[j]? := by
    rcases hrb with e | h
    · cases e
    · exact h
  subst hra
  have k0 : w2.cell? ⟨g, 0, none⟩ = some (.string (ba goMod)) := by rw [Lib.cell_of_heap hblk, hcur 0 (by decide)]; rfl
  have k1 : w2.cell? ⟨g, 1, none⟩ = some (.slice a n c) := by rw [Lib.cell_of_heap hblk, hcur 1 (by decide)]; rfl
  have bw := low_trans (unhide HB1) b2
  have HBW := hide bw
  have hat2 := (unhide HA).2.low bw
  have hrc1 : 1 ≤ rc := hrc
  have hll : ([⟨goMod, a, n, c⟩] : List Fl).length = 1 := rfl
  rw [hll]
  have HSC : Hid (∀ wx, Below w2.heap.size w2 wx → (wx.cell? ⟨g, 0, none⟩ = some (.string (ba goMod)) ∧ wx.cell? ⟨g, 1, none⟩ = some (.slice a n c))) := hide (fun wx bb => ⟨(bb.cell (lt_of_cell k0)).trans k0, (bb.cell (lt_of_cell k1)).trans k1⟩)
  have HSHA : Hid (Calls Tryz.prog 28 #[.slice a n c] w2.drew fun e w' => ∃ g5 cc, e = .returned (.slice (some ⟨g5, 0, none⟩) 32 cc) ∧ Hid (BAt w' (some ⟨g5, 0, none⟩) (shaL b) ∧ Below w2.heap.size w2 w') ∧ (w'.cell? ⟨g, 0, none⟩ = some (.string (ba goMod)) ∧ w'.cell? ⟨g, 1, none⟩ = some (.slice a n c))) := hide (by
    refine (refSha_any (w := w2.drew) (c := c) (unhide HA).1 (by omega) (hat2.low (Below.refl _ _).drew)).mono ?_
    rintro e w' ⟨v, rfl, o, bb⟩
    have b3 : Below w2.heap.size w2 w' := (Below.refl _ _).drew.trans bb
    obtain ⟨g5, cc, rfl, hat, _⟩ := OwnB.adr o (shaL_len b)
    exact ⟨g5, cc, rfl, hide ⟨hat, b3⟩, unhide HSC _ b3⟩)
  obtain ⟨HX2, hHX⟩ : ∃ HX2, hexL (shaL b) = HX2 := ⟨_, rfl⟩
  have hHXl : HX2.length = 64 := by rw [← hHX, hexL_len, shaL_len]
  have HHEX : Hid (∀ wx g5 cc, Hid (BAt wx (some ⟨g5, 0, none⟩) (shaL b) ∧ Below w2.heap.size w2 wx) → Calls Tryz.prog 32 #[.slice (some ⟨g5, 0, none⟩) 32 cc] wx fun e w' => e = .returned (.string (ba HX2)) ∧ Hid (Below w2.heap.size w2 w') ∧ (w'.cell? ⟨g, 0, none⟩ = some (.string (ba goMod)) ∧ w'.cell? ⟨g, 1, none⟩ = some (.slice a n c))) := hide (fun wx g5 cc hh => by
    obtain ⟨q1, q2⟩ := unhide hh
    refine (refHex_any (c := cc) (shaL_len b) (by omega) q1).mono ?_
    rintro e w' ⟨rfl, bb⟩
    have b3 := low_trans q2 bb
    exact ⟨by rw [hHX]; rfl, hide b3, unhide HSC _ b3⟩)
  obtain ⟨LN, hLN⟩ : ∃ LN, lineF goMod b = LN := ⟨_, rfl⟩
  have hLNl : LN.length = 73 := by rw [← hLN]; exact lineF_len _ _
  have c1 : ba HX2 ++ (⟨#[32, 32]⟩ : ByteArray) = ba (HX2 ++ [32, 32]) := cat _ [32, 32]
  obtain ⟨X2, hX2⟩ : ∃ X2, HX2 ++ [32, 32] = X2 := ⟨_, rfl⟩
  rw [hX2] at c1
  have c2 : ba X2 ++ ba goMod = ba (X2 ++ goMod) := cat _ _
  obtain ⟨X3, hX3⟩ : ∃ X3, X2 ++ goMod = X3 := ⟨_, rfl⟩
  rw [hX3] at c2
  have c3 : ba X3 ++ (⟨#[10]⟩ : ByteArray) = ba LN := by
    have := cat X3 [10]
    rw [← hLN]
    unfold lineF
    rw [hHX, ← show X3 ++ [10] = HX2 ++ (32 :: 32 :: (goMod ++ [10])) by rw [← hX3, ← hX2]; simp]
    exact this
  obtain ⟨GM, hGM⟩ : ∃ GM, ba goMod = GM := ⟨_, rfl⟩
  have y3 : GM.size = 6 := by rw [← hGM, ba_size]; rfl
  have y1 : (ba HX2).size = 64 := by rw [ba_size]; exact hHXl
  have y2 : (ba X2).size = 66 := by rw [ba_size, ← hX2, List.length_append, hHXl]; rfl
  have y4 : (ba X3).size = 72 := by rw [ba_size, ← hX3, List.length_append, ← ba_size X2, y2]; rfl
  have y5 : (ba LN).size = 73 := by rw [ba_size, hLNl]
  have HAP : Hid (∀ wx, Hid (Below w2.heap.size w2 wx) → ∃ v4 w4, (Builtin.append_ #[23, 9] 23 #[.slice none 0 0, .string (ba LN)]).run Tryz.prog wx = .ok v4 w4 ∧ Hid (OwnB w2.heap.size w4 v4 LN ∧ Below w2.heap.size w2 w4) ∧ (w4.cell? ⟨g, 0, none⟩ = some (.string (ba goMod)) ∧ w4.cell? ⟨g, 1, none⟩ = some (.slice a n c))) := hide (fun wx hh => by
    obtain ⟨i0, hi, hz0, hz1, hz2⟩ := info_parts info5
    have h2 := unhide hh
    obtain ⟨v4, w4, r1, r2, r3, _⟩ := Lib.run_append_own_string (P := Tryz.prog) wx w2.heap.size 23 9 23 5 i0 Tryz.underlying23 Tryz.underlying9 hi hz0 hz1 hz2 (.slice none 0 0) 0 [] (World.ownsRow_nil _ _ _ _) (ba LN) (by unfold maxLen; omega) (by omega) h2.size
    have b4 : Below w2.heap.size w2 w4 := h2.trans ⟨r3.os, r3.tape, r3.output, r3.size, fun k hk => r3.block k (Nat.lt_of_lt_of_le hk h2.size) (fun e => by cases e)⟩
    refine ⟨v4, w4, r1, hide ⟨?_, b4⟩, unhide HSC _ b4⟩
    rw [Nat.zero_add, ba_size, List.nil_append] at r2
    exact r2)
  rw [hGM] at HSC HSHA HHEX HAP k0 c2
  have hS2 := unhide HSC _ (Below.refl _ _)
  have hS2d := unhide HSC _ ((Below.refl w2.heap.size w2).drew)
  have HLN := hide hLN
  clear b2 hrow hrb hblk hcur hat2 bw hrc hGM hHX hHXl hLN hLNl hX2 hX3 hll HBY
  go_wp2
  go_loopw [6, 7] (fun v6 v7 wr => (v7 = .int .i64 0 ∧ v6 = .slice none 0 0 ∧ wr = w2) ∨ (v7 = .int .i64 1 ∧ OwnB w2.heap.size wr v6 LN ∧ Below w2.heap.size w2 wr)) (fun _ v7 _ => 1 - (intOf v7).toNat)
  case atStart => exact Or.inl ⟨rfl, rfl, rfl⟩
  case round =>
    rename World => wr
    rcases hrel with ⟨rfl, rfl, rfl⟩ | ⟨rfl, ho, hb⟩
    · go_wp2
      go_region_held3 (fun wx => (wx.cell? ⟨g, 0, none⟩ = some (.string GM) ∧ wx.cell? ⟨g, 1, none⟩ = some (.slice a n c)))
        (first | assumption | exact hS2 | exact hS2d | go_keep)
        ((first | (go_at_call 28; refine (unhide HSHA).mono ?_; rintro e w5 ⟨g5, c5, rfl, hv5, hS5⟩) | (go_at_call 32; revert hv5; intro hv5; refine (unhide HHEX _ _ _ hv5).mono ?_; rintro e w6 ⟨rfl, hv6, hS6⟩) | (revert hv6; intro hv6; obtain ⟨v7, w7, happ7, hv7, hS7⟩ := unhide HAP _ hv6; refine Lib.wp_append_run _ (.tmp 21) (.tmp 36) 23 9 (by rfl) (.slice none 0 0) (.string (ba LN)) (by kernel_rfl) (by kernel_rfl) v7 w7 happ7 ?_)))
      have HV7 := hv7
      clear hv7 hv6 hv5 happ7
      go_wp2
      go_roundw
      case rel => exact Or.inr ⟨rfl, (unhide HV7).1, (unhide HV7).2⟩
      case measure => simp [intOf]
    · obtain ⟨oa, oc, rfl, oat, ocap, _⟩ := OwnB.at ho
      have hl73 : LN.length = 73 := by rw [← ba_size]; exact y5
      have HSH := hide (refSha_any (c := oc) hl73 (by omega) oat)
      rw [hl73]
      have HB := hide hb
      clear ho hb oat ocap hl73
      go_wp2_with (go_at_call 28; fail)
      refine (unhide HSH).mono ?_
      rintro e w4 ⟨v4, rfl, o4, b4⟩
      obtain ⟨g4, c4, rfl, hat4, hc4, _⟩ := OwnB.adr o4 (shaL_len LN)
      have HB4 := hide (low_trans (unhide HB) b4)
      have HB6 := hide (refB64_any (c := c4) (shaL_len LN) (by omega) hat4)
      obtain ⟨T, hT⟩ : ∃ T, b64 (shaL LN) = T := ⟨_, rfl⟩
      rw [hT] at HB6
      have hTl : T.length ≤ 44 := by rw [← hT]; exact b64_len 11 _ (by rw [shaL_len]; omega)
      have ct2 : (⟨#[104, 49, 58]⟩ : ByteArray) ++ (⟨T.toArray⟩ : ByteArray) = ba (manF b) := by
        have := cat [104, 49, 58] T
        unfold manF
        rw [unhide HLN, hT]
        exact this
      obtain ⟨tl, htl⟩ : ∃ tl, T.length = tl := ⟨_, rfl⟩
      have z2 : (⟨T.toArray⟩ : ByteArray).size = tl := by rw [← htl]; exact ba_size T
      have n1 : ¬ (9223372036854775807 < 3 + tl) := by omega
      clear o4 b4 hat4 hT htl
      go_wp2_with (go_at_call 33; fail)
      refine (unhide HB6).mono ?_
      rintro e w5 ⟨rfl, b5⟩
      have HB5 := hide (low_trans (unhide HBW) (low_trans (unhide HB4) b5))
      clear b5
      go_wp2
      go_ret2
      exact ⟨rfl, unhide HB5⟩

set_option maxRecDepth 100000 in
set_option maxHeartbeats 1000000 in
theorem refMan_any {w : World} {a : Option Addr} {n c : Nat} {b : Bs} (hn : b.length = n) (hN : n ≤ 1048576) (h : BAt w a b) :
    Calls Tryz.prog 35 #[.slice a n c] w fun e w' => e = .returned (.string (ba (manF b))) ∧ Below w.heap.size w w' := by
  obtain ⟨W1, hW1⟩ : ∃ W1, w.alloc (.cells #[.string (ba goMod), .slice a n c] 56) = W1 := ⟨_, rfl⟩
  have b1 : Below w.heap.size w W1 := by rw [← hW1]; exact (Below.refl _ _).alloc (Nat.le_refl _) _
  have q1 : Blk W1 w.heap.size #[.string (ba goMod), .slice a n c] 56 := by rw [← hW1]; exact Blk.new _ _ _
  have HS := hide (refH1_one (B := w.heap.size) (q1.cell 0) (q1.cell 1) hn hN (h.low b1))
  have HB1 := hide b1
  have hW1' : w.alloc (.cells #[.string ⟨#[103, 111, 46, 109, 111, 100]⟩, .slice a n c] 56) = W1 := hW1
  have HW1 := hide hW1'
  clear b1 q1 hW1 hW1' h hn
  go_enter Tryz.func35, Tryz.ntmps35
  go_wp2_with (go_at_call 41; fail)
  rw [unhide HW1]
  refine (unhide HS).mono ?_
  rintro e w2 ⟨rfl, b2⟩
  have HB := hide (low_trans (unhide HB1) b2)
  clear b2
  go_wp2
  go_ret
  exact ⟨rfl, unhide HB⟩
end Go.Proofs.YtkablmjkffdloaaGreatDoor

namespace Go.Proofs.YtkablmjkffdloaaGreatDoor
open Go.RowKit

theorem lines_bd {dat : Fl → Bs} {ys : List Fl} (h : ∀ x ∈ ys, x.nm.length ≤ 100000) : ∀ i, i ≤ ys.length → (linesF dat (ys.take i)).length ≤ i * 100067
  | 0, _ => by simp [linesF]
  | i + 1, hi => by
    have h1 := lines_bd (dat := dat) h i (by omega)
    have h2 := h _ (List.getElem_mem (by omega : i < ys.length))
    rw [linesF_snoc (by omega), List.length_append, lineF_len]
    omega

set_option maxRecDepth 100000 in
set_option maxHeartbeats 8000000 in
theorem refH1_any {w : World} {a : Option Addr} {n c : Nat} {xs : List Fl} {dat : Fl → Bs} (hx : xs.length = n) (hn : n ≤ 1000) (h : FAt w a xs) (hd : DatG w xs dat) :
    Calls Tryz.prog 41 #[.slice a n c] w fun e w' => H1Said dat xs e ∧ Below w.heap.size w w' := by
  have HX := hide hx
  have HA := hide h
  have HD := hide hd
  have KN := hide (refNames_any (c := c) hx (by omega) (fun x hx => by have := hd.nm x hx; omega) h)
  obtain ⟨N, hNN⟩ : ∃ N, nmE [] (xs.map Fl.nm) = N := ⟨_, rfl⟩
  rw [hNN] at KN
  have HNN := hide hNN
  clear hx h hd hNN
  go_enter Tryz.func41, Tryz.ntmps41
  go_wp2_with (go_at_call 93; fail)
  refine (unhide KN).mono ?_
  rintro e w2 ⟨rfl, b2⟩
  have HB2 := hide b2
  clear b2 KN
  by_cases hNz : N = 0
  case neg =>
    have z1 : (N != 0) = true := by simpa using hNz
    have HF : Hid (nmE [] (xs.map Fl.nm) ≠ 0 ∧ nmE [] (xs.map Fl.nm) = N) := hide ⟨by rw [unhide HNN]; exact hNz, unhide HNN⟩
    go_wp2
    go_ret2
    exact ⟨Or.inr ⟨(unhide HF).1, by rw [(unhide HF).2]; rfl⟩, unhide HB2⟩
  subst hNz
  have KB := hide (refByName_any (w := w2) (c := c) (unhide HX) (by omega) ((unhide HA).low (unhide HB2)))
  go_wp2_with (go_at_call 22; fail)
  refine (unhide KB).mono ?_
  rintro e w3 ⟨v3, ys, rfl, hr3, hp3, hi3, b3⟩
  have HB3 := hide (low_trans (unhide HB2) b3)
  obtain ⟨a3, c3, rfl, hat3, -⟩ := FRow.at hr3
  have hyn : ys.length = n := by rw [hp3.length_eq]; exact unhide HX
  rw [hyn]
  have HAT3 := hide hat3
  have HYN := hide hyn
  have HDY := hide (((unhide HD).low (unhide HB3)).perm hp3)
  have HP3 := hide (And.intro hp3 hi3)
  have HBD := hide (fun i (hi : i ≤ ys.length) => lines_bd (dat := dat) (unhide HDY).nm i hi)
  clear hr3 hp3 hi3 b3 hat3 hyn KB
  go_wp2
  go_loopw [6, 7] (fun v6 v7 wr => ∃ i : Nat, i ≤ n ∧ v7 = .int .i64 (i : Int) ∧ Hid (OwnB w3.heap.size wr v6 (linesF dat (ys.take i))) ∧ Hid (Below w3.heap.size w3 wr)) (fun _ v7 _ => n - (intOf v7).toNat)
  case atStart => exact ⟨0, Nat.zero_le _, rfl, hide (World.ownsRow_nil _ _ _ _), hide (Below.refl _ _)⟩
  case round =>
    rename World => wr
    obtain ⟨i, hi, rfl, hown, hbw⟩ := hrel
    by_cases hlt : i < n
    · have hlt' : (i : Int) < (n : Int) := by omega
      have hiy : i < ys.length := by rw [unhide HYN]; exact hlt
      have hlen := unhide HBD i (by omega)
      obtain ⟨B, O, rfl, -, -⟩ := (unhide HAT3).get hiy
      have hmk : ∀ wx, Below w3.heap.size w3 wx → wx.cell? ⟨B, O + i * 2, none⟩ = some (.string (ba ys[i].nm)) ∧ wx.cell? ⟨B, O + i * 2 + 1, none⟩ = some (.slice ys[i].a ys[i].n ys[i].c) ∧ Below w3.heap.size w3 wx := fun wx hb => by
        obtain ⟨B', O', e, z0, z1⟩ := ((unhide HAT3).low hb).get hiy
        cases e
        exact ⟨z0, z1, hb⟩
      have hmem := List.getElem_mem hiy
      have x1 := (unhide HDY).len _ hmem
      have x2 := (unhide HDY).few _ hmem
      have x6 := (unhide HDY).at_ _ hmem
      have x7 := (unhide HDY).nm _ hmem
      have hsn := linesF_snoc (dat := dat) hiy
      obtain ⟨d, hdd⟩ : ∃ d, dat ys[i] = d := ⟨_, rfl⟩
      rw [hdd] at x1 x6 hsn
      obtain ⟨x, hxx⟩ : ∃ x, ys[i] = x := ⟨_, rfl⟩
      rw [hxx] at hmk x1 x2 x6 x7 hsn
      obtain ⟨nm, xa, xn, xc⟩ := x
      simp only at hmk x1 x2 x6 x7 hsn
      have HSHA : Hid (∀ wx, Below wr.heap.size wr wx → Calls Tryz.prog 28 #[.slice xa xn xc] wx fun e w' => ∃ g5 cc, e = .returned (.slice (some ⟨g5, 0, none⟩) 32 cc) ∧ Hid (BAt w' (some ⟨g5, 0, none⟩) (shaL d) ∧ Below wr.heap.size wr w') ∧ (w'.cell? ⟨B, O + i * 2, none⟩ = some (.string (ba nm)) ∧ w'.cell? ⟨B, O + i * 2 + 1, none⟩ = some (.slice xa xn xc) ∧ Below w3.heap.size w3 w')) := hide (fun wx hb => by
        refine (refSha_any (c := xc) x1 (by omega) (x6.low (low_trans (unhide hbw) hb))).mono ?_
        rintro e w' ⟨v, rfl, o, bb⟩
        have b3 := low_trans hb bb
        obtain ⟨g5, cc, rfl, hat, _⟩ := OwnB.adr o (shaL_len d)
        exact ⟨g5, cc, rfl, hide ⟨hat, b3⟩, hmk _ (low_trans (unhide hbw) b3)⟩)
      obtain ⟨HX2, hHX⟩ : ∃ HX2, hexL (shaL d) = HX2 := ⟨_, rfl⟩
      have hHXl : HX2.length = 64 := by rw [← hHX, hexL_len, shaL_len]
      have HHEX : Hid (∀ wx g5 cc, Hid (BAt wx (some ⟨g5, 0, none⟩) (shaL d) ∧ Below wr.heap.size wr wx) → Calls Tryz.prog 32 #[.slice (some ⟨g5, 0, none⟩) 32 cc] wx fun e w' => e = .returned (.string (ba HX2)) ∧ Hid (Below wr.heap.size wr w') ∧ (w'.cell? ⟨B, O + i * 2, none⟩ = some (.string (ba nm)) ∧ w'.cell? ⟨B, O + i * 2 + 1, none⟩ = some (.slice xa xn xc) ∧ Below w3.heap.size w3 w')) := hide (fun wx g5 cc hh => by
        obtain ⟨q1, q2⟩ := unhide hh
        refine (refHex_any (c := cc) (shaL_len d) (by omega) q1).mono ?_
        rintro e w' ⟨rfl, bb⟩
        have b3 := low_trans q2 bb
        exact ⟨by rw [hHX]; rfl, hide b3, hmk _ (low_trans (unhide hbw) b3)⟩)
      obtain ⟨LN, hLN⟩ : ∃ LN, lineF nm d = LN := ⟨_, rfl⟩
      obtain ⟨k, hk⟩ : ∃ k, nm.length = k := ⟨_, rfl⟩
      rw [hk] at x7
      have c1 : ba HX2 ++ (⟨#[32, 32]⟩ : ByteArray) = ba (HX2 ++ [32, 32]) := cat _ [32, 32]
      obtain ⟨X2, hX2⟩ : ∃ X2, HX2 ++ [32, 32] = X2 := ⟨_, rfl⟩
      rw [hX2] at c1
      have c2 : ba X2 ++ ba nm = ba (X2 ++ nm) := cat _ _
      obtain ⟨X3, hX3⟩ : ∃ X3, X2 ++ nm = X3 := ⟨_, rfl⟩
      rw [hX3] at c2
      have c3 : ba X3 ++ (⟨#[10]⟩ : ByteArray) = ba LN := by
        have := cat X3 [10]
        rw [← hLN]
        unfold lineF
        rw [hHX, ← show X3 ++ [10] = HX2 ++ (32 :: 32 :: (nm ++ [10])) by rw [← hX3, ← hX2]; simp]
        exact this
      have hX2l : X2.length = 66 := by rw [← hX2, List.length_append, hHXl]; rfl
      have y1 : (ba HX2).size = 64 := by rw [ba_size]; exact hHXl
      have y2 : (ba X2).size = 66 := by rw [ba_size]; exact hX2l
      have y3 : (ba nm).size = k := by rw [ba_size]; exact hk
      obtain ⟨k2, hk2⟩ : ∃ x, 66 + k = x := ⟨_, rfl⟩
      have y4 : (ba X3).size = k2 := by rw [ba_size, ← hX3, List.length_append, hX2l, hk]; exact hk2
      have n0 : ¬ 9223372036854775807 < 66 + k := by omega
      have n1 : ¬ 9223372036854775807 < k2 + 1 := by omega
      have hLNl : LN.length = k + 67 := by rw [← hLN, lineF_len, hk]
      have HAP : Hid (∀ wx, Hid (Below wr.heap.size wr wx) → ∃ v' w', (Builtin.append_ #[23, 9] 23 #[u6, .string (ba LN)]).run Tryz.prog wx = .ok v' w' ∧ Hid (OwnB w3.heap.size w' v' (linesF dat (ys.take (i + 1))) ∧ Below w3.heap.size w3 w') ∧ (w'.cell? ⟨B, O + i * 2, none⟩ = some (.string (ba nm)) ∧ w'.cell? ⟨B, O + i * 2 + 1, none⟩ = some (.slice xa xn xc) ∧ Below w3.heap.size w3 w')) := hide (fun wx hh => by
        have hb3 := low_trans (unhide hbw) (unhide hh)
        obtain ⟨v', w', r1, r2, r3⟩ := app_strF (r := LN) (OwnB.low (unhide hown) (unhide hh)) hb3.size (by omega)
        have hb4 := hb3.trans (r3.low hb3.size (fun q hq => OwnB.base (unhide hown) q hq))
        refine ⟨v', w', r1, hide ⟨?_, hb4⟩, hmk _ hb4⟩
        rw [hsn, hLN]
        exact r2)
      have hSq : Below wr.heap.size wr wr.drew := (Below.refl _ _).drew
      have hS := hmk wr (unhide hbw)
      have hSd := hmk wr.drew (low_trans (unhide hbw) hSq)
      clear hmem x1 x2 x6 hdd hxx hHX hHXl hLN hX2 hX3 hX2l hk hk2 hLNl hsn hlen hiy hown hbw
      go_wp2
      go_region_held3 (fun wx => wx.cell? ⟨B, O + i * 2, none⟩ = some (.string (ba nm)) ∧ wx.cell? ⟨B, O + i * 2 + 1, none⟩ = some (.slice xa xn xc) ∧ Below w3.heap.size w3 wx)
        (first | assumption | exact hS | exact hSd)
        ((first | (go_at_call 28; refine (unhide HSHA _ hSq).mono ?_; rintro e w5 ⟨g5, c5, rfl, hv5, hS5⟩) | (go_at_call 32; revert hv5; intro hv5; refine (unhide HHEX _ _ _ hv5).mono ?_; rintro e w6 ⟨rfl, hv6, hS6⟩) | (revert hv6; intro hv6; obtain ⟨v7, w7, happ7, hv7, hS7⟩ := unhide HAP _ hv6; refine Lib.wp_append_run _ (.tmp 21) (.tmp 36) 23 9 (by rfl) u6 (.string (ba LN)) (by kernel_rfl) (by kernel_rfl) v7 w7 happ7 ?_)))
      have HV7 := hv7
      clear hv7 hv6 hv5 happ7 hS hSd hSq hmk
      go_wp2
      go_roundw
      case rel => exact ⟨i + 1, hlt, by push_cast; rfl, hide (unhide HV7).1, hide (unhide HV7).2⟩
      case measure => simp [intOf]; omega
    · have hie : i = n := by omega
      subst hie
      have hlen := unhide HBD ys.length (Nat.le_refl _)
      have ho : OwnB w3.heap.size wr u6 (linesF dat ys) := by
        have h1 := unhide hown
        rw [List.take_of_length_le (by rw [unhide HYN]; exact Nat.le_refl _)] at h1
        exact h1
      rw [List.take_of_length_le (Nat.le_refl _), unhide HYN] at hlen
      obtain ⟨LN, hLN⟩ : ∃ LN, linesF dat ys = LN := ⟨_, rfl⟩
      rw [hLN] at ho hlen
      obtain ⟨oa, oc, rfl, oat, -, -⟩ := OwnB.at ho
      obtain ⟨z, hz⟩ : ∃ z, LN.length = z := ⟨_, rfl⟩
      rw [hz] at hlen ⊢
      have HSH := hide (refSha_any (c := oc) hz (by omega) oat)
      have HLN := hide hLN
      have HB := hide (low_trans (unhide HB3) (unhide hbw))
      clear ho hbw hown oat hLN hz
      go_wp2_with (go_at_call 28; fail)
      refine (unhide HSH).mono ?_
      rintro e w4 ⟨v4, rfl, o4, b4⟩
      obtain ⟨g4, c4, rfl, hat4, hc4, _⟩ := OwnB.adr o4 (shaL_len LN)
      have HB4 := hide (low_trans (unhide HB) b4)
      have HB6 := hide (refB64_any (c := c4) (shaL_len LN) (by omega) hat4)
      obtain ⟨T, hT⟩ : ∃ T, b64 (shaL LN) = T := ⟨_, rfl⟩
      rw [hT] at HB6
      have hTl : T.length ≤ 44 := by rw [← hT]; exact b64_len 11 _ (by rw [shaL_len]; omega)
      have ct2 : (⟨#[104, 49, 58]⟩ : ByteArray) ++ (⟨T.toArray⟩ : ByteArray) = ba (sumF dat ys) := by
        have := cat [104, 49, 58] T
        unfold sumF
        rw [unhide HLN, hT]
        exact this
      obtain ⟨tl, htl⟩ : ∃ tl, T.length = tl := ⟨_, rfl⟩
      have z2 : (⟨T.toArray⟩ : ByteArray).size = tl := by rw [← htl]; exact ba_size T
      have n1 : ¬ (9223372036854775807 < 3 + tl) := by omega
      clear o4 b4 hat4 hT htl
      go_wp2_with (go_at_call 33; fail)
      refine (unhide HB6).mono ?_
      rintro e w5 ⟨rfl, b5⟩
      have HB5 := hide (low_trans (unhide HB4) b5)
      clear b5
      go_wp2
      go_ret2
      exact ⟨Or.inl ⟨unhide HNN, ys, (unhide HP3).1, (unhide HP3).2, rfl⟩, unhide HB5⟩
end Go.Proofs.YtkablmjkffdloaaGreatDoor
