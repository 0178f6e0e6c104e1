/-
  readPath at a tile's path.
-/
import Derived.Test.YtkpmbbeidcpclaaDoorPthR
namespace Go.Proofs.YtkpmbbeidcpclaaDoor
open Go.RowKit

set_option maxRecDepth 100000 in
set_option maxHeartbeats 2000000 in
theorem readPath_any {H L N W p : Nat} (h1 : 1 ≤ H) (h8 : H ≤ 8) (hL : L < 1000) (hN : N < 1000) (hW : W < 1000) (hp : 2 ^ H = p) {w : World} (hg : Gd w) :
    Calls Tryd.prog 90 #[.string (ba (pathL H L N W p))] w fun e w' => e = .returned (.tuple #[tileV H L N W, .bool true]) ∧ Below w.heap.size w w' := by
  have hH : H < 1000 := by omega
  obtain ⟨W0, hW0⟩ : ∃ W0, w.alloc (.cells #[.int .i64 0, .int .i64 0, .int .i64 0, .int .i64 0] 72) = W0 := ⟨_, rfl⟩
  have b0 : Below w.heap.size w W0 := by rw [← hW0]; exact (Below.refl _ _).alloc (Nat.le_refl _) _
  have hZ : Blk W0 w.heap.size #[.int .i64 0, .int .i64 0, .int .i64 0, .int .i64 0] 72 := by rw [← hW0]; exact Blk.new _ _ _
  obtain ⟨m, hm0⟩ := hg.cellM b0
  have HM := hide (fun (wx : World) (hb : Below w.heap.size w wx) => hg.cellM hb)
  have d1 : (46 : UInt8) ∉ dirL H L N := path_front hN hH hL
  have aH : Lib.atoi (dig3 H) = some (H : Int) := (dig3_all ⟨H, hH⟩).1
  have aL : Lib.atoi (dig3 L) = some (L : Int) := (dig3_all ⟨L, hL⟩).1
  have aW : Lib.atoi (dig3 W) = some (W : Int) := (dig3_all ⟨W, hW⟩).1
  have lH : (dig3 H).length ≤ 3 := (dig3_all ⟨H, hH⟩).2.2.2
  have lL : (dig3 L).length ≤ 3 := (dig3_all ⟨L, hL⟩).2.2.2
  have lW : (dig3 W).length ≤ 3 := (dig3_all ⟨W, hW⟩).2.2.2
  have aN : Lib.atoi (three N) = some (N : Int) := (three_all ⟨N, hN⟩).1
  have n47 : (47 : UInt8) ∉ three N := (three_all ⟨N, hN⟩).2.2.1
  have n120 : (120 : UInt8) ∉ three N := (three_all ⟨N, hN⟩).2.2.2
  have HAH := hide (fun wx => atoi_is (by omega) aH wx)
  have HAL := hide (fun wx => atoi_is (by omega) aL wx)
  have HAW := hide (fun wx => atoi_is (by omega) aW wx)
  have HAN := hide (fun wx => atoi_is (b := three N) (by show 3 ≤ 18; omega) aN wx)
  have HR1 := hide (fun (wx : World) (m : Int) (hm : wx.cell? ⟨3, 0, none⟩ = some (.int .i64 m)) => repl_is (c := 120) (b := three N) (by show 3 ≤ 1000; omega) n120 hm)
  have HR2 := hide (fun (wx : World) (m : Int) (hm : wx.cell? ⟨3, 0, none⟩ = some (.int .i64 m)) => repl_is (c := 47) (b := three N) (by show 3 ≤ 1000; omega) n47 hm)
  have HSP := hide (fun (wx : World) (m : Int) (hm : wx.cell? ⟨3, 0, none⟩ = some (.int .i64 m)) => split_is hN hH hL hm)
  have HHB := hide (fun wx => height_any (H : Int) wx)
  have T1 : Hid (heightB (H : Int) = true) := hide (by unfold heightB; simp; omega)
  have hlenD : (dirL H L N).length ≤ 1000 := by
    unfold dirL groupL
    rw [if_pos hN, dec_dig3 hH, dec_dig3 hL]
    simp [three]
    omega
  have HP2 := hide hp
  have HG := hide hg
  have HZ := hide hZ
  have HB0 := hide b0
  have HW0 := hide hW0
  have HD1 := hide d1
  have HLD := hide hlenD
  have HL3 := hide lW
  clear hZ hg b0 hW0 aH aL aW lH lL lW aN n47 n120 d1 hlenD
  by_cases hWp : W = p
  · have HC : Hid (∀ wx, wx.cell? ⟨3, 0, none⟩ = some (.int .i64 m) → Calls Tryd.prog 112 #[.string (ba (pathL H L N W p)), .string ⟨#[46, 112, 47]⟩] wx fun e w' => e = .returned (.tuple #[.string (ba (dirL H L N)), .string (ba []), .bool false]) ∧ Below wx.heap.size wx w') := hide (fun wx hmx => by
      have hpl : pathL H L N W p = dirL H L N := by unfold pathL; rw [if_pos hWp]
      have hs : (ba (pathL H L N W p)).size ≤ 2000 := by
        rw [hpl]; show (dirL H L N).toArray.size ≤ 2000
        have := unhide HLD
        have := unhide HL3
        simp
        omega
      refine (Tryd.strings_Cut (ba (pathL H L N W p)) ⟨#[46, 112, 47]⟩ m wx (by omega) hmx).mono ?_
      rintro e w' ⟨rfl, k, rfl⟩
      refine ⟨?_, lowN (Below.refl _ _) _⟩
      have ec : Lib.cut (ba (pathL H L N W p)).data.toList (ByteArray.mk #[46, 112, 47]).data.toList = (dirL H L N, [], false) := by
        rw [hpl]
        show Lib.cut (dirL H L N).toArray.toList [46, 112, 47] = _
        exact cut_no (unhide HD1)
      rw [ec]; rfl)
    obtain ⟨P, hP⟩ : ∃ P, ba (pathL H L N W p) = P := ⟨_, rfl⟩
    rw [hP] at HC ⊢
    clear hP
    go_enter Tryd.func90, Tryd.ntmps90
    go_wp2_with (go_at_call 112; fail)
    rw [unhide HW0]
    refine (unhide HC _ hm0).mono ?_
    rintro e w1 ⟨rfl, b1⟩
    have c1 := low_trans (unhide HB0) b1
    obtain ⟨m1, hm1⟩ := unhide HM _ c1
    have HZ1 := hide ((unhide HZ).low b1)
    have HC1 := hide c1
    clear b1 c1 hm0 HC
    go_wp2_with (go_at_call 113; fail)
    refine (unhide HSP _ _ hm1).mono ?_
    rintro e w2 ⟨rfl, hw2⟩
    have b2 : Below w1.heap.size w1 w2 := by rw [hw2]; exact (Below.refl _ _).alloc (Nat.le_refl _) _
    have hk2 : Blk w2 w1.heap.size #[.string ⟨#[116, 105, 108, 101]⟩, .string (ba (dig3 H)), .string (ba (dig3 L)), .string (ba (three N))] 9 := by rw [hw2]; exact Blk.new _ _ _
    have k3 : w2.cell? ⟨w1.heap.size, 3, none⟩ = some (.string (ba (three N))) := hk2.cell 3
    have c2 := low_trans (unhide HC1) b2
    obtain ⟨m2, hm2⟩ := unhide HM _ c2
    have HZ2 := hide ((unhide HZ1).low b2)
    have HK2 := hide hk2
    have HC2 := hide c2
    clear hw2 b2 hk2 c2 hm1 HZ1 HC1
    obtain ⟨g, hgg⟩ : ∃ g, w1.heap.size = g := ⟨_, rfl⟩
    rw [hgg] at k3 HK2 ⊢
    clear hgg
    go_wp2_with (go_at_call 114; fail)
    refine (unhide HR1 _ _ hm2).mono ?_
    rintro e w3 ⟨rfl, b3⟩
    have c3 := low_trans (unhide HC2) b3
    obtain ⟨m3, hm3⟩ := unhide HM _ c3
    have HZ3 := hide ((unhide HZ2).low b3)
    have HK3 := hide ((unhide HK2).low b3)
    have HC3 := hide c3
    clear b3 c3 hm2 HZ2 HK2 HC2 k3
    go_wp2_with (go_at_call 114; fail)
    refine (unhide HR2 _ _ hm3).mono ?_
    rintro e w4 ⟨rfl, b4⟩
    have HZ4 := hide ((unhide HZ3).low b4)
    have hk4 := (unhide HK3).low b4
    have k1 : w4.cell? ⟨g, 1, none⟩ = some (.string (ba (dig3 H))) := hk4.cell 1
    have HK4 := hide hk4
    have HC4 := hide (low_trans (unhide HC3) b4)
    clear b4 hk4 hm3 HZ3 HK3 HC3
    go_wp2_with (go_at_call 115; fail)
    refine (unhide HAH _).mono ?_
    rintro e w5 ⟨rfl, b5⟩
    have HZ5 := hide ((unhide HZ4).low b5)
    have k2 : w5.cell? ⟨g, 2, none⟩ = some (.string (ba (dig3 L))) := ((unhide HK4).low b5).cell 2
    have HC5 := hide (low_trans (unhide HC4) b5)
    clear b5 HZ4 HK4 HC4 k1
    go_wp2_with (go_at_call 115; fail)
    refine (unhide HAL _).mono ?_
    rintro e w6 ⟨rfl, b6⟩
    have HZ6 := hide ((unhide HZ5).low b6)
    have HC6 := hide (low_trans (unhide HC5) b6)
    clear b6 HZ5 HC5 k2
    go_wp2_with (go_at_call 115; fail)
    refine (unhide HAN _).mono ?_
    rintro e w7 ⟨rfl, b7⟩
    have HZ7 := hide ((unhide HZ6).low b7)
    have HC7 := hide (low_trans (unhide HC6) b7)
    clear b7 HZ6 HC6
    go_wp2_with (go_at_call 85; fail)
    refine (unhide HHB _).mono ?_
    rintro e w8 ⟨rfl, rfl⟩
    rw [unhide T1]
    have hblk := unhide HZ7
    have f0 := hblk.free 0
    have f1 := hblk.free 1
    have f2 := hblk.free 2
    have f3 := hblk.free 3
    have e0 := hblk.cell 0
    have e1 := hblk.cell 1
    have e2 := hblk.cell 2
    have e3 := hblk.cell 3
    have ep : (2 : Int) ^ H = (p : Int) := by rw [pow_int, unhide HP2]
    have ep1 : (1 : Int) * 2 ^ H = (p : Int) := by rw [Int.one_mul]; exact ep
    have hpb : p < 1000 := by omega
    clear hblk
    go_wp2
    have hfin := ((((unhide HZ7).set 0 (.int .i64 (H : Int))).set 1 (.int .i64 (L : Int))).set 2 (.int .i64 (N : Int))).set 3 (.int .i64 (p : Int))
    have HB := unhide HC7
    subst hWp
    exact bodyPost_ret (v := .tuple #[tileV H L N W, .bool true])
      (by
        have hl := run_loadVar_row (P := Tryd.prog) _ w.heap.size 72 72 _ (0, 0) _ hfin Tryd.underlying72 rfl size72
        simp only [results, Tryd.results90]
        simp [asAddr, hl, tileV]) rfl
      ⟨rfl, (((HB.setCell (Nat.le_refl _) _).setCell (Nat.le_refl _) _).setCell (Nat.le_refl _) _).setCell (Nat.le_refl _) _⟩
  · have HC : Hid (∀ wx, wx.cell? ⟨3, 0, none⟩ = some (.int .i64 m) → Calls Tryd.prog 112 #[.string (ba (pathL H L N W p)), .string ⟨#[46, 112, 47]⟩] wx fun e w' => e = .returned (.tuple #[.string (ba (dirL H L N)), .string (ba (dig3 W)), .bool true]) ∧ Below wx.heap.size wx w') := hide (fun wx hmx => by
      have hpl : pathL H L N W p = dirL H L N ++ (46 :: 112 :: 47 :: dig3 W) := by unfold pathL; rw [if_neg hWp, dec_dig3 hW]
      have hs : (ba (pathL H L N W p)).size ≤ 2000 := by
        rw [hpl]; show (dirL H L N ++ (46 :: 112 :: 47 :: dig3 W)).toArray.size ≤ 2000
        have := unhide HLD
        have := unhide HL3
        simp
        omega
      refine (Tryd.strings_Cut (ba (pathL H L N W p)) ⟨#[46, 112, 47]⟩ m wx (by omega) hmx).mono ?_
      rintro e w' ⟨rfl, k, rfl⟩
      refine ⟨?_, lowN (Below.refl _ _) _⟩
      have ec : Lib.cut (ba (pathL H L N W p)).data.toList (ByteArray.mk #[46, 112, 47]).data.toList = (dirL H L N, (dig3 W), true) := by
        rw [hpl]
        show Lib.cut (dirL H L N ++ (46 :: 112 :: 47 :: dig3 W)).toArray.toList [46, 112, 47] = _
        exact cut_at (c := 46) (r := [112, 47]) (b := dig3 W) (unhide HD1)
      rw [ec]; rfl)
    obtain ⟨P, hP⟩ : ∃ P, ba (pathL H L N W p) = P := ⟨_, rfl⟩
    rw [hP] at HC ⊢
    clear hP
    go_enter Tryd.func90, Tryd.ntmps90
    go_wp2_with (go_at_call 112; fail)
    rw [unhide HW0]
    refine (unhide HC _ hm0).mono ?_
    rintro e w1 ⟨rfl, b1⟩
    have c1 := low_trans (unhide HB0) b1
    obtain ⟨m1, hm1⟩ := unhide HM _ c1
    have HZ1 := hide ((unhide HZ).low b1)
    have HC1 := hide c1
    clear b1 c1 hm0 HC
    go_wp2_with (go_at_call 113; fail)
    refine (unhide HSP _ _ hm1).mono ?_
    rintro e w2 ⟨rfl, hw2⟩
    have b2 : Below w1.heap.size w1 w2 := by rw [hw2]; exact (Below.refl _ _).alloc (Nat.le_refl _) _
    have hk2 : Blk w2 w1.heap.size #[.string ⟨#[116, 105, 108, 101]⟩, .string (ba (dig3 H)), .string (ba (dig3 L)), .string (ba (three N))] 9 := by rw [hw2]; exact Blk.new _ _ _
    have k3 : w2.cell? ⟨w1.heap.size, 3, none⟩ = some (.string (ba (three N))) := hk2.cell 3
    have c2 := low_trans (unhide HC1) b2
    obtain ⟨m2, hm2⟩ := unhide HM _ c2
    have HZ2 := hide ((unhide HZ1).low b2)
    have HK2 := hide hk2
    have HC2 := hide c2
    clear hw2 b2 hk2 c2 hm1 HZ1 HC1
    obtain ⟨g, hgg⟩ : ∃ g, w1.heap.size = g := ⟨_, rfl⟩
    rw [hgg] at k3 HK2 ⊢
    clear hgg
    go_wp2_with (go_at_call 114; fail)
    refine (unhide HR1 _ _ hm2).mono ?_
    rintro e w3 ⟨rfl, b3⟩
    have c3 := low_trans (unhide HC2) b3
    obtain ⟨m3, hm3⟩ := unhide HM _ c3
    have HZ3 := hide ((unhide HZ2).low b3)
    have HK3 := hide ((unhide HK2).low b3)
    have HC3 := hide c3
    clear b3 c3 hm2 HZ2 HK2 HC2 k3
    go_wp2_with (go_at_call 114; fail)
    refine (unhide HR2 _ _ hm3).mono ?_
    rintro e w4 ⟨rfl, b4⟩
    have HZ4 := hide ((unhide HZ3).low b4)
    have hk4 := (unhide HK3).low b4
    have k1 : w4.cell? ⟨g, 1, none⟩ = some (.string (ba (dig3 H))) := hk4.cell 1
    have HK4 := hide hk4
    have HC4 := hide (low_trans (unhide HC3) b4)
    clear b4 hk4 hm3 HZ3 HK3 HC3
    go_wp2_with (go_at_call 115; fail)
    refine (unhide HAH _).mono ?_
    rintro e w5 ⟨rfl, b5⟩
    have HZ5 := hide ((unhide HZ4).low b5)
    have k2 : w5.cell? ⟨g, 2, none⟩ = some (.string (ba (dig3 L))) := ((unhide HK4).low b5).cell 2
    have HC5 := hide (low_trans (unhide HC4) b5)
    clear b5 HZ4 HK4 HC4 k1
    go_wp2_with (go_at_call 115; fail)
    refine (unhide HAL _).mono ?_
    rintro e w6 ⟨rfl, b6⟩
    have HZ6 := hide ((unhide HZ5).low b6)
    have HC6 := hide (low_trans (unhide HC5) b6)
    clear b6 HZ5 HC5 k2
    go_wp2_with (go_at_call 115; fail)
    refine (unhide HAN _).mono ?_
    rintro e w7 ⟨rfl, b7⟩
    have HZ7 := hide ((unhide HZ6).low b7)
    have HC7 := hide (low_trans (unhide HC6) b7)
    clear b7 HZ6 HC6
    go_wp2_with (go_at_call 85; fail)
    refine (unhide HHB _).mono ?_
    rintro e w8 ⟨rfl, rfl⟩
    rw [unhide T1]
    go_wp2_with (go_at_call 115; fail)
    refine (unhide HAW _).mono ?_
    rintro e w9 ⟨rfl, b9⟩
    have hblk := (unhide HZ7).low b9
    have HZ9 := hide hblk
    have HC9 := hide (low_trans (unhide HC7) b9)
    have f0 := hblk.free 0
    have f1 := hblk.free 1
    have f2 := hblk.free 2
    have f3 := hblk.free 3
    have e0 := hblk.cell 0
    have e1 := hblk.cell 1
    have e2 := hblk.cell 2
    have e3 := hblk.cell 3
    clear hblk b9 HZ7 HC7
    go_wp2
    go_region
    go_wp2
    have hfin := ((((unhide HZ9).set 0 (.int .i64 (H : Int))).set 1 (.int .i64 (L : Int))).set 2 (.int .i64 (N : Int))).set 3 (.int .i64 (W : Int))
    have HB := unhide HC9
    exact bodyPost_ret (v := .tuple #[tileV H L N W, .bool true])
      (by
        have hl := run_loadVar_row (P := Tryd.prog) _ w.heap.size 72 72 _ (0, 0) _ hfin.drew Tryd.underlying72 rfl size72
        simp only [results, Tryd.results90]
        simp [asAddr, hl, tileV]) rfl
      ⟨rfl, ((((HB.setCell (Nat.le_refl _) _).setCell (Nat.le_refl _) _).setCell (Nat.le_refl _) _).setCell (Nat.le_refl _) _).drew⟩

end Go.Proofs.YtkpmbbeidcpclaaDoor
