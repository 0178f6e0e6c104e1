/-
  ParsePath at a tile's path.
-/
import Derived.Test.YtkpmbbeidcpclaaGreatDoorPath
import Derived.Test.YtkpmbbeidcpclaaGreatDoorTile
namespace Go.Proofs.YtkpmbbeidcpclaaGreatDoor
open Go.RowKit

theorem index_no {c : UInt8} {r : Bs} : ∀ {a : Bs}, c ∉ a → Lib.index a (c :: r) = -1
  | [], _ => rfl
  | x :: a, h => by
    have hx : x ≠ c := fun e => h (by simp [e])
    have ha : c ∉ a := fun e => h (by simp [e])
    show (if (c :: r).isPrefixOf (x :: a) then (0 : Int) else if Lib.index a (c :: r) == -1 then -1 else Lib.index a (c :: r) + 1) = -1
    have hp : (c :: r).isPrefixOf (x :: a) = false := by
      show ((c == x) && r.isPrefixOf a) = false
      rw [beq_eq_false_iff_ne.2 (fun e => hx e.symm)]; rfl
    rw [hp, index_no ha]
    rfl
theorem prefix_self : ∀ (r b : Bs), r.isPrefixOf (r ++ b) = true
  | [], _ => by simp
  | x :: r, b => by
    show ((x == x) && r.isPrefixOf (r ++ b)) = true
    rw [prefix_self r b]; simp
theorem index_at {c : UInt8} {r b : Bs} : ∀ {a : Bs}, c ∉ a → Lib.index (a ++ (c :: (r ++ b))) (c :: r) = (a.length : Int)
  | [], _ => by
    show (if (c :: r).isPrefixOf (c :: (r ++ b)) then (0 : Int) else _) = 0
    have hp : (c :: r).isPrefixOf (c :: (r ++ b)) = true := prefix_self (c :: r) b
    rw [hp]; rfl
  | x :: a, h => by
    have hx : x ≠ c := fun e => h (by simp [e])
    have ha : c ∉ a := fun e => h (by simp [e])
    show (if (c :: r).isPrefixOf (x :: (a ++ (c :: (r ++ b)))) then (0 : Int) else if Lib.index (a ++ (c :: (r ++ b))) (c :: r) == -1 then -1 else Lib.index (a ++ (c :: (r ++ b))) (c :: r) + 1) = _
    have hp : (c :: r).isPrefixOf (x :: (a ++ (c :: (r ++ b)))) = false := by
      show ((c == x) && _) = false
      rw [beq_eq_false_iff_ne.2 (fun e => hx e.symm)]; rfl
    have hi := index_at (r := r) (b := b) ha
    rw [hp, hi]
    have : (((a.length : Int) == -1)) = false := by simp
    rw [this]
    simp

theorem cut_no {c : UInt8} {r a : Bs} (h : c ∉ a) : Lib.cut a (c :: r) = (a, [], false) := by
  unfold Lib.cut
  rw [index_no h, if_neg (by decide)]
theorem cut_at {c : UInt8} {r a b : Bs} (h : c ∉ a) : Lib.cut (a ++ (c :: (r ++ b))) (c :: r) = (a, b, true) := by
  unfold Lib.cut
  rw [index_at h, if_pos (by omega)]
  have h1 : ((a.length : Int)).toNat = a.length := by omega
  rw [h1, List.take_left]
  have h2 : (a ++ (c :: (r ++ b))).drop (a.length + (c :: r).length) = b := by
    rw [← List.drop_drop, List.drop_left]
    show (c :: (r ++ b)).drop (r.length + 1) = b
    rw [List.drop_succ_cons, List.drop_left]
  rw [h2]

theorem replaceAll_no {c : UInt8} {a : Bs} (h : c ∉ a) : Lib.replaceAll a [c] [] = a := by
  unfold Lib.replaceAll Lib.replace
  rw [if_neg (by simp)]
  cases Lib.replaceNum a [c] (-1) with
  | zero => rfl
  | succ k =>
    show (if Lib.index a [c] == -1 then a else _) = a
    rw [index_no h]
    rfl

theorem splitB_at {c : UInt8} {a b : Bs} {k : Nat} (h : c ∉ a) : Lib.splitB ⟨#[c]⟩ 0 (k + 1) ⟨(a ++ c :: b).toArray⟩ = ⟨a.toArray⟩ :: Lib.splitB ⟨#[c]⟩ 0 k ⟨b.toArray⟩ := by
  have hi : Lib.indexB ⟨(a ++ c :: b).toArray⟩ ⟨#[c]⟩ = (a.length : Int) := by
    unfold Lib.indexB
    show Lib.index (a ++ c :: b).toArray.toList [c] = _
    exact index_at (r := []) (b := b) h
  show (if Lib.indexB _ _ == -1 then _ else _) = _
  rw [hi]
  have : (((a.length : Int) == -1)) = false := by simp
  rw [this, if_neg (by decide)]
  have e1 : (ByteArray.mk (a ++ c :: b).toArray).extract 0 (((a.length : Int)).toNat + 0) = ⟨a.toArray⟩ := by
    rw [Int.toNat_natCast, Nat.add_zero]
    apply ByteArray.ext
    rw [ByteArray.data_extract]
    show (a ++ c :: b).toArray.extract 0 a.length = a.toArray
    rw [List.extract_toArray]
    simp
  have e2 : (ByteArray.mk (a ++ c :: b).toArray).extract (((a.length : Int)).toNat + (ByteArray.mk #[c]).size) (ByteArray.mk (a ++ c :: b).toArray).size = ⟨b.toArray⟩ := by
    rw [Int.toNat_natCast]
    apply ByteArray.ext
    rw [ByteArray.data_extract]
    show (a ++ c :: b).toArray.extract (a.length + 1) (a ++ c :: b).toArray.size = b.toArray
    rw [List.extract_toArray]
    have hd : (a ++ c :: b).drop (a.length + 1) = b := by
      rw [← List.drop_drop, List.drop_left]; rfl
    rw [List.extract_eq_take_drop, hd, List.take_of_length_le (by simp; omega)]
  rw [e1, e2]

end Go.Proofs.YtkpmbbeidcpclaaGreatDoor

namespace Go.Proofs.YtkpmbbeidcpclaaGreatDoor
open Go.RowKit

/-- Up to three digits. -/
def dig3 (n : Nat) : Bs := if n < 10 then [dg n] else if n < 100 then [dg (n / 10), dg (n % 10)] else [dg (n / 100), dg (n / 10 % 10), dg (n % 10)]
theorem dec_dig3 {n : Nat} (h : n < 1000) : Lib.decDigits n = dig3 n := by
  unfold dig3
  by_cases h1 : n < 10
  · rw [if_pos h1, dec_small h1]
  · rw [if_neg h1, dec_big h1]
    by_cases h2 : n < 100
    · rw [if_pos h2, dec_small (by omega)]; rfl
    · rw [if_neg h2, dec_big (n := n / 10) (by omega), dec_small (by omega)]
      have e : n / 10 / 10 = n / 100 := by omega
      rw [e]; rfl
set_option maxRecDepth 100000 in
theorem dig3_all : ∀ n : Fin 1000, Lib.atoi (dig3 n.1) = some (n.1 : Int) ∧ (46 : UInt8) ∉ dig3 n.1 ∧ (47 : UInt8) ∉ dig3 n.1 ∧ (dig3 n.1).length ≤ 3 := by decide +kernel
set_option maxRecDepth 100000 in
theorem three_all : ∀ n : Fin 1000, Lib.atoi (three n.1) = some (n.1 : Int) ∧ (46 : UInt8) ∉ three n.1 ∧ (47 : UInt8) ∉ three n.1 ∧ (120 : UInt8) ∉ three n.1 := by decide +kernel

/-- The path's front, and whether the tile is full. -/
theorem path_front {H L N : Nat} (hN : N < 1000) (hH : H < 1000) (hL : L < 1000) : (46 : UInt8) ∉ dirL H L N := by
  obtain ⟨_, a1, _, _⟩ := dig3_all ⟨H, hH⟩
  obtain ⟨_, a2, _, _⟩ := dig3_all ⟨L, hL⟩
  obtain ⟨_, a3, _, _⟩ := three_all ⟨N, hN⟩
  unfold dirL groupL
  rw [if_pos hN, dec_dig3 hH, dec_dig3 hL]
  intro hm
  simp only [List.mem_cons, List.mem_append] at hm
  rcases hm with h | h | h | h | h | h | h | h | h | h
  all_goals first | (revert h; decide) | exact a1 h | exact a2 h | exact a3 h

theorem dir_split {H L N : Nat} (hN : N < 1000) (hH : H < 1000) (hL : L < 1000) : Lib.splitB ⟨#[47]⟩ 0 3 ⟨(dirL H L N).toArray⟩ = [⟨#[116, 105, 108, 101]⟩, ⟨(dig3 H).toArray⟩, ⟨(dig3 L).toArray⟩, ⟨(three N).toArray⟩] := by
  obtain ⟨_, _, a1, _⟩ := dig3_all ⟨H, hH⟩
  obtain ⟨_, _, a2, _⟩ := dig3_all ⟨L, hL⟩
  have e : dirL H L N = [116, 105, 108, 101] ++ 47 :: (dig3 H ++ 47 :: (dig3 L ++ 47 :: three N)) := by
    unfold dirL groupL
    rw [if_pos hN, dec_dig3 hH, dec_dig3 hL]; rfl
  rw [e, splitB_at (by decide), splitB_at a1, splitB_at a2]
  rfl

end Go.Proofs.YtkpmbbeidcpclaaGreatDoor

namespace Go.Proofs.YtkpmbbeidcpclaaGreatDoor
open Go.RowKit

theorem Gd.cellM {w w' : World} (h : Gd w) (b : Below w.heap.size w w') : ∃ m, w'.cell? ⟨1, 0, none⟩ = some (.int .i64 m) := by
  obtain ⟨m, hm⟩ := h.ml
  exact ⟨m, (b.cell (lt_of_cell hm)).trans hm⟩

theorem atoi_is {b : Bs} {n : Int} (hl : b.length ≤ 18) (h : Lib.atoi b = some n) (w : World) : Calls Tryz.prog 95 #[.string (ba b)] w fun e w' => e = .returned (.tuple #[.int .i64 n, .nilIface]) ∧ Below w.heap.size w w' := by
  refine (Tryz.strconv_Atoi (ba b) n (by show b.toArray.size ≤ 18; simpa using hl) (by show Lib.atoi b.toArray.toList = _; simpa using h) w).mono ?_
  rintro e w' ⟨rfl, t, rfl⟩
  exact ⟨rfl, Lib.bytesWorld_below _ _ _⟩

theorem repl_is {c : UInt8} {b : Bs} (hl : b.length ≤ 1000) (h : c ∉ b) {m : Int} {w : World} (hm : w.cell? ⟨1, 0, none⟩ = some (.int .i64 m)) : Calls Tryz.prog 94 #[.string (ba b), .string ⟨#[c]⟩, .string ⟨#[]⟩] w fun e w' => e = .returned (.string (ba b)) ∧ Below w.heap.size w w' := by
  have hs : (ba b).size = b.length := by show b.toArray.size = _; simp
  refine (Tryz.strings_ReplaceAll (ba b) ⟨#[c]⟩ ⟨#[]⟩ m w (by rw [hs]; omega) hm (Nat.le_refl 1) (by
    have : (ByteArray.mk #[]).size = 0 := rfl
    rw [this, Nat.mul_zero, hs]; omega)).mono ?_
  rintro e w' ⟨rfl, bl⟩
  refine ⟨?_, bl⟩
  have e1 : Lib.replaceAll (ba b).data.toList (ByteArray.mk #[c]).data.toList (ByteArray.mk #[]).data.toList = b := by
    show Lib.replaceAll b.toArray.toList [c] [] = b
    exact replaceAll_no h
  rw [e1]; rfl

theorem split_is {H L N : Nat} (hN : N < 1000) (hH : H < 1000) (hL : L < 1000) {m : Int} {w : World} (hm : w.cell? ⟨1, 0, none⟩ = some (.int .i64 m)) : Calls Tryz.prog 93 #[.string (ba (dirL H L N)), .string ⟨#[47]⟩, .int .i64 4] w fun e w' => e = .returned (.slice (some ⟨w.heap.size, 0, none⟩) 4 4) ∧ w' = w.alloc (.cells #[.string ⟨#[116, 105, 108, 101]⟩, .string (ba (dig3 H)), .string (ba (dig3 L)), .string (ba (three N))] 9) := by
  have hlen : (dirL H L N).length ≤ 100 ∧ 4 ≤ (dirL H L N).length := by
    have a1 : (dig3 H).length ≤ 3 := (dig3_all ⟨H, hH⟩).2.2.2
    have a2 : (dig3 L).length ≤ 3 := (dig3_all ⟨L, hL⟩).2.2.2
    unfold dirL groupL
    rw [if_pos hN, dec_dig3 hH, dec_dig3 hL]
    simp [three]
    omega
  have hs : (ba (dirL H L N)).size = (dirL H L N).length := by show (dirL H L N).toArray.size = _; simp
  refine (Tryz.strings_SplitN (ba (dirL H L N)) ⟨#[47]⟩ 4 m w (by rw [hs]; omega) hm (by decide) (by omega) (by omega)).mono ?_
  have hmin : min 4 ((ba (dirL H L N)).size + 1) = 4 := by rw [hs]; omega
  rw [hmin]
  have hd : Lib.splitB ⟨#[47]⟩ 0 (4 - 1) (ba (dirL H L N)) = _ := dir_split hN hH hL
  rw [hd]
  rintro e w' ⟨rfl, rfl⟩
  exact ⟨rfl, rfl⟩

end Go.Proofs.YtkpmbbeidcpclaaGreatDoor

namespace Go.Proofs.YtkpmbbeidcpclaaGreatDoor
open Go.RowKit

set_option maxRecDepth 100000 in
set_option maxHeartbeats 2000000 in
theorem readPath_any {H L N W p : Nat} (h1 : 1 ≤ H) (h8 : H ≤ 8) (hL : L < 1000) (hN : N < 1000) (hW : W < 1000) (hp : 2 ^ H = p) {w : World} (hg : Gd w) :
    Calls Tryz.prog 59 #[.string (ba (pathL H L N W p))] w fun e w' => e = .returned (.tuple #[tileV H L N W, .bool true]) ∧ Below w.heap.size w w' := by
  have hH : H < 1000 := by omega
  obtain ⟨W0, hW0⟩ : ∃ W0, w.alloc (.cells #[.int .i64 0, .int .i64 0, .int .i64 0, .int .i64 0] 31) = W0 := ⟨_, rfl⟩
  have b0 : Below w.heap.size w W0 := by rw [← hW0]; exact (Below.refl _ _).alloc (Nat.le_refl _) _
  have hZ : Blk W0 w.heap.size #[.int .i64 0, .int .i64 0, .int .i64 0, .int .i64 0] 31 := by rw [← hW0]; exact Blk.new _ _ _
  obtain ⟨m, hm0⟩ := hg.cellM b0
  have HM := hide (fun (wx : World) (hb : Below w.heap.size w wx) => hg.cellM hb)
  have d1 : (46 : UInt8) ∉ dirL H L N := path_front hN hH hL
  have aH : Lib.atoi (dig3 H) = some (H : Int) := (dig3_all ⟨H, hH⟩).1
  have aL : Lib.atoi (dig3 L) = some (L : Int) := (dig3_all ⟨L, hL⟩).1
  have aW : Lib.atoi (dig3 W) = some (W : Int) := (dig3_all ⟨W, hW⟩).1
  have lH : (dig3 H).length ≤ 3 := (dig3_all ⟨H, hH⟩).2.2.2
  have lL : (dig3 L).length ≤ 3 := (dig3_all ⟨L, hL⟩).2.2.2
  have lW : (dig3 W).length ≤ 3 := (dig3_all ⟨W, hW⟩).2.2.2
  have aN : Lib.atoi (three N) = some (N : Int) := (three_all ⟨N, hN⟩).1
  have n47 : (47 : UInt8) ∉ three N := (three_all ⟨N, hN⟩).2.2.1
  have n120 : (120 : UInt8) ∉ three N := (three_all ⟨N, hN⟩).2.2.2
  have HAH := hide (fun wx => atoi_is (by omega) aH wx)
  have HAL := hide (fun wx => atoi_is (by omega) aL wx)
  have HAW := hide (fun wx => atoi_is (by omega) aW wx)
  have HAN := hide (fun wx => atoi_is (b := three N) (by show 3 ≤ 18; omega) aN wx)
  have HR1 := hide (fun (wx : World) (m : Int) (hm : wx.cell? ⟨1, 0, none⟩ = some (.int .i64 m)) => repl_is (c := 120) (b := three N) (by show 3 ≤ 1000; omega) n120 hm)
  have HR2 := hide (fun (wx : World) (m : Int) (hm : wx.cell? ⟨1, 0, none⟩ = some (.int .i64 m)) => repl_is (c := 47) (b := three N) (by show 3 ≤ 1000; omega) n47 hm)
  have HSP := hide (fun (wx : World) (m : Int) (hm : wx.cell? ⟨1, 0, none⟩ = some (.int .i64 m)) => split_is hN hH hL hm)
  have HHB := hide (fun wx => height_any (H : Int) wx)
  have T1 : Hid (heightB (H : Int) = true) := hide (by unfold heightB; simp; omega)
  have hlenD : (dirL H L N).length ≤ 1000 := by
    unfold dirL groupL
    rw [if_pos hN, dec_dig3 hH, dec_dig3 hL]
    simp [three]
    omega
  have HP2 := hide hp
  have HG := hide hg
  have HZ := hide hZ
  have HB0 := hide b0
  have HW0 := hide hW0
  have HD1 := hide d1
  have HLD := hide hlenD
  have HL3 := hide lW
  clear hZ hg b0 hW0 aH aL aW lH lL lW aN n47 n120 d1 hlenD
  by_cases hWp : W = p
  · have HC : Hid (∀ wx, wx.cell? ⟨1, 0, none⟩ = some (.int .i64 m) → Calls Tryz.prog 92 #[.string (ba (pathL H L N W p)), .string ⟨#[46, 112, 47]⟩] wx fun e w' => e = .returned (.tuple #[.string (ba (dirL H L N)), .string (ba []), .bool false]) ∧ Below wx.heap.size wx w') := hide (fun wx hmx => by
      have hpl : pathL H L N W p = dirL H L N := by unfold pathL; rw [if_pos hWp]
      have hs : (ba (pathL H L N W p)).size ≤ 2000 := by
        rw [hpl]; show (dirL H L N).toArray.size ≤ 2000
        have := unhide HLD
        have := unhide HL3
        simp
        omega
      refine (Tryz.strings_Cut (ba (pathL H L N W p)) ⟨#[46, 112, 47]⟩ m wx (by omega) hmx).mono ?_
      rintro e w' ⟨rfl, k, rfl⟩
      refine ⟨?_, lowN (Below.refl _ _) _⟩
      have ec : Lib.cut (ba (pathL H L N W p)).data.toList (ByteArray.mk #[46, 112, 47]).data.toList = (dirL H L N, [], false) := by
        rw [hpl]
        show Lib.cut (dirL H L N).toArray.toList [46, 112, 47] = _
        exact cut_no (unhide HD1)
      rw [ec]; rfl)
    obtain ⟨P, hP⟩ : ∃ P, ba (pathL H L N W p) = P := ⟨_, rfl⟩
    rw [hP] at HC ⊢
    clear hP
    go_enter Tryz.func59, Tryz.ntmps59
    go_wp2_with (go_at_call 92; fail)
    rw [unhide HW0]
    refine (unhide HC _ hm0).mono ?_
    rintro e w1 ⟨rfl, b1⟩
    have c1 := low_trans (unhide HB0) b1
    obtain ⟨m1, hm1⟩ := unhide HM _ c1
    have HZ1 := hide ((unhide HZ).low b1)
    have HC1 := hide c1
    clear b1 c1 hm0 HC
    go_wp2_with (go_at_call 93; fail)
    refine (unhide HSP _ _ hm1).mono ?_
    rintro e w2 ⟨rfl, hw2⟩
    have b2 : Below w1.heap.size w1 w2 := by rw [hw2]; exact (Below.refl _ _).alloc (Nat.le_refl _) _
    have hk2 : Blk w2 w1.heap.size #[.string ⟨#[116, 105, 108, 101]⟩, .string (ba (dig3 H)), .string (ba (dig3 L)), .string (ba (three N))] 9 := by rw [hw2]; exact Blk.new _ _ _
    have k3 : w2.cell? ⟨w1.heap.size, 3, none⟩ = some (.string (ba (three N))) := hk2.cell 3
    have c2 := low_trans (unhide HC1) b2
    obtain ⟨m2, hm2⟩ := unhide HM _ c2
    have HZ2 := hide ((unhide HZ1).low b2)
    have HK2 := hide hk2
    have HC2 := hide c2
    clear hw2 b2 hk2 c2 hm1 HZ1 HC1
    obtain ⟨g, hgg⟩ : ∃ g, w1.heap.size = g := ⟨_, rfl⟩
    rw [hgg] at k3 HK2 ⊢
    clear hgg
    go_wp2_with (go_at_call 94; fail)
    refine (unhide HR1 _ _ hm2).mono ?_
    rintro e w3 ⟨rfl, b3⟩
    have c3 := low_trans (unhide HC2) b3
    obtain ⟨m3, hm3⟩ := unhide HM _ c3
    have HZ3 := hide ((unhide HZ2).low b3)
    have HK3 := hide ((unhide HK2).low b3)
    have HC3 := hide c3
    clear b3 c3 hm2 HZ2 HK2 HC2 k3
    go_wp2_with (go_at_call 94; fail)
    refine (unhide HR2 _ _ hm3).mono ?_
    rintro e w4 ⟨rfl, b4⟩
    have HZ4 := hide ((unhide HZ3).low b4)
    have hk4 := (unhide HK3).low b4
    have k1 : w4.cell? ⟨g, 1, none⟩ = some (.string (ba (dig3 H))) := hk4.cell 1
    have HK4 := hide hk4
    have HC4 := hide (low_trans (unhide HC3) b4)
    clear b4 hk4 hm3 HZ3 HK3 HC3
    go_wp2_with (go_at_call 95; fail)
    refine (unhide HAH _).mono ?_
    rintro e w5 ⟨rfl, b5⟩
    have HZ5 := hide ((unhide HZ4).low b5)
    have k2 : w5.cell? ⟨g, 2, none⟩ = some (.string (ba (dig3 L))) := ((unhide HK4).low b5).cell 2
    have HC5 := hide (low_trans (unhide HC4) b5)
    clear b5 HZ4 HK4 HC4 k1
    go_wp2_with (go_at_call 95; fail)
    refine (unhide HAL _).mono ?_
    rintro e w6 ⟨rfl, b6⟩
    have HZ6 := hide ((unhide HZ5).low b6)
    have HC6 := hide (low_trans (unhide HC5) b6)
    clear b6 HZ5 HC5 k2
    go_wp2_with (go_at_call 95; fail)
    refine (unhide HAN _).mono ?_
    rintro e w7 ⟨rfl, b7⟩
    have HZ7 := hide ((unhide HZ6).low b7)
    have HC7 := hide (low_trans (unhide HC6) b7)
    clear b7 HZ6 HC6
    go_wp2_with (go_at_call 44; fail)
    refine (unhide HHB _).mono ?_
    rintro e w8 ⟨rfl, rfl⟩
    rw [unhide T1]
    have hblk := unhide HZ7
    have f0 := hblk.free 0
    have f1 := hblk.free 1
    have f2 := hblk.free 2
    have f3 := hblk.free 3
    have e0 := hblk.cell 0
    have e1 := hblk.cell 1
    have e2 := hblk.cell 2
    have e3 := hblk.cell 3
    have ep : (2 : Int) ^ H = (p : Int) := by rw [pow_int, unhide HP2]
    have ep1 : (1 : Int) * 2 ^ H = (p : Int) := by rw [Int.one_mul]; exact ep
    have hpb : p < 1000 := by omega
    clear hblk
    go_wp2
    have hfin := ((((unhide HZ7).set 0 (.int .i64 (H : Int))).set 1 (.int .i64 (L : Int))).set 2 (.int .i64 (N : Int))).set 3 (.int .i64 (p : Int))
    have HB := unhide HC7
    subst hWp
    exact bodyPost_ret (v := .tuple #[tileV H L N W, .bool true])
      (by
        have hl := run_loadVar_row (P := Tryz.prog) _ w.heap.size 31 31 _ (0, 0) _ hfin Tryz.underlying31 rfl size72
        simp only [results, Tryz.results59]
        simp [asAddr, hl, tileV]) rfl
      ⟨rfl, (((HB.setCell (Nat.le_refl _) _).setCell (Nat.le_refl _) _).setCell (Nat.le_refl _) _).setCell (Nat.le_refl _) _⟩
  · have HC : Hid (∀ wx, wx.cell? ⟨1, 0, none⟩ = some (.int .i64 m) → Calls Tryz.prog 92 #[.string (ba (pathL H L N W p)), .string ⟨#[46, 112, 47]⟩] wx fun e w' => e = .returned (.tuple #[.string (ba (dirL H L N)), .string (ba (dig3 W)), .bool true]) ∧ Below wx.heap.size wx w') := hide (fun wx hmx => by
      have hpl : pathL H L N W p = dirL H L N ++ (46 :: 112 :: 47 :: dig3 W) := by unfold pathL; rw [if_neg hWp, dec_dig3 hW]
      have hs : (ba (pathL H L N W p)).size ≤ 2000 := by
        rw [hpl]; show (dirL H L N ++ (46 :: 112 :: 47 :: dig3 W)).toArray.size ≤ 2000
        have := unhide HLD
        have := unhide HL3
        simp
        omega
      refine (Tryz.strings_Cut (ba (pathL H L N W p)) ⟨#[46, 112, 47]⟩ m wx (by omega) hmx).mono ?_
      rintro e w' ⟨rfl, k, rfl⟩
      refine ⟨?_, lowN (Below.refl _ _) _⟩
      have ec : Lib.cut (ba (pathL H L N W p)).data.toList (ByteArray.mk #[46, 112, 47]).data.toList = (dirL H L N, (dig3 W), true) := by
        rw [hpl]
        show Lib.cut (dirL H L N ++ (46 :: 112 :: 47 :: dig3 W)).toArray.toList [46, 112, 47] = _
        exact cut_at (c := 46) (r := [112, 47]) (b := dig3 W) (unhide HD1)
      rw [ec]; rfl)
    obtain ⟨P, hP⟩ : ∃ P, ba (pathL H L N W p) = P := ⟨_, rfl⟩
    rw [hP] at HC ⊢
    clear hP
    go_enter Tryz.func59, Tryz.ntmps59
    go_wp2_with (go_at_call 92; fail)
    rw [unhide HW0]
    refine (unhide HC _ hm0).mono ?_
    rintro e w1 ⟨rfl, b1⟩
    have c1 := low_trans (unhide HB0) b1
    obtain ⟨m1, hm1⟩ := unhide HM _ c1
    have HZ1 := hide ((unhide HZ).low b1)
    have HC1 := hide c1
    clear b1 c1 hm0 HC
    go_wp2_with (go_at_call 93; fail)
    refine (unhide HSP _ _ hm1).mono ?_
    rintro e w2 ⟨rfl, hw2⟩
    have b2 : Below w1.heap.size w1 w2 := by rw [hw2]; exact (Below.refl _ _).alloc (Nat.le_refl _) _
    have hk2 : Blk w2 w1.heap.size #[.string ⟨#[116, 105, 108, 101]⟩, .string (ba (dig3 H)), .string (ba (dig3 L)), .string (ba (three N))] 9 := by rw [hw2]; exact Blk.new _ _ _
    have k3 : w2.cell? ⟨w1.heap.size, 3, none⟩ = some (.string (ba (three N))) := hk2.cell 3
    have c2 := low_trans (unhide HC1) b2
    obtain ⟨m2, hm2⟩ := unhide HM _ c2
    have HZ2 := hide ((unhide HZ1).low b2)
    have HK2 := hide hk2
    have HC2 := hide c2
    clear hw2 b2 hk2 c2 hm1 HZ1 HC1
    obtain ⟨g, hgg⟩ : ∃ g, w1.heap.size = g := ⟨_, rfl⟩
    rw [hgg] at k3 HK2 ⊢
    clear hgg
    go_wp2_with (go_at_call 94; fail)
    refine (unhide HR1 _ _ hm2).mono ?_
    rintro e w3 ⟨rfl, b3⟩
    have c3 := low_trans (unhide HC2) b3
    obtain ⟨m3, hm3⟩ := unhide HM _ c3
    have HZ3 := hide ((unhide HZ2).low b3)
    have HK3 := hide ((unhide HK2).low b3)
    have HC3 := hide c3
    clear b3 c3 hm2 HZ2 HK2 HC2 k3
    go_wp2_with (go_at_call 94; fail)
    refine (unhide HR2 _ _ hm3).mono ?_
    rintro e w4 ⟨rfl, b4⟩
    have HZ4 := hide ((unhide HZ3).low b4)
    have hk4 := (unhide HK3).low b4
    have k1 : w4.cell? ⟨g, 1, none⟩ = some (.string (ba (dig3 H))) := hk4.cell 1
    have HK4 := hide hk4
    have HC4 := hide (low_trans (unhide HC3) b4)
    clear b4 hk4 hm3 HZ3 HK3 HC3
    go_wp2_with (go_at_call 95; fail)
    refine (unhide HAH _).mono ?_
    rintro e w5 ⟨rfl, b5⟩
    have HZ5 := hide ((unhide HZ4).low b5)
    have k2 : w5.cell? ⟨g, 2, none⟩ = some (.string (ba (dig3 L))) := ((unhide HK4).low b5).cell 2
    have HC5 := hide (low_trans (unhide HC4) b5)
    clear b5 HZ4 HK4 HC4 k1
    go_wp2_with (go_at_call 95; fail)
    refine (unhide HAL _).mono ?_
    rintro e w6 ⟨rfl, b6⟩
    have HZ6 := hide ((unhide HZ5).low b6)
    have HC6 := hide (low_trans (unhide HC5) b6)
    clear b6 HZ5 HC5 k2
    go_wp2_with (go_at_call 95; fail)
    refine (unhide HAN _).mono ?_
    rintro e w7 ⟨rfl, b7⟩
    have HZ7 := hide ((unhide HZ6).low b7)
    have HC7 := hide (low_trans (unhide HC6) b7)
    clear b7 HZ6 HC6
    go_wp2_with (go_at_call 44; fail)
    refine (unhide HHB _).mono ?_
    rintro e w8 ⟨rfl, rfl⟩
    rw [unhide T1]
    go_wp2_with (go_at_call 95; fail)
    refine (unhide HAW _).mono ?_
    rintro e w9 ⟨rfl, b9⟩
    have hblk := (unhide HZ7).low b9
    have HZ9 := hide hblk
    have HC9 := hide (low_trans (unhide HC7) b9)
    have f0 := hblk.free 0
    have f1 := hblk.free 1
    have f2 := hblk.free 2
    have f3 := hblk.free 3
    have e0 := hblk.cell 0
    have e1 := hblk.cell 1
    have e2 := hblk.cell 2
    have e3 := hblk.cell 3
    clear hblk b9 HZ7 HC7
    go_wp2
    go_region
    go_wp2
    have hfin := ((((unhide HZ9).set 0 (.int .i64 (H : Int))).set 1 (.int .i64 (L : Int))).set 2 (.int .i64 (N : Int))).set 3 (.int .i64 (W : Int))
    have HB := unhide HC9
    exact bodyPost_ret (v := .tuple #[tileV H L N W, .bool true])
      (by
        have hl := run_loadVar_row (P := Tryz.prog) _ w.heap.size 31 31 _ (0, 0) _ hfin.drew Tryz.underlying31 rfl size72
        simp only [results, Tryz.results59]
        simp [asAddr, hl, tileV]) rfl
      ⟨rfl, ((((HB.setCell (Nat.le_refl _) _).setCell (Nat.le_refl _) _).setCell (Nat.le_refl _) _).setCell (Nat.le_refl _) _).drew⟩

end Go.Proofs.YtkpmbbeidcpclaaGreatDoor

namespace Go.Proofs.YtkpmbbeidcpclaaGreatDoor
open Go.RowKit

set_option maxRecDepth 100000 in
set_option maxHeartbeats 1000000 in
theorem parse_any {H L N W p s a b c : Nat} {w : World} (hg : Gd w) (h1 : 1 ≤ H) (h8 : H ≤ 8) (hp : 2 ^ H = p) (hW : 1 ≤ W) (hWp : W ≤ p) (hs : H * L = s) (hs20 : s ≤ 20) (ha : 1048576 / 2 ^ s = a) (hb : N * p = b) (hba : b + W ≤ a) (hc : a / p = c) (hNc : N ≤ c) (hN : N < 1000) :
    Calls Tryz.prog 19 #[.string (ba (pathL H L N W p))] w fun e w' => e = .returned (.tuple #[tileV H L N W, .int .i64 0]) ∧ Below w.heap.size w w' := by
  have hL : L < 1000 := by
    have : 1 * L ≤ H * L := Nat.mul_le_mul_right _ h1
    omega
  have hp8 : p ≤ 256 := by rw [← hp]; exact Nat.pow_le_pow_right (by decide) h8
  have hW3 : W < 1000 := by omega
  obtain ⟨W0, hW0⟩ : ∃ W0, w.alloc (.cells #[.int .i64 0, .int .i64 0, .int .i64 0, .int .i64 0] 31) = W0 := ⟨_, rfl⟩
  have b0 : Below w.heap.size w W0 := by rw [← hW0]; exact (Below.refl _ _).alloc (Nat.le_refl _) _
  have hZ : Blk W0 w.heap.size #[.int .i64 0, .int .i64 0, .int .i64 0, .int .i64 0] 31 := by rw [← hW0]; exact Blk.new _ _ _
  have HR := hide (fun (wx : World) (hb : Below w.heap.size w wx) => readPath_any h1 h8 hL hN hW3 hp (hg.low hb))
  have HP := hide (fun (wx : World) (hx : Below w.heap.size w wx) => path_good (hg.low hx) h1 h8 hp hW hWp hs hs20 ha hb hba hc hNc)
  have HZ := hide hZ
  have HB0 := hide b0
  have HW0 := hide hW0
  obtain ⟨P, hP⟩ : ∃ P, ba (pathL H L N W p) = P := ⟨_, rfl⟩
  rw [hP] at HR HP ⊢
  clear hP hZ b0 hW0 hg hs ha hb hba hc hNc
  unfold tileV at HR HP
  go_enter Tryz.func19, Tryz.ntmps19
  go_wp2_with (go_at_call 59; fail)
  rw [unhide HW0]
  refine (unhide HR _ (unhide HB0)).mono ?_
  rintro e w1 ⟨rfl, b1⟩
  have c1 := low_trans (unhide HB0) b1
  have HZ1 := hide ((unhide HZ).low b1)
  have HC1 := hide c1
  clear b1 HR c1
  go_wp2_with (go_at_call 17; fail)
  obtain ⟨W1, hW1⟩ : ∃ W1, w1.alloc (.cells #[.int .i64 (H : Int), .int .i64 (L : Int), .int .i64 (N : Int), .int .i64 (W : Int)] 31) = W1 := ⟨_, rfl⟩
  have d1 : Below w1.heap.size w1 W1 := by rw [← hW1]; exact (Below.refl _ _).alloc (Nat.le_refl _) _
  have hT : Blk W1 w1.heap.size #[.int .i64 (H : Int), .int .i64 (L : Int), .int .i64 (N : Int), .int .i64 (W : Int)] 31 := by rw [← hW1]; exact Blk.new _ _ _
  have HZ1b := hide ((unhide HZ1).low d1)
  have HC1b := hide (low_trans (unhide HC1) d1)
  rw [hW1]
  obtain ⟨g, hgg⟩ : ∃ g, w1.heap.size = g := ⟨_, rfl⟩
  rw [hgg] at hT ⊢
  have HT := hide hT
  clear hgg hT d1 hW1 HZ1 HC1
  refine (unhide HP _ (unhide HC1b)).mono ?_
  rintro e w2 ⟨rfl, kk, os, hw2⟩
  have b2 : Below W1.heap.size W1 w2 := Gr.low ⟨kk, os, hw2⟩
  have hblk := (unhide HZ1b).low b2
  have hT2 := (unhide HT).low b2
  have HZ2 := hide hblk
  have HC2 := hide (low_trans (unhide HC1b) b2)
  have f0 := hblk.free 0
  have f1 := hblk.free 1
  have f2 := hblk.free 2
  have f3 := hblk.free 3
  have e0 := hblk.cell 0
  have e1 := hblk.cell 1
  have e2 := hblk.cell 2
  have e3 := hblk.cell 3
  have t0 := hT2.cell 0
  have t1 := hT2.cell 1
  have t2 := hT2.cell 2
  have t3 := hT2.cell 3
  clear hblk b2 HZ1b HC1b hw2 HP hT2
  go_wp2
  have hfin := ((((unhide HZ2).set 0 (.int .i64 (H : Int))).set 1 (.int .i64 (L : Int))).set 2 (.int .i64 (N : Int))).set 3 (.int .i64 (W : Int))
  have HB := unhide HC2
  exact bodyPost_ret (v := .tuple #[tileV H L N W, .int .i64 0])
      (by
        have hl := run_loadVar_row (P := Tryz.prog) _ w.heap.size 31 31 _ (0, 0) _ hfin Tryz.underlying31 rfl size72
        simp only [results, Tryz.results19]
        simp [asAddr, hl, tileV]) rfl
      ⟨rfl, (((HB.setCell (Nat.le_refl _) _).setCell (Nat.le_refl _) _).setCell (Nat.le_refl _) _).setCell (Nat.le_refl _) _⟩
end Go.Proofs.YtkpmbbeidcpclaaGreatDoor
