/-
  The law ArkSums.
-/
import Derived.Test.YtkablmjkffdloaaGreatDoorFst
import Derived.Test.YtkablmjkffdloaaGreatDoorRMan
import Derived.Test.YtkablmjkffdloaaGreatDoorB64T
import Derived.Test.YtkablmjkffdloaaGreatDoorLogE
import Derived.Test.YtkablmjkffdloaaGreatDoorRefK
import Derived.Test.YtkablmjkffdloaaGreatDoorRCrc
import Derived.Test.YtkablmjkffdloaaGreatDoorRHex
import Derived.Test.YtkablmjkffdloaaGreatDoorShaE
namespace Go.Proofs.YtkablmjkffdloaaGreatDoor
open Go.RowKit

theorem b64_ge : ∀ (b : Bs), b.length ≤ (b64 b).length
  | [] => Nat.zero_le _
  | [a] => show 1 ≤ 4 by omega
  | [a, b] => show 2 ≤ 4 by omega
  | a :: b :: c :: r => by
    have h := b64_ge r
    show (a :: b :: c :: r).length ≤ (lets (num3 a b c) 4 ++ b64 r).length
    rw [List.length_append, lets_len]
    simp
    omega
theorem fromV_len (s : Bs) : (fromV s).length ≤ s.length := by
  unfold fromV
  cases e : fromL s with
  | none => exact Nat.zero_le _
  | some b =>
    have h := from_some e
    have g := b64_ge b
    rw [h] at g
    exact g

set_option maxRecDepth 100000 in
set_option maxHeartbeats 4000000 in
theorem sums_law {w : World} {a : Option Addr} {n c : Nat} {b s : Bs} {S : ByteArray} (hn : b.length = n) (h : BAt w a b) (hS : (⟨s.toArray⟩ : ByteArray) = S)
    (hsha : ∀ w', Below w.heap.size w w' → n ≤ 4000 → Calls Tryz.prog 27 #[.slice a n c] w' fun e w'' => ∃ v, e = .returned v ∧ OwnB w'.heap.size w'' v (shaL b) ∧ Below w'.heap.size w' w'') :
    Calls Tryz.prog 4 #[.slice a n c, .string S] w fun e w' => e = .returned (.bool true) ∧ Below w.heap.size w w' := by
  obtain ⟨m, hm⟩ : ∃ m, s.length = m := ⟨_, rfl⟩
  have hsz : S.size = m := by rw [← hS]; show s.toArray.size = m; simpa using hm
  obtain ⟨X, hX⟩ : ∃ X, shaL b = X := ⟨_, rfl⟩
  have hXl : X.length = 32 := by rw [← hX]; exact shaL_len b
  obtain ⟨K, hK⟩ : ∃ K : Nat, (crcL b).toNat = K := ⟨_, rfl⟩
  obtain ⟨Y, hY⟩ : ∃ Y : ByteArray, (⟨(hexL b).toArray⟩ : ByteArray) = Y := ⟨_, rfl⟩
  obtain ⟨Z, hZ⟩ : ∃ Z : ByteArray, (⟨(b64 b).toArray⟩ : ByteArray) = Z := ⟨_, rfl⟩
  obtain ⟨M, hM⟩ : ∃ M : ByteArray, ba (manF b) = M := ⟨_, rfl⟩
  have yy : (Y.toList == Y.toList) = true := by simp
  have zz : (Z.toList == Z.toList) = true := by simp
  have mm : (M.toList == M.toList) = true := by simp
  obtain ⟨FV, hFV⟩ : ∃ FV, fromV s = FV := ⟨_, rfl⟩
  have hFl : FV.length ≤ m := by rw [← hFV, ← hm]; exact fromV_len s
  obtain ⟨FE, hFE⟩ : ∃ FE : Int, fromE s = FE := ⟨_, rfl⟩
  have HX := hide hX
  have HXl := hide hXl
  have HK := hide hK
  have HY := hide hY
  have HZ := hide hZ
  have HM := hide hM
  have HFV := hide hFV
  have HFl := hide hFl
  have HFE := hide hFE
  have HN := hide hn
  have HH := hide h
  have HS := hide hS
  have HMl := hide hm
  have HSHA := hide hsha
  clear hX hXl hK hY hZ hM hFV hFl hFE hn h hS hm hsha
  go_enter Tryz.func4, Tryz.ntmps4
  go_wp2_with (go_at_call 16; fail)
  refine (first_any w).mono ?_
  rintro e w1 ⟨rfl, b1⟩
  have HB1 := hide b1
  clear b1
  by_cases hn4 : n ≤ 4000
  · by_cases hm4 : m ≤ 4000
    · go_wp2_with (go_at_call 26; fail)
      refine (lent_any (c := c) (unhide HN) (by omega) ((unhide HH).low (unhide HB1))).mono ?_
      rintro e w2 ⟨g, cap, rfl, hcap, hcm, hg, o2, b2⟩
      have hcm2 : cap ≤ 9223372036854775807 := by unfold maxLen at hcm; omega
      have HB2 := hide (low_trans (unhide HB1) b2)
      have HO2 := hide o2
      have HS3 := hide (sha_any (w := w2) (c := cap) (unhide HN) (by omega) (by omega) hcm2 (Or.inr ⟨g, 0, rfl⟩) o2.front)
      rw [unhide HX] at HS3
      clear hcm hg o2 b2 HB1
      go_wp2_with (go_at_call 27; fail)
      refine (unhide HS3).mono ?_
      rintro e w3 ⟨v3, rfl, o3, b3⟩
      obtain ⟨gh, ch, rfl, at3, hch, hchm⟩ := OwnB.adr o3 (unhide HXl)
      have HO3 := hide o3
      have HC3 := hide b3
      have HS4 := hide (refSha_any (w := w3) (c := c) (unhide HN) (by omega) ((unhide HH).low (low_trans (unhide HB2) b3)))
      rw [unhide HX] at HS4
      clear o3 b3 at3 hchm HS3
      go_wp2_with (go_at_call 28; fail)
      refine (unhide HS4).mono ?_
      rintro e w4 ⟨v4, rfl, o4, b4⟩
      obtain ⟨g4, c4, rfl, at4, -, -⟩ := OwnB.adr o4 (unhide HXl)
      have HC4 := hide (low_trans (unhide HC3) b4)
      have HO4 := hide ((unhide HO3).low b4)
      have HS5 := hide (sameBytes_any (c := ch) (c2 := c4) (unhide HXl) (unhide HXl) (by omega) (by omega) (show BAt w4 (some ⟨gh, 0, none⟩) X from by
        obtain ⟨g', c', e', at', -, -⟩ := OwnB.adr (unhide HO4) (unhide HXl)
        have e1 := (Value.slice.inj e').1
        rw [e1]
        exact at') at4)
      rw [decide_eq_true (rfl : X = X)] at HS5
      clear o4 b4 at4 HS4 HO3
      go_wp2_with (go_at_call 23; fail)
      refine (unhide HS5).mono ?_
      rintro e w5 ⟨rfl, q5, hw5⟩
      have HC5 : Hid (Below w2.heap.size w2 w5) := hide (by rw [hw5]; exact lowN (unhide HC4) _)
      have HO5 : Hid (OwnB w2.heap.size w5 (.slice (some ⟨gh, 0, none⟩) 32 ch) X) := hide ((unhide HO4).low (by rw [hw5]; exact lowN (Below.refl _ _) _))
      clear hw5 HS5 HO4
      have HS6 := hide (crc_any (w := w5) (c := cap) (unhide HN) (by omega) ((unhide HO2).low (unhide HC5)).front)
      have HS7 := hide (refCrc_any (w := w5) (c := c) (unhide HN) (by omega) ((unhide HH).low (low_trans (unhide HB2) (unhide HC5))))
      rw [unhide HK] at HS6 HS7
      go_wp2_with (go_at_call 29; fail)
      refine (unhide HS6).mono ?_
      rintro e wn ⟨rfl, hwn⟩
      rw [hwn]
      clear hwn wn HS6
      go_wp2_with (go_at_call 30; fail)
      refine (unhide HS7).mono ?_
      rintro e wn ⟨rfl, hwn⟩
      rw [hwn]
      clear hwn wn HS7
      have HS8 := hide (hex_any (w := w5) (c := cap) (unhide HN) (by omega) ((unhide HO2).low (unhide HC5)).front)
      rw [unhide HY] at HS8
      go_wp2_with (go_at_call 31; fail)
      refine (unhide HS8).mono ?_
      rintro e w8 ⟨rfl, b8⟩
      have HC8 := hide (low_trans (unhide HC5) b8)
      have HO8 := hide ((unhide HO5).low b8)
      have HS9 := hide (refHex_any (w := w8) (c := c) (unhide HN) (by omega) ((unhide HH).low (low_trans (unhide HB2) (unhide HC8))))
      rw [unhide HY] at HS9
      clear b8 HS8
      go_wp2_with (go_at_call 32; fail)
      refine (unhide HS9).mono ?_
      rintro e w9 ⟨rfl, b9⟩
      have HC9 := hide (low_trans (unhide HC8) b9)
      have HO9 := hide ((unhide HO8).low b9)
      have HS10 := hide (base64_any (w := w9) (c := cap) (unhide HN) (by omega) (by omega) ((unhide HO2).low (unhide HC9)).front)
      rw [unhide HZ] at HS10
      clear b9 HS9
      go_wp2_with (go_at_call 25; fail)
      refine (unhide HS10).mono ?_
      rintro e w10 ⟨rfl, b10⟩
      have HC10 := hide (low_trans (unhide HC9) b10)
      have HO10 := hide ((unhide HO9).low b10)
      have HS11 := hide (refB64_any (w := w10) (c := c) (unhide HN) (by omega) ((unhide HH).low (low_trans (unhide HB2) (unhide HC10))))
      rw [unhide HZ] at HS11
      clear b10 HS10
      go_wp2_with (go_at_call 33; fail)
      refine (unhide HS11).mono ?_
      rintro e w11 ⟨rfl, b11⟩
      have HC11 := hide (low_trans (unhide HC10) b11)
      have HO11 := hide ((unhide HO10).low b11)
      have HS12 := hide (manSum_any (w := w11) (c := cap) (unhide HN) (by omega) (by omega) hcm2 (Or.inr ⟨g, 0, rfl⟩) ((unhide HO2).low (unhide HC11)).front)
      rw [unhide HM] at HS12
      clear b11 HS11
      go_wp2_with (go_at_call 34; fail)
      refine (unhide HS12).mono ?_
      rintro e w12 ⟨rfl, b12⟩
      have HC12 := hide (low_trans (unhide HC11) b12)
      have HO12 := hide ((unhide HO11).low b12)
      have HS13 := hide (refMan_any (w := w12) (c := c) (unhide HN) (by omega) ((unhide HH).low (low_trans (unhide HB2) (unhide HC12))))
      rw [unhide HM] at HS13
      clear b12 HS12
      go_wp2_with (go_at_call 35; fail)
      refine (unhide HS13).mono ?_
      rintro e w13 ⟨rfl, b13⟩
      have HC13 := hide (low_trans (unhide HC12) b13)
      have HO13 := hide ((unhide HO12).low b13)
      clear b13 HS13 HC3 HC4 HC5 HC8 HC9 HC10 HC11 HC12 HO5 HO8 HO9 HO10 HO11 HO12
      go_wp2
      go_loopw [9] (fun v7 wr => ∃ (k : Nat) (X' : Bs), k ≤ 32 ∧ v7 = .int .i64 (k : Int) ∧ X'.length = 32 ∧ OwnB w2.heap.size wr (.slice (some ⟨gh, 0, none⟩) 32 ch) X' ∧ Below w2.heap.size w2 wr) (fun v7 _ => 32 - (intOf v7).toNat)
      case atStart => exact ⟨0, X, Nat.zero_le _, rfl, unhide HXl, unhide HO13, unhide HC13⟩
      case round =>
        rename World => wr
        clear HO13 HC13
        obtain ⟨k, X', hk, rfl, hX', ho, hbw⟩ := hrel
        by_cases hlt : k < 32
        · obtain ⟨fr, hgb, -, hcap'⟩ := own_free (k := k) ho
          have ce := own_cell (k := k) ho (by omega)
          obtain ⟨cv, hcv⟩ : ∃ x, Value.int .u8 ((X'[k]'(by omega)).toNat : Int) = x := ⟨_, rfl⟩
          rw [hcv] at ce
          have HP := hide (OwnB.put ho k 0)
          have HQ := hide (low_put (k := k) (v := .int .u8 ((0 : UInt8).toNat : Int)) hbw hgb)
          have u0 : ((0 : UInt8).toNat : Int) = 0 := rfl
          rw [u0] at HP HQ
          have HL : Hid ((X'.set k 0).length = 32) := hide (by rw [List.length_set]; exact hX')
          have hlt' : (k : Int) < 32 := by omega
          clear ho hbw hcv hX'
          go_wp2
          go_roundw
          case rel => exact ⟨k + 1, X'.set k 0, hlt, by simp, unhide HL, unhide HP, unhide HQ⟩
          case measure => simp [intOf]; omega
        · have hk32 : k = 32 := by omega
          subst hk32
          have HO := hide ((unhide HO2).low hbw)
          have HC := hide hbw
          have HS14 := hide (kept_any (w := wr) (c := c) (unhide HN) (by omega) hcap (unhide HO) ((unhide HH).low (low_trans (unhide HB2) hbw)))
          clear ho hbw hX'
          go_wp2_with (go_at_call 36; fail)
          refine (unhide HS14).mono ?_
          rintro e w14 ⟨rfl, q14, hw14⟩
          have HC14 : Hid (Below w2.heap.size w2 w14) := hide (by rw [hw14]; exact lowN (unhide HC) _)
          have HS15 := hide (fromB64_any (w := w14) (s := s) (by rw [unhide HMl]; omega))
          rw [unhide HS, unhide HFV, unhide HFE] at HS15
          clear hw14 HS14 HC HO
          go_wp2_with (go_at_call 24; fail)
          refine (unhide HS15).mono ?_
          rintro e w15 ⟨v15, rfl, o15, b15⟩
          obtain ⟨a15, c15, rfl, at15, -, -⟩ := OwnB.at o15
          have HA15 := hide at15
          have HC15 := hide (low_trans (unhide HC14) b15)
          have HS16 := hide (refFrom_any (w := w15) (s := s) (by rw [unhide HMl]; omega))
          rw [unhide HS, unhide HFV, unhide HFE] at HS16
          clear o15 b15 at15 HS15
          go_wp2_with (go_at_call 37; fail)
          refine (unhide HS16).mono ?_
          rintro e w16 ⟨v16, rfl, o16, b16⟩
          obtain ⟨a16, c16, rfl, at16, -, -⟩ := OwnB.at o16
          have HC16 := hide (low_trans (unhide HC15) b16)
          have HS17 := hide (sameBytes_any (w := w16) (c := c15) (c2 := c16) (n := FV.length) (n2 := FV.length) rfl rfl (by have := unhide HFl; omega) (by have := unhide HFl; omega) ((unhide HA15).low b16) at16)
          rw [decide_eq_true (rfl : FV = FV)] at HS17
          clear o16 b16 at16 HS16
          go_wp2_with (go_at_call 23; fail)
          refine (unhide HS17).mono ?_
          rintro e w17 ⟨rfl, q17, hw17⟩
          have HC17 : Hid (Below w2.heap.size w2 w17) := hide (by rw [hw17]; exact lowN (unhide HC16) _)
          have HS18 := hide ((unhide HSHA) w17 (low_trans (unhide HB2) (unhide HC17)) hn4)
          rw [unhide HX] at HS18
          clear hw17 HS17
          go_wp2_with (go_at_call 27; fail)
          refine (unhide HS18).mono ?_
          rintro e w18 ⟨v18, rfl, o18, b18⟩
          obtain ⟨g18, c18, rfl, at18, -, -⟩ := OwnB.adr o18 (unhide HXl)
          have HA18 := hide at18
          have HC18 := hide (low_trans (unhide HC17) b18)
          have HS19 := hide (refSha_any (w := w18) (c := c) (unhide HN) (by omega) ((unhide HH).low (low_trans (unhide HB2) (unhide HC18))))
          rw [unhide HX] at HS19
          clear o18 b18 at18 HS18
          go_wp2_with (go_at_call 28; fail)
          refine (unhide HS19).mono ?_
          rintro e w19 ⟨v19, rfl, o19, b19⟩
          obtain ⟨g19, c19, rfl, at19, -, -⟩ := OwnB.adr o19 (unhide HXl)
          have HC19 := hide (low_trans (unhide HC18) b19)
          have HS20 := hide (sameBytes_any (c := c18) (c2 := c19) (unhide HXl) (unhide HXl) (by omega) (by omega) ((unhide HA18).low b19) at19)
          rw [decide_eq_true (rfl : X = X)] at HS20
          clear o19 b19 at19 HS19
          go_wp2_with (go_at_call 23; fail)
          refine (unhide HS20).mono ?_
          rintro e w20 ⟨rfl, q20, hw20⟩
          have HC20 : Hid (Below w2.heap.size w2 w20) := hide (by rw [hw20]; exact lowN (unhide HC19) _)
          clear hw20 HS20
          go_wp2_with (go_at_call 19; refine (errno_any _ _).mono ?_; rintro e wn ⟨rfl, hwn⟩; rw [hwn]; clear hwn wn)
          go_ret
          exact ⟨rfl, low_trans (unhide HB2) (unhide HC20)⟩
    · go_wp2
      go_ret
      exact ⟨rfl, unhide HB1⟩
  · go_wp2
    go_ret
    exact ⟨rfl, unhide HB1⟩
end Go.Proofs.YtkablmjkffdloaaGreatDoor
