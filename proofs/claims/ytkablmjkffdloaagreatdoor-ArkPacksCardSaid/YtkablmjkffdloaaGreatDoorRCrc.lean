/-
  CRC, the reference's.
-/
import Derived.Test.YtkablmjkffdloaaGreatDoorCrc
namespace Go.Proofs.YtkablmjkffdloaaGreatDoor
open Go.RowKit

theorem crc_half (t : UInt32) {g : Nat} (hg : t.toNat / 2 = g) : (g : Int) = ((t >>> 1).toNat : Int) := by
  rw [← shr1]; omega
theorem crc_odd {t : UInt32} {g : Nat} (h : t.toNat % 2 = 1) (hg : t.toNat / 2 = g) : bits .xor .u32 (g : Int) 3988292384 = ((crcBit t).toNat : Int) := by
  have e1 : t &&& 1 = 1 := by apply UInt32.toNat_inj.1; rw [and1, h]; rfl
  have e2 : crcBit t = (t >>> 1) ^^^ 0xedb88320 := by unfold crcBit; rw [e1]; rfl
  rw [crc_half t hg, e2]
  exact bx _ 0xedb88320
theorem crc_even {t : UInt32} {g : Nat} (h : t.toNat % 2 = 0) (hg : t.toNat / 2 = g) : (g : Int) = ((crcBit t).toNat : Int) := by
  have e1 : t &&& 1 = 0 := by apply UInt32.toNat_inj.1; rw [and1, h]; rfl
  have e2 : crcBit t = t >>> 1 := by unfold crcBit; rw [e1]; simp
  rw [crc_half t hg, e2]

set_option maxRecDepth 100000 in
set_option maxHeartbeats 1000000 in
theorem refCrc_any {w : World} {a : Option Addr} {n c : Nat} {xs : Bs} (hn : xs.length = n) (hN : n ≤ 4611686018427387904) (h : BAt w a xs) :
    Calls Tryz.prog 30 #[.slice a n c] w fun e w' => e = .returned (.int .u32 ((crcL xs).toNat : Int)) ∧ w' = w := by
  have HN := hide hn
  have H := hide h
  clear hn h
  go_enter Tryz.func30, Tryz.ntmps30
  go_wp2
  go_loop [3, 4, 5, 6] (fun v3 v4 _ _ => ∃ k : Nat, k ≤ n ∧ v4 = .int .i64 k ∧ v3 = .int .u32 (((xs.take k).foldl crcByte 0xffffffff).toNat : Int)) (fun _ v4 _ _ => n - (intOf v4).toNat)
  case atStart => exact ⟨0, Nat.zero_le _, rfl, rfl⟩
  case round =>
    obtain ⟨k, hk, rfl, rfl⟩ := hrel
    by_cases hlt : k < n
    · have hkt : k < xs.length := by rw [unhide HN]; exact hlt
      obtain ⟨B, O, rfl, hc⟩ := (unhide H).at hkt
      obtain ⟨x, hx⟩ : ∃ x, xs[k] = x := ⟨_, rfl⟩
      rw [hx] at hc
      have hb := u8_lt x
      obtain ⟨s, hs⟩ : ∃ s, (xs.take k).foldl crcByte 0xffffffff = s := ⟨_, rfl⟩
      rw [hs]
      have hsl := u32_lt s
      have e0 : bits .xor .u32 (s.toNat : Int) (x.toNat : Int) = ((s ^^^ x.toUInt32).toNat : Int) := by rw [u8_32, bx]
      go_wp2
      clear e0
      go_loop [3, 5, 6] (fun v3 v5 _ => ∃ j : Nat, j ≤ 8 ∧ v5 = .int .i64 j ∧ v3 = .int .u32 ((Nat.repeat crcBit j (s ^^^ x.toUInt32)).toNat : Int)) (fun _ v5 _ => 8 - (intOf v5).toNat)
      case atStart => exact ⟨0, Nat.zero_le _, rfl, rfl⟩
      case round =>
        obtain ⟨j, hj, rfl, rfl⟩ := hrel
        obtain ⟨t, ht⟩ : ∃ t, Nat.repeat crcBit j (s ^^^ x.toUInt32) = t := ⟨_, rfl⟩
        rw [ht]
        by_cases hj8 : j < 8
        · have htl := u32_lt t
          obtain ⟨g, hg⟩ : ∃ g, t.toNat / 2 = g := ⟨_, rfl⟩
          have p1 : (t.toNat : Int) / 2 = (g : Int) := by omega
          have p3 : IntKind.u32.wrap (g : Int) = (g : Int) := by rw [IntKind.wrap_u32']; omega
          by_cases ho : t.toNat % 2 = 1
          · have p2 : (t.toNat : Int).tmod 2 = 1 := by rw [Int.tmod_eq_emod_of_nonneg (by omega)]; omega
            have HV : Hid (bits .xor .u32 (g : Int) 3988292384 = ((crcBit t).toNat : Int)) := hide (crc_odd ho hg)
            clear hg ho
            go_wp2
            go_round
            case rel => exact ⟨j + 1, hj8, by simp, by rw [unhide HV, ← ht]; rfl⟩
            case measure => simp [intOf]; omega
          · have p2 : (t.toNat : Int).tmod 2 = 0 := by rw [Int.tmod_eq_emod_of_nonneg (by omega)]; omega
            have HV : Hid ((g : Int) = ((crcBit t).toNat : Int)) := hide (crc_even (by omega) hg)
            clear hg ho
            go_wp2
            go_round
            case rel => exact ⟨j + 1, hj8, by simp, by rw [unhide HV, ← ht]; rfl⟩
            case measure => simp [intOf]; omega
        · have hj9 : j = 8 := by omega
          subst hj9
          have HT : Hid ((xs.take (k + 1)).foldl crcByte 0xffffffff = t) := hide (by rw [crc_next hkt, hs, hx, ← ht]; rfl)
          clear ht hj hj8
          go_wp2
          go_round
          case rel => exact ⟨k + 1, hlt, by simp, by rw [unhide HT]⟩
          case measure => simp [intOf]; omega
    · have hkn : xs.take k = xs := List.take_of_length_le (by rw [unhide HN]; omega)
      rw [hkn]
      obtain ⟨s, hs⟩ : ∃ s, xs.foldl crcByte 0xffffffff = s := ⟨_, rfl⟩
      rw [hs]
      have HS : Hid (crcL xs = ~~~ s) := hide (by unfold crcL; rw [hs])
      have e := bnot s
      clear hkn hs
      go_wp2
      go_ret
      rw [unhide HS, ← e]
      exact ⟨rfl, rfl⟩

end Go.Proofs.YtkablmjkffdloaaGreatDoor
