/-
  CRC.
-/
import Derived.Test.YtkablmjkffdloaaGreatDoorBas
namespace Go.Proofs.YtkablmjkffdloaaGreatDoor
open Go.RowKit

def crcBit (s : UInt32) : UInt32 := (s >>> 1) ^^^ (0xedb88320 &&& (-(s &&& 1)))
def crcByte (s : UInt32) (c : UInt8) : UInt32 := Nat.repeat crcBit 8 (s ^^^ c.toUInt32)
def crcL (l : Bs) : UInt32 := ~~~ (l.foldl crcByte 0xffffffff)

theorem and1 (t : UInt32) : (t &&& 1).toNat = t.toNat % 2 := by
  rw [UInt32.toNat_and]
  exact Nat.and_one_is_mod _
theorem neg1 (t : UInt32) : -((t.toNat : Int) % 2) % 4294967296 = ((-(t &&& 1)).toNat : Int) := by
  rw [← wneg, IntKind.wrap_u32', and1]
  omega
theorem crc_step (t : UInt32) : bits .xor .u32 ((t.toNat : Int) / 2) (bits .and .u32 3988292384 (-((t.toNat : Int) % 2) % 4294967296)) = ((crcBit t).toNat : Int) := by
  rw [neg1, shr1]
  have e4 : bits .and .u32 3988292384 ((-(t &&& 1)).toNat : Int) = ((0xedb88320 &&& (-(t &&& 1))).toNat : Int) := ban 0xedb88320 _
  rw [e4, bx]
  rfl

theorem crc_step2 (t : UInt32) : bits .xor .u32 ((t.toNat : Int) / (2 : Int)) (bits .and .u32 3988292384 (-(bits .and .u32 (t.toNat : Int) 1) % 4294967296)) = ((crcBit t).toNat : Int) := by
  have e2 : bits .and .u32 (t.toNat : Int) 1 = ((t &&& 1).toNat : Int) := ban t 1
  rw [e2, and1, ← crc_step]
  rfl

theorem crc_next {xs : Bs} {k : Nat} (hk : k < xs.length) : (xs.take (k + 1)).foldl crcByte 0xffffffff = crcByte ((xs.take k).foldl crcByte 0xffffffff) xs[k] := by
  rw [List.take_add_one, List.getElem?_eq_getElem hk, List.foldl_append]
  rfl

def rbF (x : Int) : Int := bits .or .u32 (bits .or .u32 (bits .and .u32 (x / 256) 16711935) (bits .and .u32 x 16711935 * 256 % 4294967296) / 65536) (bits .or .u32 (bits .and .u32 (x / 256) 16711935) (bits .and .u32 x 16711935 * 256 % 4294967296) * 65536 % 4294967296)

theorem rb_any (x : Int) (w : World) : Calls Tryz.prog 145 #[.int .u32 x] w fun e w' => e = .returned (.int .u32 (rbF x)) ∧ w' = w := by
  go_enter Tryz.func145, Tryz.ntmps145
  go_wp2
  go_ret
  exact ⟨rfl, rfl⟩

theorem rev_any (w : World) : Calls Tryz.prog 90 #[.int .u32 79764919] w fun e w' => e = .returned (.int .u32 3988292384) ∧ w' = w := by
  go_enter Tryz.func90, Tryz.ntmps90
  go_wp2_with (go_at_call 145; fail)
  refine (rb_any _ w).mono ?_
  rintro e w1 ⟨rfl, rfl⟩
  go_wp2
  go_ret
  refine ⟨?_, rfl⟩
  show Ending.returned (.int .u32 (rbF _)) = _
  congr 2

set_option maxRecDepth 100000 in
set_option maxHeartbeats 1000000 in
theorem crc_any {w : World} {a : Option Addr} {n c : Nat} {xs : Bs} (hn : xs.length = n) (hN : n ≤ 4611686018427387904) (h : BAt w a xs) :
    Calls Tryz.prog 29 #[.slice a n c] w fun e w' => e = .returned (.int .u32 ((crcL xs).toNat : Int)) ∧ w' = w := by
  have HN := hide hn
  have H := hide h
  clear hn h
  go_enter Tryz.func29, Tryz.ntmps29
  go_wp2_with (go_at_call 90; fail)
  refine (rev_any w).mono ?_
  rintro e w1 ⟨rfl, rfl⟩
  go_wp2
  go_loop [4, 6, 10, 18] (fun v4 _ v10 _ => ∃ k : Nat, k ≤ n ∧ v10 = .int .i64 k ∧ v4 = .int .u32 (((xs.take k).foldl crcByte 0xffffffff).toNat : Int)) (fun _ _ v10 _ => n - (intOf v10).toNat)
  case atStart => exact ⟨0, Nat.zero_le _, rfl, rfl⟩
  case round =>
    obtain ⟨k, hk, rfl, rfl⟩ := hrel
    by_cases hlt : k < n
    · have hkt : k < xs.length := by rw [unhide HN]; exact hlt
      obtain ⟨B, O, rfl, hc⟩ := (unhide H).at hkt
      obtain ⟨x, hx⟩ : ∃ x, xs[k] = x := ⟨_, rfl⟩
      rw [hx] at hc
      have hb := u8_lt x
      obtain ⟨s, hs⟩ : ∃ s, (xs.take k).foldl crcByte 0xffffffff = s := ⟨_, rfl⟩
      rw [hs]
      have hsl := u32_lt s
      have e0 : bits .xor .u32 (s.toNat : Int) (x.toNat : Int) = ((s ^^^ x.toUInt32).toNat : Int) := by rw [u8_32, bx]
      go_wp2
      clear e0
      go_loop [4, 18] (fun v4 v18 => ∃ j : Nat, j ≤ 8 ∧ v18 = .int .i64 j ∧ v4 = .int .u32 ((Nat.repeat crcBit j (s ^^^ x.toUInt32)).toNat : Int)) (fun _ v18 => 8 - (intOf v18).toNat)
      case atStart => exact ⟨0, Nat.zero_le _, rfl, rfl⟩
      case round =>
        obtain ⟨j, hj, rfl, rfl⟩ := hrel
        obtain ⟨t, ht⟩ : ∃ t, Nat.repeat crcBit j (s ^^^ x.toUInt32) = t := ⟨_, rfl⟩
        rw [ht]
        by_cases hj8 : j < 8
        · go_wp2
          go_round
          case rel => exact ⟨j + 1, hj8, by simp, by rw [crc_step2, ← ht]; rfl⟩
          case measure => simp [intOf]; omega
        · have hj9 : j = 8 := by omega
          subst hj9
          have HT : Hid ((xs.take (k + 1)).foldl crcByte 0xffffffff = t) := hide (by rw [crc_next hkt, hs, hx, ← ht]; rfl)
          clear ht hj hj8
          go_wp2
          go_round
          case rel => exact ⟨k + 1, hlt, by simp, by rw [unhide HT]⟩
          case measure => simp [intOf]; omega
    · have hkn : xs.take k = xs := List.take_of_length_le (by rw [unhide HN]; omega)
      rw [hkn]
      obtain ⟨s, hs⟩ : ∃ s, xs.foldl crcByte 0xffffffff = s := ⟨_, rfl⟩
      rw [hs]
      have HS : Hid (crcL xs = ~~~ s) := hide (by unfold crcL; rw [hs])
      have e := bnot s
      clear hkn hs
      go_wp2
      go_ret
      rw [unhide HS, ← e]
      exact ⟨rfl, rfl⟩

end Go.Proofs.YtkablmjkffdloaaGreatDoor
