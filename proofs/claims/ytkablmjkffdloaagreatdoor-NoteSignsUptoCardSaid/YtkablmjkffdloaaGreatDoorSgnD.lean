/-
  A text signed by any keys, the program's: every answer.
-/
import Derived.Test.YtkablmjkffdloaaGreatDoorKysQ
namespace Go.Proofs.YtkablmjkffdloaaGreatDoor
open Go.RowKit

theorem or_parts {p x y : Nat} (k : Nat) (h : y < 2 ^ k) (hx : x = p * 2 ^ k) : x ||| y = x + y := by
  subst hx
  rw [Nat.mul_comm, ← Nat.two_pow_add_eq_or_of_lt h]
theorem be32_nat (a b c d : UInt8) : (be32 a b c d).toNat = a.toNat * 16777216 + b.toNat * 65536 + c.toNat * 256 + d.toNat := by
  have la := u8_lt a
  have lb := u8_lt b
  have lc := u8_lt c
  have ld := u8_lt d
  unfold be32
  simp only [UInt32.toNat_or, UInt32.toNat_shiftLeft, UInt8.toNat_toUInt32]
  have e1 : a.toNat <<< ((24 : UInt32).toNat % 32) % 2 ^ 32 = a.toNat * 16777216 := by
    have : ((24 : UInt32).toNat % 32) = 24 := by decide
    rw [this, Nat.shiftLeft_eq]; omega
  have e2 : b.toNat <<< ((16 : UInt32).toNat % 32) % 2 ^ 32 = b.toNat * 65536 := by
    have : ((16 : UInt32).toNat % 32) = 16 := by decide
    rw [this, Nat.shiftLeft_eq]; omega
  have e3 : c.toNat <<< ((8 : UInt32).toNat % 32) % 2 ^ 32 = c.toNat * 256 := by
    have : ((8 : UInt32).toNat % 32) = 8 := by decide
    rw [this, Nat.shiftLeft_eq]; omega
  rw [e1, e2, e3]
  have o1 : a.toNat * 16777216 ||| b.toNat * 65536 = a.toNat * 16777216 + b.toNat * 65536 := or_parts (p := a.toNat) 24 (by omega) (by omega)
  rw [o1]
  have o2 : a.toNat * 16777216 + b.toNat * 65536 ||| c.toNat * 256 = a.toNat * 16777216 + b.toNat * 65536 + c.toNat * 256 := or_parts (p := a.toNat * 256 + b.toNat) 16 (by omega) (by omega)
  rw [o2]
  exact or_parts (p := a.toNat * 65536 + b.toNat * 256 + c.toNat) 8 (by omega) (by omega)
theorem be4_be32 (a b c d : UInt8) : be4 (be32 a b c d) = [a, b, c, d] := by
  have la := u8_lt a
  have lb := u8_lt b
  have lc := u8_lt c
  have ld := u8_lt d
  have h := be32_nat a b c d
  have e0 := byte4_24 (be32 a b c d)
  have e1 := byte4_16 (be32 a b c d)
  have e2 := byte4_8 (be32 a b c d)
  have e3 := byte4_0 (be32 a b c d)
  unfold be4
  obtain ⟨N, hN⟩ : ∃ N, (be32 a b c d).toNat = N := ⟨_, rfl⟩
  rw [hN] at e0 e1 e2 e3 h
  have f0 : (be32 a b c d >>> 24).toUInt8 = a := UInt8.toNat_inj.1 (by omega)
  have f1 : (be32 a b c d >>> 16).toUInt8 = b := UInt8.toNat_inj.1 (by omega)
  have f2 : (be32 a b c d >>> 8).toUInt8 = c := UInt8.toNat_inj.1 (by omega)
  have f3 : (be32 a b c d).toUInt8 = d := UInt8.toNat_inj.1 (by omega)
  rw [f0, f1, f2, f3]
theorem be4_num {b : Bs} (h : 4 ≤ b.length) : be4 (numU b) = b.take 4 := by
  match b, h with
  | x0 :: x1 :: x2 :: x3 :: t, _ => exact be4_be32 _ _ _ _

/-- What Sign says. -/
def signE (text : Bs) (ks : List Ky) : Int := if textB text = false then 15 else if ks.length = 0 then 20 else if signB ks = false then 20 else if 8 < ks.length then 14 else 0
def signT (text : Bs) (ks : List Ky) : Bs := if signE text ks = 0 then noteL text ks else []

set_option maxRecDepth 100000 in
set_option maxHeartbeats 2000000 in
theorem sign_any {w : World} {text : Bs} {a : Option Addr} {n c : Nat} {ks : List Ky} (hl : text.length ≤ 65536) (hn : ks.length = n) (hN : n ≤ 1000) (hok : ∀ k ∈ ks, KyOk k) (h : KRow w a ks) :
    Calls Tryz.prog 54 #[.string (ba text), .slice a n c] w fun e w' => e = .returned (.tuple #[.string (ba (signT text ks)), .int .i64 (signE text ks)]) ∧ Below w.heap.size w w' := by
  obtain ⟨p, hp⟩ : ∃ p, textB text = p := ⟨_, rfl⟩
  have KT : Hid (∀ W, Calls Tryz.prog 106 #[.string (ba text)] W fun e w' => e = .returned (.bool p) ∧ w' = W) := hide (fun W => by have k := isText_any (l := text) (by omega) W; rw [hp] at k; exact k)
  have z0 : (ba text).size = text.length := ba_size _
  obtain ⟨tl, htl⟩ : ∃ tl, text.length = tl := ⟨_, rfl⟩
  rw [htl] at z0
  have hi65 : ¬ (65536 : Int) < (tl : Int) := by omega
  cases p with
  | false =>
    have hE : signE text ks = 15 := by unfold signE; rw [if_pos hp]
    have HE := hide hE
    have HT : Hid (signT text ks = []) := hide (by unfold signT; rw [hE]; rfl)
    clear hp hn hok h htl hl hE
    go_enter Tryz.func54, Tryz.ntmps54
    go_wp2_with (go_at_call 106; refine (unhide KT _).mono ?_; rintro e wn ⟨rfl, hwn⟩; rw [hwn]; clear hwn wn)
    go_ret2
    exact ⟨by rw [unhide HE, unhide HT]; rfl, Below.refl _ _⟩
  | true =>
    by_cases h0 : n = 0
    · have hE : signE text ks = 20 := by unfold signE; rw [if_neg (by rw [hp]; simp), if_pos (by omega)]
      have HE := hide hE
      have HT : Hid (signT text ks = []) := hide (by unfold signT; rw [hE]; rfl)
      have i0 : ((n : Int) == 0) = true := by simp; omega
      clear hp hn hok h htl hl hE h0
      go_enter Tryz.func54, Tryz.ntmps54
      go_wp2_with (go_at_call 106; refine (unhide KT _).mono ?_; rintro e wn ⟨rfl, hwn⟩; rw [hwn]; clear hwn wn)
      go_ret2
      exact ⟨by rw [unhide HE, unhide HT]; rfl, Below.refl _ _⟩
    · have i0 : ((n : Int) == 0) = false := by simp; omega
      obtain ⟨s, hs⟩ : ∃ s, signB ks = s := ⟨_, rfl⟩
      have KA : Hid (Calls Tryz.prog 107 #[.slice a n c] w fun e w' => e = .returned (.bool s) ∧ Below w.heap.size w w') := hide (by
        have k := areSigners_any (c := c) hn hN hok h
        rw [hs] at k
        exact k)
      cases s with
      | false =>
        have hE : signE text ks = 20 := by unfold signE; rw [if_neg (by rw [hp]; simp), if_neg (by omega), if_pos hs]
        have HE := hide hE
        have HT : Hid (signT text ks = []) := hide (by unfold signT; rw [hE]; rfl)
        clear hp hn hok h htl hl hE h0 hs
        go_enter Tryz.func54, Tryz.ntmps54
        go_wp2_with (go_at_call 106; refine (unhide KT _).mono ?_; rintro e wn ⟨rfl, hwn⟩; rw [hwn]; clear hwn wn)
        go_wp2_with (go_at_call 107; fail)
        refine (unhide KA).mono ?_
        rintro e w1 ⟨rfl, b1⟩
        go_wp2
        go_ret2
        exact ⟨by rw [unhide HE, unhide HT]; rfl, b1⟩
      | true =>
        by_cases h8 : 8 < n
        · have hE : signE text ks = 14 := by unfold signE; rw [if_neg (by rw [hp]; simp), if_neg (by omega), if_neg (by rw [hs]; simp), if_pos (by omega)]
          have HE := hide hE
          have HT : Hid (signT text ks = []) := hide (by unfold signT; rw [hE]; rfl)
          have i8 : (8 : Int) < (n : Int) := by omega
          clear hp hn hok h htl hl hE h0 hs
          go_enter Tryz.func54, Tryz.ntmps54
          go_wp2_with (go_at_call 106; refine (unhide KT _).mono ?_; rintro e wn ⟨rfl, hwn⟩; rw [hwn]; clear hwn wn)
          go_wp2_with (go_at_call 107; fail)
          refine (unhide KA).mono ?_
          rintro e w1 ⟨rfl, b1⟩
          go_wp2
          go_ret2
          exact ⟨by rw [unhide HE, unhide HT]; rfl, b1⟩
        · have hE : signE text ks = 0 := by unfold signE; rw [if_neg (by rw [hp]; simp), if_neg (by omega), if_neg (by rw [hs]; simp), if_neg (by omega)]
          have hT : signT text ks = noteL text ks := by unfold signT; rw [if_pos hE]
          rw [hE, hT]
          exact sign_ok hp hl hn (by omega) (by omega) hs (fun k hk => (hok k hk).2) h
end Go.Proofs.YtkablmjkffdloaaGreatDoor
