/-
  Digits written and read back.
-/
import Derived.Test.YtkpmbbeidcpclaaDoorPthP
namespace Go.Proofs.YtkpmbbeidcpclaaDoor
open Go.RowKit

/-- Up to three digits. -/
def dig3 (n : Nat) : Bs := if n < 10 then [dg n] else if n < 100 then [dg (n / 10), dg (n % 10)] else [dg (n / 100), dg (n / 10 % 10), dg (n % 10)]
theorem dec_dig3 {n : Nat} (h : n < 1000) : Lib.decDigits n = dig3 n := by
  unfold dig3
  by_cases h1 : n < 10
  · rw [if_pos h1, dec_small h1]
  · rw [if_neg h1, dec_big h1]
    by_cases h2 : n < 100
    · rw [if_pos h2, dec_small (by omega)]; rfl
    · rw [if_neg h2, dec_big (n := n / 10) (by omega), dec_small (by omega)]
      have e : n / 10 / 10 = n / 100 := by omega
      rw [e]; rfl
set_option maxRecDepth 100000 in
theorem dig3_all : ∀ n : Fin 1000, Lib.atoi (dig3 n.1) = some (n.1 : Int) ∧ (46 : UInt8) ∉ dig3 n.1 ∧ (47 : UInt8) ∉ dig3 n.1 ∧ (dig3 n.1).length ≤ 3 := by decide +kernel
set_option maxRecDepth 100000 in
theorem three_all : ∀ n : Fin 1000, Lib.atoi (three n.1) = some (n.1 : Int) ∧ (46 : UInt8) ∉ three n.1 ∧ (47 : UInt8) ∉ three n.1 ∧ (120 : UInt8) ∉ three n.1 := by decide +kernel

/-- The path's front, and whether the tile is full. -/
theorem path_front {H L N : Nat} (hN : N < 1000) (hH : H < 1000) (hL : L < 1000) : (46 : UInt8) ∉ dirL H L N := by
  obtain ⟨_, a1, _, _⟩ := dig3_all ⟨H, hH⟩
  obtain ⟨_, a2, _, _⟩ := dig3_all ⟨L, hL⟩
  obtain ⟨_, a3, _, _⟩ := three_all ⟨N, hN⟩
  unfold dirL groupL
  rw [if_pos hN, dec_dig3 hH, dec_dig3 hL]
  intro hm
  simp only [List.mem_cons, List.mem_append] at hm
  rcases hm with h | h | h | h | h | h | h | h | h | h
  all_goals first | (revert h; decide) | exact a1 h | exact a2 h | exact a3 h

theorem dir_split {H L N : Nat} (hN : N < 1000) (hH : H < 1000) (hL : L < 1000) : Lib.splitB ⟨#[47]⟩ 0 3 ⟨(dirL H L N).toArray⟩ = [⟨#[116, 105, 108, 101]⟩, ⟨(dig3 H).toArray⟩, ⟨(dig3 L).toArray⟩, ⟨(three N).toArray⟩] := by
  obtain ⟨_, _, a1, _⟩ := dig3_all ⟨H, hH⟩
  obtain ⟨_, _, a2, _⟩ := dig3_all ⟨L, hL⟩
  have e : dirL H L N = [116, 105, 108, 101] ++ 47 :: (dig3 H ++ 47 :: (dig3 L ++ 47 :: three N)) := by
    unfold dirL groupL
    rw [if_pos hN, dec_dig3 hH, dec_dig3 hL]; rfl
  rw [e, splitB_at (by decide), splitB_at a1, splitB_at a2]
  rfl

end Go.Proofs.YtkpmbbeidcpclaaDoor
