/-
  Paths of unlike tiles are unlike.
-/
import Derived.Test.YtkpmbbeidcpclaaDoorPthQ
namespace Go.Proofs.YtkpmbbeidcpclaaDoor
open Go.RowKit

theorem dig3_inj {a b : Nat} (ha : a < 1000) (hb : b < 1000) (h : dig3 a = dig3 b) : a = b := by
  have h1 := (dig3_all ⟨a, ha⟩).1
  have h2 := (dig3_all ⟨b, hb⟩).1
  simp only at h1 h2
  rw [h, h2] at h1
  have := Option.some.inj h1
  omega
theorem three_inj {a b : Nat} (ha : a < 1000) (hb : b < 1000) (h : three a = three b) : a = b := by
  have h1 := (three_all ⟨a, ha⟩).1
  have h2 := (three_all ⟨b, hb⟩).1
  simp only at h1 h2
  rw [h, h2] at h1
  have := Option.some.inj h1
  omega
theorem dir_inj {H L N L' N' : Nat} (hH : H < 1000) (hL : L < 1000) (hN : N < 1000) (hL' : L' < 1000) (hN' : N' < 1000) (h : dirL H L N = dirL H L' N') : L = L' ∧ N = N' := by
  have h1 := dir_split hN hH hL
  have h2 := dir_split hN' hH hL'
  rw [h, h2] at h1
  simp only [List.cons.injEq, ByteArray.mk.injEq, and_true, true_and] at h1
  have e1 : dig3 L' = dig3 L := by have := congrArg Array.toList h1.1; simpa using this
  have e2 : three N' = three N := by have := congrArg Array.toList h1.2; simpa using this
  exact ⟨(dig3_inj hL' hL e1).symm, (three_inj hN' hN e2).symm⟩
theorem cut_path {H L N W p : Nat} (hH : H < 1000) (hL : L < 1000) (hN : N < 1000) (hW : W < 1000) : Lib.cut (pathL H L N W p) [46, 112, 47] = if W = p then (dirL H L N, [], false) else (dirL H L N, dig3 W, true) := by
  unfold pathL
  by_cases h : W = p
  · rw [if_pos h, if_pos h]
    exact cut_no (path_front hN hH hL)
  · rw [if_neg h, if_neg h, dec_dig3 hW]
    exact cut_at (c := 46) (r := [112, 47]) (b := dig3 W) (path_front hN hH hL)
theorem path_inj {H L N W L' N' W' p : Nat} (hH : H < 1000) (hL : L < 1000) (hN : N < 1000) (hW : W < 1000) (hL' : L' < 1000) (hN' : N' < 1000) (hW' : W' < 1000) (h : pathL H L N W p = pathL H L' N' W' p) : L = L' ∧ N = N' ∧ W = W' := by
  have h1 := cut_path (p := p) hH hL hN hW
  have h2 := cut_path (p := p) hH hL' hN' hW'
  rw [h, h2] at h1
  by_cases a : W = p
  · by_cases b : W' = p
    · rw [if_pos a, if_pos b] at h1
      obtain ⟨x, y⟩ := dir_inj hH hL' hN' hL hN (Prod.mk.inj h1).1
      exact ⟨x.symm, y.symm, by omega⟩
    · rw [if_pos a, if_neg b] at h1
      simp at h1
  · by_cases b : W' = p
    · rw [if_neg a, if_pos b] at h1
      simp at h1
    · rw [if_neg a, if_neg b] at h1
      obtain ⟨x, y⟩ := dir_inj hH hL' hN' hL hN (Prod.mk.inj h1).1
      exact ⟨x.symm, y.symm, (dig3_inj hW' hW (Prod.mk.inj (Prod.mk.inj h1).2).1).symm⟩
theorem ba_inj {a b : Bs} (h : ba a = ba b) : a = b := by
  have := congrArg (fun x : ByteArray => x.data.toList) h
  simpa [ba] using this
end Go.Proofs.YtkpmbbeidcpclaaDoor
