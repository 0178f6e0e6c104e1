/-
  A tile's bytes: the hash of a whole tree above some of them.
-/
import Derived.Test.YtkpmbbeidcpclaaGreatDoorTldB
namespace Go.Proofs.YtkpmbbeidcpclaaGreatDoor
open Go.RowKit

theorem tbL_add (lv : List Bs) (s f i : Nat) : ∀ j, tbL lv s f (i + j) = tbL lv s f i ++ tbL lv s (f + i) j
  | 0 => by simp [tbL]
  | j + 1 => by
    show tbL lv s f (i + j) ++ _ = _
    rw [tbL_add lv s f i j, List.append_assoc]
    show _ = tbL lv s f i ++ (tbL lv s (f + i) j ++ _)
    rw [Nat.add_assoc]
    rfl
theorem tbL_cut {lv : List Bs} {s f m i j : Nat} (h : ∀ x, x < m → (treeH s (lv.drop ((f + x) * 2 ^ s))).length = 32) (hm : i + j ≤ m) : ((tbL lv s f m).drop (32 * i)).take (32 * j) = tbL lv s (f + i) j := by
  obtain ⟨r, rfl⟩ : ∃ r, m = i + (j + r) := ⟨m - i - j, by omega⟩
  have l1 := tbL_len (lv := lv) (s := s) (f := f) i (fun x hx => h x (by omega))
  have l2 := tbL_len (lv := lv) (s := s) (f := f + i) j (fun x hx => by rw [Nat.add_assoc]; exact h (i + x) (by omega))
  rw [tbL_add, tbL_add, List.drop_left' l1, List.take_left' l2]
theorem whole_tb {lv : List Bs} {s : Nat} : ∀ (d f : Nat), (∀ x, x < 2 ^ d → (treeH s (lv.drop ((f + x) * 2 ^ s))).length = 32) → wholeL d (tbL lv s f (2 ^ d)) = treeH (s + d) (lv.drop (f * 2 ^ s))
  | 0, f, _ => by simp [wholeL, tbL]
  | d + 1, f, h => by
    have hp : 2 ^ (d + 1) = 2 ^ d + 2 ^ d := by rw [Nat.pow_succ]; omega
    have l1 := tbL_len (lv := lv) (s := s) (f := f) (2 ^ d) (fun x hx => h x (by omega))
    have i1 := whole_tb d f (fun x hx => h x (by omega))
    have i2 := whole_tb d (f + 2 ^ d) (fun x hx => by rw [Nat.add_assoc]; exact h (2 ^ d + x) (by omega))
    show nodeL (wholeL d ((tbL lv s f (2 ^ (d + 1))).take (32 * 2 ^ d))) (wholeL d ((tbL lv s f (2 ^ (d + 1))).drop (32 * 2 ^ d))) = _
    rw [hp, tbL_add, List.take_left' l1, List.drop_left' l1, i1, i2]
    show _ = nodeL (treeH (s + d) (lv.drop (f * 2 ^ s))) (treeH (s + d) ((lv.drop (f * 2 ^ s)).drop (2 ^ (s + d))))
    rw [List.drop_drop, Nat.add_mul, ← Nat.pow_add, Nat.add_comm d s]
end Go.Proofs.YtkpmbbeidcpclaaGreatDoor
