/-
  The tiles of a log: none twice, and how wide they are all together.
-/
import Derived.Test.YtkpmbbeidcpclaaDoorTilP
import Derived.Test.YtkpmbbeidcpclaaDoorPthU
namespace Go.Proofs.YtkpmbbeidcpclaaDoor
open Go.RowKit

theorem rowT_nodup (h r a p m : Nat) : (rowT h r a p m).Nodup := by
  unfold rowT
  rw [List.Nodup, List.pairwise_map]
  refine List.Pairwise.imp ?_ (List.nodup_range (n := m))
  intro x y hxy hc
  exact hxy (congrArg Ti.n hc)
theorem tiles_nodup : ∀ (f h n r : Nat), (tilesF f h n r).Nodup
  | 0, _, _, _ => List.nodup_nil
  | f + 1, h, n, r => by
    have hun : tilesF (f + 1) h n r = if n / 2 ^ (h * r) = 0 then [] else rowT h r (n / 2 ^ (h * r)) (2 ^ h) (rowN (n / 2 ^ (h * r)) (2 ^ h)) ++ tilesF f h n (r + 1) := rfl
    rw [hun]
    by_cases h0 : n / 2 ^ (h * r) = 0
    · rw [if_pos h0]; exact List.nodup_nil
    · rw [if_neg h0, List.nodup_append]
      refine ⟨rowT_nodup _ _ _ _ _, tiles_nodup f h n (r + 1), ?_⟩
      intro x hx y hy hc
      subst hc
      obtain ⟨k, _, e1⟩ := mem_row.1 hx
      obtain ⟨q, k', h1, _, _, _, e2⟩ := (mem_tiles f h n (r + 1) x).1 hy
      rw [e1] at e2
      have := congrArg Ti.l e2
      simp only at this
      omega

/-- The rows' lengths, summed. -/
def rowsum : Nat → Nat → Nat → Nat → Nat
  | 0, _, _, _ => 0
  | f + 1, h, n, r => if n / 2 ^ (h * r) = 0 then 0 else n / 2 ^ (h * r) + rowsum f h n (r + 1)
theorem wsum_tiles : ∀ (f h n r : Nat), wsum (tilesF f h n r) = rowsum f h n r
  | 0, _, _, _ => rfl
  | f + 1, h, n, r => by
    have hun : tilesF (f + 1) h n r = if n / 2 ^ (h * r) = 0 then [] else rowT h r (n / 2 ^ (h * r)) (2 ^ h) (rowN (n / 2 ^ (h * r)) (2 ^ h)) ++ tilesF f h n (r + 1) := rfl
    have hur : rowsum (f + 1) h n r = if n / 2 ^ (h * r) = 0 then 0 else n / 2 ^ (h * r) + rowsum f h n (r + 1) := rfl
    rw [hun, hur]
    by_cases h0 : n / 2 ^ (h * r) = 0
    · rw [if_pos h0, if_pos h0]; rfl
    · rw [if_neg h0, if_neg h0, wsum_append, wsum_rowN _ _ _ Nat.one_le_two_pow, wsum_tiles f h n (r + 1)]
/-- What the law counts in the levels below v. -/
def wantN (h n : Nat) : Nat → Nat
  | 0 => 0
  | v + 1 => if v % h = 0 then wantN h n v + n / 2 ^ v else wantN h n v
theorem want_stays {h n v : Nat} (hv : n < 2 ^ v) : ∀ k, wantN h n (v + k) = wantN h n v
  | 0 => rfl
  | k + 1 => by
    have hu : wantN h n (v + (k + 1)) = if (v + k) % h = 0 then wantN h n (v + k) + n / 2 ^ (v + k) else wantN h n (v + k) := rfl
    have hz : n / 2 ^ (v + k) = 0 := Nat.div_eq_of_lt (Nat.lt_of_lt_of_le hv (Nat.pow_le_pow_right (by decide) (by omega)))
    rw [hu, hz, want_stays hv k]
    split <;> rfl
/-- The rows' sum with no end. -/
def rowsumZ : Nat → Nat → Nat → Nat → Nat
  | 0, _, _, _ => 0
  | f + 1, h, n, r => n / 2 ^ (h * r) + rowsumZ f h n (r + 1)
theorem rowsumZ_zero : ∀ (f h n r : Nat), n / 2 ^ (h * r) = 0 → rowsumZ f h n r = 0
  | 0, _, _, _, _ => rfl
  | f + 1, h, n, r, hz => by
    have hlt : n < 2 ^ (h * r) := by
      rcases Nat.div_eq_zero_iff.1 hz with h1 | h1
      · have := Nat.one_le_two_pow (n := h * r); omega
      · exact h1
    have hz2 : n / 2 ^ (h * (r + 1)) = 0 := Nat.div_eq_of_lt (Nat.lt_of_lt_of_le hlt (Nat.pow_le_pow_right (by decide) (Nat.mul_le_mul_left _ (by omega))))
    show n / 2 ^ (h * r) + rowsumZ f h n (r + 1) = 0
    rw [hz, rowsumZ_zero f h n (r + 1) hz2]
theorem rowsum_Z : ∀ (f h n r : Nat), rowsum f h n r = rowsumZ f h n r
  | 0, _, _, _ => rfl
  | f + 1, h, n, r => by
    have hur : rowsum (f + 1) h n r = if n / 2 ^ (h * r) = 0 then 0 else n / 2 ^ (h * r) + rowsum f h n (r + 1) := rfl
    rw [hur]
    by_cases h0 : n / 2 ^ (h * r) = 0
    · rw [if_pos h0, rowsumZ_zero _ _ _ _ h0]
    · rw [if_neg h0, rowsum_Z f h n (r + 1)]; rfl
theorem div_big {n k : Nat} (hn : n < 2000) (hk : 2000 ≤ k) : n / k = 0 := Nat.div_eq_of_lt (by omega)
theorem want_is {h n : Nat} (h1 : 1 ≤ h) (h8 : h ≤ 8) (hn : n < 2000) : wantN h n 21 = rowsumZ 22 h n 0 := by
  have hh : h = 1 ∨ h = 2 ∨ h = 3 ∨ h = 4 ∨ h = 5 ∨ h = 6 ∨ h = 7 ∨ h = 8 := by omega
  rcases hh with rfl | rfl | rfl | rfl | rfl | rfl | rfl | rfl
  all_goals
    simp [wantN, rowsumZ, div_big hn]
    try omega
theorem want_tiles {h n : Nat} (h1 : 1 ≤ h) (h8 : h ≤ 8) (hn : n < 2000) : wantN h n 21 = wsum (tilesF 22 h n 0) := by
  rw [want_is h1 h8 hn, wsum_tiles, rowsum_Z]
end Go.Proofs.YtkpmbbeidcpclaaDoor
