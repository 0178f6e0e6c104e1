/-
  What tiles a log has, as plain lists.
-/
import Derived.Test.YtkpmbbeidcpclaaDoorTilB
namespace Go.Proofs.YtkpmbbeidcpclaaDoor
open Go.RowKit

def wsum (ts : List Ti) : Nat := (ts.map (·.w)).sum
theorem wsum_append (a b : List Ti) : wsum (a ++ b) = wsum a + wsum b := by
  unfold wsum
  rw [List.map_append, List.sum_append]

/-- The widths of the first m tiles of a row. -/
theorem wsum_row (h r a p : Nat) : ∀ m, wsum (rowT h r a p m) = min a (m * p)
  | 0 => by unfold rowT wsum; simp
  | m + 1 => by
    rw [rowT_snoc, wsum_append, wsum_row h r a p m, Nat.succ_mul]
    show _ + (min (a - m * p) p + 0) = _
    omega
theorem wsum_rowN (h r a : Nat) {p : Nat} (hp : 1 ≤ p) : wsum (rowT h r a p (rowN a p)) = a := by
  rw [wsum_row]
  have h1 : a ≤ rowN a p * p := by
    apply Classical.byContradiction
    intro hc
    have := rowN_lt (a := a) (p := p) (k := rowN a p) hp (by omega)
    omega
  omega

theorem mem_row {h r a p m : Nat} {t : Ti} : t ∈ rowT h r a p m ↔ ∃ k, k < m ∧ t = ⟨h, r, k, min (a - k * p) p⟩ := by
  unfold rowT
  rw [List.mem_map]
  constructor
  · rintro ⟨k, hk, rfl⟩
    exact ⟨k, List.mem_range.1 hk, rfl⟩
  · rintro ⟨k, hk, rfl⟩
    exact ⟨k, List.mem_range.2 hk, rfl⟩

/-- Which tiles there are. -/
theorem mem_tiles : ∀ (f h n r : Nat) (t : Ti), t ∈ tilesF f h n r ↔ ∃ q k, r ≤ q ∧ q < r + f ∧ (∀ u, r ≤ u → u ≤ q → n / 2 ^ (h * u) ≠ 0) ∧ k < rowN (n / 2 ^ (h * q)) (2 ^ h) ∧ t = ⟨h, q, k, min (n / 2 ^ (h * q) - k * 2 ^ h) (2 ^ h)⟩
  | 0, h, n, r, t => by
    constructor
    · intro hc; cases hc
    · rintro ⟨q, k, h1, h2, _⟩; omega
  | f + 1, h, n, r, t => by
    have hun : tilesF (f + 1) h n r = if n / 2 ^ (h * r) = 0 then [] else rowT h r (n / 2 ^ (h * r)) (2 ^ h) (rowN (n / 2 ^ (h * r)) (2 ^ h)) ++ tilesF f h n (r + 1) := rfl
    rw [hun]
    by_cases h0 : n / 2 ^ (h * r) = 0
    · rw [if_pos h0]
      constructor
      · intro hc; cases hc
      · rintro ⟨q, k, h1, _, h3, _⟩
        exact absurd h0 (h3 r (Nat.le_refl _) h1)
    · rw [if_neg h0, List.mem_append, mem_row, mem_tiles f h n (r + 1) t]
      constructor
      · rintro (⟨k, hk, rfl⟩ | ⟨q, k, h1, h2, h3, h4, rfl⟩)
        · exact ⟨r, k, Nat.le_refl _, by omega, fun u hu1 hu2 => by rw [show u = r by omega]; exact h0, hk, rfl⟩
        · refine ⟨q, k, by omega, by omega, fun u hu1 hu2 => ?_, h4, rfl⟩
          by_cases hur : u = r
          · rw [hur]; exact h0
          · exact h3 u (by omega) hu2
      · rintro ⟨q, k, h1, h2, h3, h4, rfl⟩
        by_cases hqr : q = r
        · subst hqr; exact Or.inl ⟨k, h4, rfl⟩
        · exact Or.inr ⟨q, k, by omega, by omega, fun u hu1 hu2 => h3 u (by omega) hu2, h4, rfl⟩

/-- A longer log has each tile, as wide or wider. -/
theorem tiles_wider {f h n n' : Nat} (hn : n ≤ n') {t : Ti} (ht : t ∈ tilesF f h n 0) : ∃ t' ∈ tilesF f h n' 0, t'.h = t.h ∧ t'.l = t.l ∧ t'.n = t.n ∧ t.w ≤ t'.w := by
  obtain ⟨q, k, h1, h2, h3, h4, rfl⟩ := (mem_tiles f h n 0 t).1 ht
  have hm : ∀ u, n / 2 ^ (h * u) ≤ n' / 2 ^ (h * u) := fun u => Nat.div_le_div_right hn
  have hp : 1 ≤ 2 ^ h := Nat.one_le_two_pow
  have hk : k < rowN (n' / 2 ^ (h * q)) (2 ^ h) := by
    refine Nat.lt_of_lt_of_le h4 ?_
    unfold rowN
    exact Nat.div_le_div_right (by have := hm q; omega)
  refine ⟨_, (mem_tiles f h n' 0 _).2 ⟨q, k, h1, h2, fun u hu1 hu2 => ?_, hk, rfl⟩, rfl, rfl, rfl, ?_⟩
  · have h5 := hm u
    intro e
    rw [e] at h5
    exact h3 u hu1 hu2 (Nat.le_zero.1 h5)
  · show min _ _ ≤ min _ _
    have := hm q
    omega

end Go.Proofs.YtkpmbbeidcpclaaDoor
