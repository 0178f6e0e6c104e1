/-
  Stored places: how many hashes are stored of n records; bits counted.
-/
namespace Go.Proofs.YtkpmbbeidcpclaaGreatDoor

/-- The bits that are set. -/
def popF : Nat → Nat → Nat
  | 0, _ => 0
  | k + 1, x => x % 2 + popF k (x / 2)
/-- n, n / 2, n / 4 .. together. -/
def stF : Nat → Nat → Nat
  | 0, _ => 0
  | k + 1, x => x + stF k (x / 2)
def pop (x : Nat) : Nat := popF 24 x
/-- How many hashes are stored of n records. -/
def stored (n : Nat) : Nat := stF 24 n

theorem st_pop : ∀ (k x : Nat), x < 2 ^ k → stF k x + popF k x = 2 * x
  | 0, x, h => by
    have : x = 0 := by simp at h; exact h
    subst this
    rfl
  | k + 1, x, h => by
    have e : 2 ^ (k + 1) = 2 * 2 ^ k := by rw [Nat.pow_succ]; omega
    have := st_pop k (x / 2) (by omega)
    show x + stF k (x / 2) + (x % 2 + popF k (x / 2)) = _
    omega
theorem stF_fuel : ∀ (k j x : Nat), x < 2 ^ k → x < 2 ^ j → stF k x = stF j x
  | 0, j, x, h, _ => by
    have h0 : x = 0 := by simp at h; exact h
    subst h0
    induction j with
    | zero => rfl
    | succ j ih => show 0 = 0 + stF j (0 / 2); rw [Nat.zero_add]; exact ih (Nat.pow_pos (by decide))
  | k + 1, 0, x, _, h => by
    have h0 : x = 0 := by simp at h; exact h
    subst h0
    show 0 + stF k (0 / 2) = 0
    rw [Nat.zero_add]
    exact stF_fuel k 0 0 (Nat.pow_pos (by decide)) (by decide)
  | k + 1, j + 1, x, h, h' => by
    have e : 2 ^ (k + 1) = 2 * 2 ^ k := by rw [Nat.pow_succ]; omega
    have e' : 2 ^ (j + 1) = 2 * 2 ^ j := by rw [Nat.pow_succ]; omega
    show x + stF k (x / 2) = x + stF j (x / 2)
    rw [stF_fuel k j (x / 2) (by omega) (by omega)]
theorem stored_step {n : Nat} (h : n < 16777216) : stored n = n + stored (n / 2) := by
  show n + stF 23 (n / 2) = n + stF 24 (n / 2)
  rw [stF_fuel 23 24 (n / 2) (by have : (2 : Nat) ^ 23 = 8388608 := by decide
                                 omega) (by have : (2 : Nat) ^ 24 = 16777216 := by decide
                                            omega)]
theorem stored_pop {n : Nat} (h : n < 16777216) : stored n + pop n = 2 * n := st_pop 24 n (by have : (2 : Nat) ^ 24 = 16777216 := by decide
                                                                                              omega)
theorem stored_le {n : Nat} (h : n < 16777216) : stored n ≤ 2 * n := by have := stored_pop h; omega
/-- With the record m - 1 the trees that end with it are stored: levels 0 to t. -/
theorem stored_next : ∀ (t m : Nat), 0 < m → m < 16777216 → m % 2 ^ t = 0 → m % 2 ^ (t + 1) ≠ 0 → stored m = stored (m - 1) + t + 1
  | 0, m, h0, h, _, h2 => by
    rw [stored_step h, stored_step (show m - 1 < 16777216 by omega)]
    have : m % 2 = 1 := by have : (2 : Nat) ^ (0 + 1) = 2 := rfl
                           rw [this] at h2; omega
    have e : (m - 1) / 2 = m / 2 := by omega
    rw [e]
    omega
  | t + 1, m, h0, h, h1, h2 => by
    have p1 : 2 ^ (t + 1) = 2 * 2 ^ t := by rw [Nat.pow_succ]; omega
    have p2 : 2 ^ (t + 1 + 1) = 2 * 2 ^ (t + 1) := by rw [Nat.pow_succ]; omega
    have hev : m % 2 = 0 := by
      have : 2 ∣ m := Nat.dvd_trans ⟨2 ^ t, p1⟩ (Nat.dvd_of_mod_eq_zero h1)
      omega
    obtain ⟨q, rfl⟩ : ∃ q, m = 2 * q := ⟨m / 2, by omega⟩
    rw [p1, Nat.mul_mod_mul_left] at h1
    rw [p2, Nat.mul_mod_mul_left] at h2
    have i := stored_next t q (by omega) (by omega) (by omega) (by omega)
    rw [stored_step h, stored_step (show 2 * q - 1 < 16777216 by omega)]
    have e1 : 2 * q / 2 = q := by omega
    have e2 : (2 * q - 1) / 2 = q - 1 := by omega
    rw [e1, e2, i]
    omega
theorem stored_lt {n : Nat} (h : n + 1 < 16777216) : stored n < stored (n + 1) := by
  -- the greatest power that goes in
  have key : ∀ b, (n + 1) % 2 ^ b ≠ 0 → ∃ t, (n + 1) % 2 ^ t = 0 ∧ (n + 1) % 2 ^ (t + 1) ≠ 0 := by
    intro b
    induction b with
    | zero => intro hb; exact absurd (Nat.mod_one _) hb
    | succ b ih =>
      intro hb
      by_cases hc : (n + 1) % 2 ^ b = 0
      · exact ⟨b, hc, hb⟩
      · exact ih hc
  obtain ⟨t, h1, h2⟩ := key 24 (by
    have : (2 : Nat) ^ 24 = 16777216 := by decide
    rw [this, Nat.mod_eq_of_lt h]; omega)
  have := stored_next t (n + 1) (by omega) h h1 h2
  rw [this]
  simp only [Nat.add_sub_cancel]
  omega
theorem stored_mono : ∀ {m n : Nat}, m ≤ n → n < 16777216 → stored m ≤ stored n := by
  intro m n h hn
  induction n with
  | zero => have : m = 0 := by omega
            subst this; exact Nat.le_refl _
  | succ n ih =>
    by_cases hc : m ≤ n
    · exact Nat.le_trans (ih hc (by omega)) (Nat.le_of_lt (stored_lt hn))
    · have : m = n + 1 := by omega
      subst this; exact Nat.le_refl _

/-! ### Bits counted in parallel -/
def m0 : Nat := 0x5555555555555555
def m1 : Nat := 0x3333333333333333
def m2 : Nat := 0x0f0f0f0f0f0f0f0f

theorem and_split {a m : Nat} (ha : a < 256) (hm : m < 256) (y k : Nat) : (256 * y + a) &&& (256 * k + m) = 256 * (y &&& k) + (a &&& m) := by
  have h8 : (256 : Nat) = 2 ^ 8 := by decide
  have ham : a &&& m < 2 ^ 8 := Nat.lt_of_le_of_lt Nat.and_le_left (by omega)
  apply Nat.eq_of_testBit_eq
  intro i
  rw [h8, Nat.testBit_and, Nat.testBit_two_pow_mul_add _ (by omega), Nat.testBit_two_pow_mul_add _ (by omega), Nat.testBit_two_pow_mul_add _ ham]
  by_cases hi : i < 8
  · simp [hi]
  · simp [hi]

def s1 (a : Nat) : Nat := (a / 2 &&& 85) + (a &&& 85)
def s2 (a : Nat) : Nat := (a / 4 &&& 51) + (a &&& 51)
def s3 (a : Nat) : Nat := (a / 16 + a) &&& 15
theorem byte_pop : ∀ a : Fin 256, s1 a.1 < 256 ∧ s2 (s1 a.1) < 69 ∧ s2 (s1 a.1) % 16 < 5 ∧ s3 (s2 (s1 a.1)) = popF 8 a.1 ∧ popF 8 a.1 < 9 := by decide +kernel

theorem half_split (a : Nat) (y : Nat) : (256 * y + a) / 2 = 256 * (y / 2) + (128 * (y % 2) + a / 2) := by omega
theorem and85 : ∀ a : Fin 256, ∀ b : Fin 2, (128 * b.1 + a.1 / 2) &&& 85 = a.1 / 2 &&& 85 := by decide +kernel
theorem quarter_split (a : Nat) (y : Nat) : (256 * y + a) / 4 = 256 * (y / 4) + (64 * (y % 4) + a / 4) := by omega
theorem and51 : ∀ a : Fin 256, ∀ b : Fin 4, (64 * b.1 + a.1 / 4) &&& 51 = a.1 / 4 &&& 51 := by decide +kernel
theorem and15 : ∀ a : Fin 69, ∀ b : Fin 5, (16 * b.1 + (a.1 / 16 + a.1)) &&& 15 = (a.1 / 16 + a.1) &&& 15 := by decide +kernel

theorem split1 {a : Nat} (ha : a < 256) (y k : Nat) : ((256 * y + a) / 2 &&& (256 * k + 85)) + ((256 * y + a) &&& (256 * k + 85)) = 256 * ((y / 2 &&& k) + (y &&& k)) + s1 a := by
  rw [half_split a, and_split (by omega) (by decide), and_split ha (by decide)]
  have := and85 ⟨a, ha⟩ ⟨y % 2, by omega⟩
  simp only at this
  rw [this]
  unfold s1
  omega
theorem split2 {a : Nat} (ha : a < 256) (y k : Nat) : ((256 * y + a) / 4 &&& (256 * k + 51)) + ((256 * y + a) &&& (256 * k + 51)) = 256 * ((y / 4 &&& k) + (y &&& k)) + s2 a := by
  rw [quarter_split a, and_split (by omega) (by decide), and_split ha (by decide)]
  have := and51 ⟨a, ha⟩ ⟨y % 4, by omega⟩
  simp only at this
  rw [this]
  unfold s2
  omega
theorem split3 {a : Nat} (ha : a < 69) (y k : Nat) (hy : y % 16 < 5) : ((256 * y + a) / 16 + (256 * y + a)) &&& (256 * k + 15) = 256 * ((y / 16 + y) &&& k) + s3 a := by
  have e : (256 * y + a) / 16 + (256 * y + a) = 256 * (y / 16 + y) + (16 * (y % 16) + (a / 16 + a)) := by omega
  rw [e, and_split (by omega) (by decide)]
  have := and15 ⟨a, ha⟩ ⟨y % 16, hy⟩
  simp only at this
  rw [this]
  rfl

theorem popF_split : ∀ (j k x y : Nat), x < 2 ^ j → popF (j + k) (2 ^ j * y + x) = popF j x + popF k y
  | 0, k, x, y, h => by
    have : x = 0 := by simp at h; exact h
    subst this
    simp [popF]
  | j + 1, k, x, y, h => by
    have e : 2 ^ (j + 1) = 2 * 2 ^ j := by rw [Nat.pow_succ]; omega
    rw [show j + 1 + k = (j + k) + 1 by omega]
    show (2 ^ (j + 1) * y + x) % 2 + popF (j + k) ((2 ^ (j + 1) * y + x) / 2) = x % 2 + popF j (x / 2) + popF k y
    have e1 : 2 ^ (j + 1) * y = 2 * (2 ^ j * y) := by rw [e, Nat.mul_assoc]
    rw [e1]
    have e2 : (2 * (2 ^ j * y) + x) / 2 = 2 ^ j * y + x / 2 := by omega
    have e3 : (2 * (2 ^ j * y) + x) % 2 = x % 2 := by omega
    rw [e2, e3, popF_split j k (x / 2) y (by omega)]
    omega

/-- The counting in parallel, below 2^24. -/
theorem swar {x : Nat} (h : x < 16777216) : ∃ y1 y2 y3, (x / 2 &&& m0) + (x &&& m0) = y1 ∧ (y1 / 4 &&& m1) + (y1 &&& m1) = y2 ∧ (y2 / 16 + y2) &&& m2 = y3 ∧
    y1 < 16777216 ∧ y2 < 16777216 ∧ y3 < 16777216 ∧ (y3 + y3 / 256 + (y3 + y3 / 256) / 65536) % 128 = pop x := by
  obtain ⟨a, b, c, ha, hb, hc, rfl⟩ : ∃ a b c, a < 256 ∧ b < 256 ∧ c < 256 ∧ x = 256 * (256 * c + b) + a := ⟨x % 256, x / 256 % 256, x / 65536, by omega, by omega, by omega, by omega⟩
  obtain ⟨a1, a2, a3, a4, a5⟩ := byte_pop ⟨a, ha⟩
  obtain ⟨b1, b2, b3, b4, b5⟩ := byte_pop ⟨b, hb⟩
  obtain ⟨c1, c2, c3, c4, c5⟩ := byte_pop ⟨c, hc⟩
  simp only at a1 a2 a3 a4 a5 b1 b2 b3 b4 b5 c1 c2 c3 c4 c5
  have z1 : ∀ c, c < 256 → (c / 2 &&& 0x5555555555 * 256 + 85) + (c &&& 0x5555555555 * 256 + 85) = s1 c := by
    intro c hc
    have := split1 hc 0 0x5555555555
    simpa [Nat.mul_comm] using this
  have z2 : ∀ c, c < 256 → (c / 4 &&& 0x3333333333 * 256 + 51) + (c &&& 0x3333333333 * 256 + 51) = s2 c := by
    intro c hc
    have := split2 hc 0 0x3333333333
    simpa [Nat.mul_comm] using this
  have z3 : ∀ c, c < 69 → (c / 16 + c) &&& (0x0f0f0f0f0f * 256 + 15) = s3 c := by
    intro c hc
    have := split3 hc 0 0x0f0f0f0f0f (by decide)
    simpa [Nat.mul_comm] using this
  refine ⟨256 * (256 * s1 c + s1 b) + s1 a, 256 * (256 * s2 (s1 c) + s2 (s1 b)) + s2 (s1 a), 256 * (256 * popF 8 c + popF 8 b) + popF 8 a, ?_, ?_, ?_, by omega, by omega, by omega, ?_⟩
  · rw [show m0 = 256 * (256 * 0x555555555555 + 85) + 85 by decide, split1 ha, split1 hb]
    rw [show (0x555555555555 : Nat) = 0x5555555555 * 256 + 85 by decide, z1 c hc]
  · rw [show m1 = 256 * (256 * 0x333333333333 + 51) + 51 by decide, split2 a1, split2 b1]
    rw [show (0x333333333333 : Nat) = 0x3333333333 * 256 + 51 by decide, z2 _ c1]
  · rw [show m2 = 256 * (256 * 0x0f0f0f0f0f0f + 15) + 15 by decide, split3 a2 _ _ (by omega), split3 b2 _ _ (by omega)]
    rw [show (0x0f0f0f0f0f0f : Nat) = 0x0f0f0f0f0f * 256 + 15 by decide, z3 _ c2, a4, b4, c4]
  · have e : pop (256 * (256 * c + b) + a) = popF 8 a + (popF 8 b + popF 8 c) := by
      have p1 := popF_split 8 16 a (256 * c + b) (by omega)
      have p2 := popF_split 8 8 b c (by omega)
      have h8 : (2 : Nat) ^ 8 = 256 := by decide
      rw [h8] at p1 p2
      show popF (8 + 16) _ = _
      rw [p1]
      show popF 8 a + popF (8 + 8) _ = _
      rw [p2]
    rw [e]
    generalize popF 8 a = x at *
    generalize popF 8 b = y at *
    generalize popF 8 c = z at *
    have d1 : (256 * (256 * z + y) + x) / 256 = 256 * z + y := by omega
    have d2 : (256 * (256 * z + y) + x + (256 * z + y)) / 65536 = z := by omega
    rw [d1, d2]
    omega

end Go.Proofs.YtkpmbbeidcpclaaGreatDoor
