/-
  Numbers and versions: read and written; the order of all texts.
-/
import Derived.Test.YthcafeoamabkgaaGreatDoorPure
namespace Go.Proofs.YthcafeoamabkgaaGreatDoor

theorem digitB_iff (c : UInt8) : digitB c = true ↔ 48 ≤ c.toNat ∧ c.toNat ≤ 57 := by simp [digitB]

theorem numVal_append (s : Str) (c : UInt8) : numVal (s ++ [c]) = numVal s * 10 + (c.toNat - 48) := by simp [numVal]

theorem split_last (s : Str) (h : s ≠ []) : ∃ t c, s = t ++ [c] := ⟨s.dropLast, s.getLast h, (List.dropLast_concat_getLast h).symm⟩

/-- Digits without a zero ahead. -/
def Plain (s : Str) : Prop := s ≠ [] ∧ s.all digitB = true ∧ (1 < s.length → s.getD 0 0 ≠ 48)

theorem plain_of {s : Str} (h1 : digitsB s = true) (h2 : zeroAheadB s = false) : Plain s := by
  simp only [digitsB, Bool.and_eq_true, Bool.not_eq_true', List.isEmpty_eq_false_iff] at h1
  refine ⟨h1.1, h1.2, fun hl he => ?_⟩
  simp [zeroAheadB, hl] at h2
  exact h2 (by simpa using he)

theorem plain_digits : ∀ (n : Nat) (s : Str), s.length ≤ n → Plain s → Lib.decDigits (numVal s) = s ∧ (s.getD 0 0 ≠ 48 → 1 ≤ numVal s)
  | 0, s, hn, h => absurd (List.length_eq_zero_iff.1 (Nat.le_zero.1 hn)) h.1
  | n + 1, s, hn, h => by
    obtain ⟨t, c, rfl⟩ := split_last s h.1
    have hc : 48 ≤ c.toNat ∧ c.toNat ≤ 57 := by
      have := h.2.1
      rw [List.all_append] at this
      simp only [Bool.and_eq_true, List.all_cons, List.all_nil, Bool.and_true] at this
      exact (digitB_iff c).1 this.2
    have ec : UInt8.ofNat (48 + (c.toNat - 48)) = c := by
      have : 48 + (c.toNat - 48) = c.toNat := by omega
      rw [this]; exact UInt8.ofNat_toNat
    rw [numVal_append]
    by_cases ht : t = []
    · subst ht
      constructor
      · have e : numVal [] * 10 + (c.toNat - 48) = c.toNat - 48 := by simp [numVal]
        rw [e, Lib.decDigits, dif_pos (by omega), ec]; rfl
      · intro h0
        have : c.toNat ≠ 48 := fun e => h0 (by simp; exact UInt8.toNat_inj.1 e)
        omega
    · have hl : 1 < (t ++ [c]).length := by
        have := List.length_pos_iff.2 ht
        simp; omega
      have hd : (t ++ [c]).getD 0 0 = t.getD 0 0 := by
        obtain ⟨x, t', rfl⟩ := List.exists_cons_of_ne_nil ht
        rfl
      have h0 : t.getD 0 0 ≠ 48 := by rw [← hd]; exact h.2.2 hl
      have hall : t.all digitB = true := by
        have := h.2.1
        rw [List.all_append] at this
        simp only [Bool.and_eq_true] at this
        exact this.1
      obtain ⟨r1, r2⟩ := plain_digits n t (by simp at hn; omega) ⟨ht, hall, fun _ => h0⟩
      have r2 := r2 h0
      constructor
      · rw [Lib.decDigits, dif_neg (by omega)]
        have e1 : (numVal t * 10 + (c.toNat - 48)) / 10 = numVal t := by omega
        have e2 : (numVal t * 10 + (c.toNat - 48)) % 10 = c.toNat - 48 := by omega
        rw [e1, e2, r1, ec]
      · intro _; omega

theorem decDigits_numVal {s : Str} (h : Plain s) : Lib.decDigits (numVal s) = s := (plain_digits s.length s (Nat.le_refl _) h).1
theorem plain_numOk {s : Str} (h : numOk s = true) : Plain s := by
  simp only [numOk, Bool.and_eq_true, Bool.not_eq_true'] at h
  exact plain_of h.1.2 h.2
theorem numVal_inj {s t : Str} (h : numOk s = true) (h' : numOk t = true) (e : numVal s = numVal t) : s = t := by
  rw [← decDigits_numVal (plain_numOk h), e, decDigits_numVal (plain_numOk h')]

theorem numVal_lt : ∀ (n : Nat) (s : Str), s.length ≤ n → s.all digitB = true → numVal s < 10 ^ s.length
  | 0, s, hn, _ => by rw [List.length_eq_zero_iff.1 (Nat.le_zero.1 hn)]; decide
  | n + 1, s, hn, h => by
    by_cases hs : s = []
    · subst hs; decide
    · obtain ⟨t, c, rfl⟩ := split_last s hs
      rw [List.all_append] at h
      simp only [Bool.and_eq_true, List.all_cons, List.all_nil, Bool.and_true] at h
      have hc := (digitB_iff c).1 h.2
      have := numVal_lt n t (by simp at hn; omega) h.1
      rw [numVal_append]
      simp only [List.length_append, List.length_cons, List.length_nil, Nat.zero_add, Nat.pow_succ]
      omega
theorem numVal_le {s : Str} (h : numOk s = true) : numVal s ≤ 999999999 := by
  simp only [numOk, digitsB, Bool.and_eq_true, decide_eq_true_eq] at h
  have h1 := numVal_lt s.length s (Nat.le_refl _) h.1.2.2
  have h2 : 10 ^ s.length ≤ 10 ^ 9 := Nat.pow_le_pow_right (by decide) h.1.1
  have h3 : (10 : Nat) ^ 9 = 1000000000 := by decide
  omega

theorem decFrom_eq : ∀ (s : Str) (acc : Nat), s.all digitB = true → Lib.decFrom acc s = some (s.foldl (fun a c => a * 10 + (c.toNat - 48)) acc)
  | [], _, _ => rfl
  | c :: s, acc, h => by
    simp only [List.all_cons, Bool.and_eq_true] at h
    have hc := (digitB_iff c).1 h.1
    have e : Lib.digitVal c = some (c.toNat - 48) := by unfold Lib.digitVal; rw [if_pos hc]
    simp only [Lib.decFrom, e, List.foldl_cons]
    exact decFrom_eq s _ h.2
theorem atoi_digits {s : Str} (h : digitsB s = true) : Lib.atoi s = some (numVal s : Int) := by
  simp only [digitsB, Bool.and_eq_true, Bool.not_eq_true', List.isEmpty_eq_false_iff] at h
  obtain ⟨c, t, rfl⟩ := List.exists_cons_of_ne_nil h.1
  have hc := (digitB_iff c).1 (by have := h.2; simp only [List.all_cons, Bool.and_eq_true] at this; exact this.1)
  have n1 : (c == 45) = false := by simp; rintro rfl; revert hc; decide
  have n2 : (c == 43) = false := by simp; rintro rfl; revert hc; decide
  simp only [Lib.atoi, n1, n2, Bool.false_eq_true, if_false, Lib.decNat, List.isEmpty_cons]
  rw [decFrom_eq _ _ h.2]; rfl

/-! ### A numeral's digits -/

theorem digits_decDigits (u : Nat) : Plain (Lib.decDigits u) ∧ numVal (Lib.decDigits u) = u ∧ (1 ≤ u → (Lib.decDigits u).getD 0 0 ≠ 48) := by
  induction u using Nat.strongRecOn with
  | _ u ih =>
    by_cases h : u < 10
    · have e : Lib.decDigits u = [UInt8.ofNat (48 + u)] := by rw [Lib.decDigits, dif_pos h]
      have en : (UInt8.ofNat (48 + u)).toNat = 48 + u := by simp; omega
      rw [e]
      refine ⟨⟨by simp, by simp only [List.all_cons, List.all_nil, Bool.and_true, digitB_iff, en]; omega, by simp⟩, ?_, ?_⟩
      · simp only [numVal, List.foldl_cons, List.foldl_nil, en]; omega
      · intro h1 he
        have he : UInt8.ofNat (48 + u) = 48 := by simpa using he
        have := congrArg UInt8.toNat he
        rw [en] at this
        have h48 : (48 : UInt8).toNat = 48 := rfl
        omega
    · have e : Lib.decDigits u = Lib.decDigits (u / 10) ++ [UInt8.ofNat (48 + u % 10)] := by rw [Lib.decDigits, dif_neg h]
      have en : (UInt8.ofNat (48 + u % 10)).toNat = 48 + u % 10 := by simp; omega
      obtain ⟨p, v, z⟩ := ih (u / 10) (by omega)
      have z := z (by omega)
      have hd : (Lib.decDigits (u / 10) ++ [UInt8.ofNat (48 + u % 10)]).getD 0 0 = (Lib.decDigits (u / 10)).getD 0 0 := by
        obtain ⟨x, t', ht⟩ := List.exists_cons_of_ne_nil p.1
        rw [ht]; rfl
      rw [e]
      refine ⟨⟨by simp, ?_, fun _ => by rw [hd]; exact z⟩, ?_, fun _ => by rw [hd]; exact z⟩
      · rw [List.all_append, p.2.1]
        simp only [List.all_cons, List.all_nil, Bool.and_true, Bool.true_and, digitB_iff, en]; omega
      · rw [numVal_append, v, en]; omega

theorem decDigits_length {u : Nat} (h : u ≤ 999999999) : (Lib.decDigits u).length ≤ 9 := by
  have h1 := Lib.decDigits_eq u
  rw [h1]
  simp only [List.length_map, List.length_range]
  apply Classical.byContradiction
  intro hn
  have key : ∀ k u, u < 10 ^ (k + 1) → Lib.nDigits u ≤ k + 1 := by
    intro k
    induction k with
    | zero => intro u hu; rw [Lib.nDigits_small (by simpa using hu)]; exact Nat.le_refl _
    | succ k ih =>
      intro u hu
      by_cases hs : u < 10
      · rw [Lib.nDigits_small hs]; omega
      · rw [Lib.nDigits_big hs]
        have := ih (u / 10) (by rw [Nat.pow_succ] at hu ⊢; rw [Nat.pow_succ] at hu; omega)
        omega
  have := key 8 u (by have : (10 : Nat) ^ (8 + 1) = 1000000000 := by decide
                      omega)
  omega

theorem numOk_decDigits {u : Nat} (h : u ≤ 999999999) : numOk (Lib.decDigits u) = true := by
  obtain ⟨p, _, _⟩ := digits_decDigits u
  have h1 := decDigits_length h
  simp only [numOk, digitsB, zeroAheadB, Bool.and_eq_true, decide_eq_true_eq, Bool.not_eq_true', List.isEmpty_eq_false_iff, h1, p.1, p.2.1, true_and, ne_eq, not_false_eq_true, and_self]
  cases hd : decide (1 < (Lib.decDigits u).length) with
  | false => rfl
  | true => simp only [Bool.true_and, decide_eq_false_iff_not]; exact p.2.2 (of_decide_eq_true hd)

/-! ### A text cut in two -/

theorem ahead_behind (c : UInt8) (l : Str) (h : l.contains c = true) : l = ahead c l ++ c :: behind c l := by
  induction l with
  | nil => simp at h
  | cons b l ih =>
    by_cases e : b = c
    · subst e; simp [ahead, behind]
    · have h' : l.contains c = true := by
        simp only [List.contains_cons, Bool.or_eq_true, beq_iff_eq] at h
        rcases h with h | h
        · exact absurd h.symm e
        · exact h
      have hb : (b != c) = true := by simpa using e
      have := ih h'
      simp only [ahead, behind, List.takeWhile_cons, hb, if_true, List.dropWhile_cons, List.cons_append] at this ⊢
      rw [← this]
theorem ahead_none (c : UInt8) (l : Str) (h : l.contains c = false) : ahead c l = l ∧ behind c l = [] := by
  induction l with
  | nil => exact ⟨rfl, rfl⟩
  | cons b l ih =>
    simp only [List.contains_cons, Bool.or_eq_false_iff, beq_eq_false_iff_ne, ne_eq] at h
    have hb : (b != c) = true := by simpa using fun e => h.1 e.symm
    obtain ⟨h1, h2⟩ := ih h.2
    simp only [ahead, behind, List.takeWhile_cons, hb, if_true, List.dropWhile_cons] at h1 h2 ⊢
    exact ⟨by rw [h1], h2⟩
theorem not_mem_ahead (c : UInt8) (l : Str) : (ahead c l).contains c = false := by
  induction l with
  | nil => rfl
  | cons b l ih =>
    unfold ahead at ih ⊢
    rw [List.takeWhile_cons]
    split
    · rename_i h
      simp only [List.contains_cons, ih, Bool.or_false, beq_eq_false_iff_ne]
      intro e; rw [e] at h; simp at h
    · rfl
theorem ahead_of (c : UInt8) (a b : Str) (h : a.contains c = false) : ahead c (a ++ c :: b) = a ∧ behind c (a ++ c :: b) = b := by
  induction a with
  | nil => simp [ahead, behind]
  | cons x a ih =>
    simp only [List.contains_cons, Bool.or_eq_false_iff, beq_eq_false_iff_ne, ne_eq] at h
    have hb : (x != c) = true := by simpa using fun e => h.1 e.symm
    obtain ⟨h1, h2⟩ := ih h.2
    simp only [ahead, behind, List.cons_append, List.takeWhile_cons, hb, if_true, List.dropWhile_cons] at h1 h2 ⊢
    exact ⟨by rw [h1], h2⟩

theorem validPre_ne {s : Str} (h : validPreB s = true) : s ≠ [] := by rintro rfl; revert h; decide

theorem numsOf_inj {l m : List Str} {x : Nat × Nat × Nat} (h : numsOf l = some x) (h' : numsOf m = some x) : l = m := by
  unfold numsOf at h h'
  split at h
  · split at h'
    · split at h
      · split at h'
        · rename_i a b c a' b' c' h1 h2
          simp only [Bool.and_eq_true] at h1 h2
          injection h with h
          injection h' with h'
          rw [← h'] at h
          simp only [Prod.mk.injEq] at h
          rw [numVal_inj h1.1.1 h2.1.1 h.1, numVal_inj h1.1.2 h2.1.2 h.2.1, numVal_inj h1.2 h2.2 h.2.2]
        · cases h'
      · cases h
    · cases h'
  · cases h

theorem parseR_spec {rest : Str} {x : Ver} (h : parseR rest = some x) : numsOf (pieces 46 (ahead 45 rest)) = some (x.a, x.b, x.c) ∧ x.pre = behind 45 rest ∧ (rest.contains 45 = true → validPreB x.pre = true) ∧ (rest.contains 45 = false → x.pre = []) := by
  unfold parseR at h
  split at h
  · cases h
  · rename_i a b c hn
    split at h
    · cases h
    · rename_i hv
      injection h with h
      subst h
      refine ⟨hn, rfl, fun hc => ?_, fun hc => (ahead_none 45 rest hc).2⟩
      cases hb : validPreB (behind 45 rest) with
      | true => rfl
      | false => rw [hc, hb] at hv; exact absurd rfl hv

theorem parseR_inj {a b : Str} {x : Ver} (h : parseR a = some x) (h' : parseR b = some x) : a = b := by
  obtain ⟨n1, p1, v1, e1⟩ := parseR_spec h
  obtain ⟨n2, p2, v2, e2⟩ := parseR_spec h'
  have ha : ahead 45 a = ahead 45 b := pieces_inj 46 (numsOf_inj n1 n2)
  have hb : behind 45 a = behind 45 b := by rw [← p1, p2]
  cases ca : a.contains 45 with
  | true =>
    have cb : b.contains 45 = true := by
      cases cb : b.contains 45 with
      | true => rfl
      | false => exact absurd (e2 cb) (validPre_ne (v1 ca))
    rw [ahead_behind 45 a ca, ahead_behind 45 b cb, ha, hb]
  | false =>
    have cb : b.contains 45 = false := by
      cases cb : b.contains 45 with
      | false => rfl
      | true => exact absurd (e1 ca) (validPre_ne (v2 cb))
    rw [← (ahead_none 45 a ca).1, ← (ahead_none 45 b cb).1, ha]

theorem parseV_some {v : Str} {x : Ver} (h : parseV v = some x) : v.length ≤ 60 ∧ ∃ rest, v = 118 :: rest ∧ parseR rest = some x := by
  unfold parseV at h
  split at h
  · rename_i hl
    split at h
    · exact ⟨hl, _, rfl, h⟩
    · cases h
  · cases h
theorem parseV_inj {a b : Str} {x : Ver} (h : parseV a = some x) (h' : parseV b = some x) : a = b := by
  obtain ⟨_, r, rfl, hr⟩ := parseV_some h
  obtain ⟨_, s, rfl, hs⟩ := parseV_some h'
  rw [parseR_inj hr hs]

theorem orders_v : Orders cmpV where
  turn a b := by
    unfold cmpV
    cases ha : parseV a <;> cases hb : parseV b <;> simp
    · exact orders_bytes.turn _ _
    · exact orders_ver.turn _ _
  eq a b := by
    unfold cmpV
    cases ha : parseV a with
    | none =>
      cases hb : parseV b with
      | none => simp only; exact orders_bytes.eq a b
      | some y => simp only; constructor; intro h; omega; rintro rfl; rw [ha] at hb; cases hb
    | some x =>
      cases hb : parseV b with
      | none => simp only; constructor; intro h; omega; rintro rfl; rw [ha] at hb; cases hb
      | some y =>
        simp only
        rw [orders_ver.eq]
        constructor
        · rintro rfl; exact parseV_inj ha hb
        · rintro rfl; rw [ha] at hb; injection hb
  lt a b c := by
    unfold cmpV
    cases ha : parseV a <;> cases hb : parseV b <;> cases hc : parseV c <;> simp
    · exact orders_bytes.lt _ _ _
    · exact orders_ver.lt _ _ _
  three a b := by
    unfold cmpV
    cases ha : parseV a <;> cases hb : parseV b <;> simp
    · exact orders_bytes.three _ _
    · exact orders_ver.three _ _

end Go.Proofs.YthcafeoamabkgaaGreatDoor
