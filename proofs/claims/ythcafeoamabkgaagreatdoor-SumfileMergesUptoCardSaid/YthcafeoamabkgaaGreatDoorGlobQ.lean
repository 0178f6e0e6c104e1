/-
  The two places of Glob: what holds ahead of each round, and what each round makes of it.
-/
import Derived.Test.YthcafeoamabkgaaGreatDoorGlobP
import Derived.Lib.TrimByte
namespace Go.Proofs.YthcafeoamabkgaaGreatDoor

/-- What holds ahead of each round: p, i the two places; bs the one behind the last star, or -1; tk where what it has taken ends. -/
structure GInv (P S : Str) (p i : Nat) (bs : Int) (tk : Nat) : Prop where
  hp : p ≤ P.length
  hi : i ≤ S.length
  st : (bs = -1 ∧ tk = 0 ∧ matchR P S = matchR (P.drop p) (S.drop i)) ∨
    ∃ b : Nat, bs = b ∧ b ≤ p ∧ tk ≤ i ∧ p - b = i - tk ∧ noStar ((P.drop b).take (p - b)) ∧ front ((P.drop b).take (p - b)) (S.drop tk) = true ∧ matchR P S = starAny (matchR (P.drop b)) (S.drop tk)

theorem ginv_start (P S : Str) : GInv P S 0 0 (-1) 0 := ⟨Nat.zero_le _, Nat.zero_le _, Or.inl ⟨rfl, rfl, by simp⟩⟩

theorem drop_split {P : Str} {b p : Nat} (hb : b ≤ p) : P.drop b = (P.drop b).take (p - b) ++ P.drop p := by
  have := (List.take_append_drop (p - b) (P.drop b)).symm
  rw [List.drop_drop, show b + (p - b) = p by omega] at this
  exact this

theorem take_len {P : Str} {b p : Nat} (hb : b ≤ p) (hp : p ≤ P.length) : ((P.drop b).take (p - b)).length = p - b := by
  rw [List.length_take, List.length_drop]; omega

theorem ginv_star {P S : Str} {p i tk : Nat} {bs : Int} (h : GInv P S p i bs tk) (hp : p < P.length) (hc : P[p] = 42) : GInv P S (p + 1) i ((p + 1 : Nat) : Int) i := by
  have hd : P.drop p = 42 :: P.drop (p + 1) := by rw [List.drop_eq_getElem_cons hp, hc]
  refine ⟨hp, h.hi, Or.inr ⟨p + 1, rfl, Nat.le_refl _, Nat.le_refl _, by omega, ?_, ?_, ?_⟩⟩
  · rw [Nat.sub_self]; intro c hc; simp at hc
  · rw [Nat.sub_self]; simp [front]
  · rcases h.st with ⟨_, _, he⟩ | ⟨b, _, hb, ht, hpi, hns, hf, he⟩
    · rw [he, hd, match_star]
    · have hl := take_len hb h.hp
      rw [he, drop_split hb, hd, greedy hns hf, hl, List.drop_drop, hpi, show tk + (i - tk) = i by omega]

theorem ginv_lit {P S : Str} {p i tk : Nat} {bs : Int} (h : GInv P S p i bs tk) (hp : p < P.length) (hi : i < S.length) (hc : P[p] ≠ 42) (hs : standsB P[p] S[i] = true) : GInv P S (p + 1) (i + 1) bs tk := by
  have hd : P.drop p = P[p] :: P.drop (p + 1) := List.drop_eq_getElem_cons hp
  have hd2 : S.drop i = S[i] :: S.drop (i + 1) := List.drop_eq_getElem_cons hi
  refine ⟨hp, hi, ?_⟩
  rcases h.st with ⟨h1, h2, he⟩ | ⟨b, h1, hb, ht, hpi, hns, hf, he⟩
  · exact Or.inl ⟨h1, h2, by rw [he, hd, hd2, match_lit hc, hs, Bool.true_and]⟩
  · have hl := take_len hb h.hp
    have e1 : (P.drop b).take (p + 1 - b) = (P.drop b).take (p - b) ++ [P[p]] := by
      rw [show p + 1 - b = (p - b) + 1 by omega, List.take_succ_eq_append_getElem (by rw [List.length_drop]; omega), List.getElem_drop]
      simp only [show b + (p - b) = p by omega]
    refine Or.inr ⟨b, h1, by omega, by omega, by omega, ?_, ?_, he⟩
    · rw [e1]
      intro c hcm
      rcases List.mem_append.1 hcm with hm | hm
      · exact hns c hm
      · rw [List.mem_singleton.1 hm]; exact hc
    · rw [e1]
      refine front_snoc hf (by rw [hl, List.length_drop]; omega) ?_
      have : (S.drop tk)[((P.drop b).take (p - b)).length]'(by rw [hl, List.length_drop]; omega) = S[i] := by
        rw [List.getElem_drop]; congr 1; rw [hl, hpi]; omega
      rw [this]; exact hs

/-- Nothing fits at the two places. -/
def Miss (P S : Str) (p i : Nat) : Prop := matchR (P.drop p) (S.drop i) = false

theorem miss_end {P S : Str} {p i : Nat} (hp : P.length ≤ p) (hi : i < S.length) : Miss P S p i := by
  unfold Miss
  rw [List.drop_eq_nil_of_le hp, List.drop_eq_getElem_cons hi]
  exact match_none
theorem miss_lit {P S : Str} {p i : Nat} (hp : p < P.length) (hi : i < S.length) (hc : P[p] ≠ 42) (hs : standsB P[p] S[i] = false) : Miss P S p i := by
  unfold Miss
  rw [List.drop_eq_getElem_cons hp, List.drop_eq_getElem_cons hi, match_lit hc, hs, Bool.false_and]

theorem ginv_miss {P S : Str} {p i tk b : Nat} (hb : b ≤ p) (hpl : p ≤ P.length) (ht : tk ≤ i) (hpi : p - b = i - tk) (hns : noStar ((P.drop b).take (p - b))) (hf : front ((P.drop b).take (p - b)) (S.drop tk) = true) (hm : Miss P S p i) : matchR (P.drop b) (S.drop tk) = false := by
  have hl := take_len hb hpl
  rw [drop_split hb, front_match hns hf, hl, List.drop_drop, hpi, show tk + (i - tk) = i by omega]
  exact hm

theorem ginv_back {P S : Str} {p i tk : Nat} {b : Nat} (h : GInv P S p i (b : Int) tk) (_hi : i < S.length) (hm : Miss P S p i) (htk : tk < S.length) (hn : S[tk] ≠ 47) : GInv P S b (tk + 1) (b : Int) (tk + 1) := by
  rcases h.st with ⟨h1, _⟩ | ⟨b', h1, hb, ht, hpi, hns, hf, he⟩
  · omega
  · obtain rfl : b = b' := by omega
    have hd : S.drop tk = S[tk] :: S.drop (tk + 1) := List.drop_eq_getElem_cons htk
    have hz := ginv_miss hb h.hp ht hpi hns hf hm
    refine ⟨by have := h.hp; omega, by omega, Or.inr ⟨b, rfl, Nat.le_refl _, Nat.le_refl _, by omega, ?_, ?_, ?_⟩⟩
    · rw [Nat.sub_self]; intro c hc; simp at hc
    · rw [Nat.sub_self]; simp [front]
    · rw [hd] at hz he
      rw [he, star_on hz hn]

theorem ginv_take {P S : Str} {p i tk : Nat} {bs : Int} (h : GInv P S p i bs tk) : tk ≤ i := by
  rcases h.st with ⟨_, h2, _⟩ | ⟨_, _, _, ht, _⟩ <;> omega

theorem ginv_bs {P S : Str} {p i tk : Nat} {bs : Int} (h : GInv P S p i bs tk) : bs = -1 ∨ ∃ b : Nat, bs = b ∧ b ≤ p := by
  rcases h.st with ⟨h1, _⟩ | ⟨b, h1, hb, _⟩
  · exact Or.inl h1
  · exact Or.inr ⟨b, h1, hb⟩

theorem ginv_none {P S : Str} {p i tk : Nat} (h : GInv P S p i (-1) tk) (hm : Miss P S p i) : matchR P S = false := by
  rcases h.st with ⟨_, _, he⟩ | ⟨b, h1, _⟩
  · rw [he]; exact hm
  · omega

theorem ginv_slash {P S : Str} {p i tk : Nat} {b : Nat} (h : GInv P S p i (b : Int) tk) (hm : Miss P S p i) (htk : tk < S.length) (hn : S[tk] = 47) : matchR P S = false := by
  rcases h.st with ⟨h1, _⟩ | ⟨b', h1, hb, ht, hpi, hns, hf, he⟩
  · omega
  · obtain rfl : b = b' := by omega
    have hd : S.drop tk = 47 :: S.drop (tk + 1) := by rw [List.drop_eq_getElem_cons htk, hn]
    have hz := ginv_miss hb h.hp ht hpi hns hf hm
    rw [hd] at hz he
    rw [he, star_stop hz]

theorem ginv_end {P S : Str} {p tk : Nat} {bs : Int} (h : GInv P S p S.length bs tk) : matchR P S = (P.drop p).all (fun c => c == 42) := by
  rcases h.st with ⟨_, _, he⟩ | ⟨b, _, hb, ht, hpi, hns, hf, he⟩
  · rw [he, List.drop_length, match_nil]
  · have hl := take_len hb h.hp
    rw [he, drop_split hb, star_end hns hf (by rw [hl, List.length_drop]; omega)]

/-- How much is left to do. -/
def gM (np ns p tk b1 : Nat) : Nat := ((np + 1 - b1) * (ns + 2) + (ns + 1 - tk)) * (np + 2) + (np + 1 - p)

theorem lex_lt {a a' B x x' : Nat} (h : a' < a) (hx : x' < B) : a' * B + x' < a * B + x := by
  have : (a' + 1) * B ≤ a * B := Nat.mul_le_mul_right B h
  rw [Nat.succ_mul] at this
  omega

theorem gM_star {np ns p tk tk' b1 : Nat} (hp : p < np) (hb : b1 ≤ p + 1) : gM np ns (p + 1) tk' (p + 2) < gM np ns p tk b1 := by
  unfold gM
  refine lex_lt (lex_lt (by omega) (by omega)) (by omega)
theorem gM_lit {np ns p tk b1 : Nat} (hp : p < np) : gM np ns (p + 1) tk b1 < gM np ns p tk b1 := by
  unfold gM
  omega
theorem gM_back {np ns p p' tk b1 : Nat} (ht : tk < ns) : gM np ns p' (tk + 1) b1 < gM np ns p tk b1 := by
  unfold gM
  refine lex_lt (by omega) (by omega)

/-- Only stars are left, or not. -/
theorem trim_stars (l : Str) : (Lib.trimB l 42 == []) = l.all (fun c => c == 42) := by
  have h1 : ∀ m : Str, m.dropWhile (fun c => c == 42) = [] ↔ m.all (fun c => c == 42) = true := by
    intro m
    induction m with
    | nil => simp
    | cons c m ih =>
      by_cases hc : c = 42
      · subst hc; simp [ih]
      · simp [hc]
  rw [Bool.eq_iff_iff, beq_iff_eq]
  unfold Lib.trimB Lib.trimLeftB Lib.trimRightB
  rw [h1]
  constructor
  · intro h
    have h2 : l.reverse.all (fun c => c == 42) = true := by
      have e : ∀ m : Str, (m.dropWhile (fun c => c == 42)).all (fun c => c == 42) = true → m.all (fun c => c == 42) = true := by
        intro m
        induction m with
        | nil => simp
        | cons c m ih =>
          by_cases hc : c = 42
          · subst hc; simpa using ih
          · simp [hc]
      refine e _ ?_
      simpa using h
    simpa using h2
  · intro h
    have e : l.reverse.dropWhile (fun c => c == 42) = [] := (h1 _).2 (by simpa using h)
    simp [e]

end Go.Proofs.YthcafeoamabkgaaGreatDoor
