/-
  The contracts of standsFor and Glob.
-/
import Derived.Test.YthcafeoamabkgaaGreatDoorPure
import Derived.Lib.TrimByte
import Derived.Test.YthcafeoamabkgaaGreatDoorBase
namespace Go.Proofs.YthcafeoamabkgaaGreatDoor

def standsB (c d : UInt8) : Bool := if c = 63 then d != 47 else c == d

/-- A star ahead of what f takes. -/
def starAny (f : Str → Bool) : Str → Bool
  | [] => f []
  | d :: s => f (d :: s) || (d != 47 && starAny f s)

def matchR : Str → Str → Bool
  | [] => fun s => s.isEmpty
  | c :: p => if c = 42 then starAny (matchR p) else fun s => match s with
    | [] => false
    | d :: s' => standsB c d && matchR p s'

theorem match_star (p : Str) : matchR (42 :: p) = starAny (matchR p) := by simp [matchR]
theorem match_lit {c : UInt8} (h : c ≠ 42) (p : Str) (d : UInt8) (s : Str) : matchR (c :: p) (d :: s) = (standsB c d && matchR p s) := by simp [matchR, h]
theorem match_short {c : UInt8} (h : c ≠ 42) (p : Str) : matchR (c :: p) [] = false := by simp [matchR, h]
theorem match_none {d : UInt8} {s : Str} : matchR [] (d :: s) = false := by simp [matchR]

/-- No star stands in it. -/
def noStar (l : Str) : Prop := ∀ c ∈ l, c ≠ 42

/-- What stands in l stands for the front of t. -/
def front : Str → Str → Bool
  | [], _ => true
  | _ :: _, [] => false
  | c :: l, d :: t => standsB c d && front l t

theorem front_match {l t : Str} (hl : noStar l) (h : front l t = true) (q : Str) : matchR (l ++ q) t = matchR q (t.drop l.length) := by
  induction l generalizing t with
  | nil => simp
  | cons c l ih =>
    cases t with
    | nil => simp [front] at h
    | cons d t =>
      simp only [front, Bool.and_eq_true] at h
      rw [List.cons_append, match_lit (hl c List.mem_cons_self), h.1, ih (fun x hx => hl x (List.mem_cons_of_mem _ hx)) h.2]
      simp

theorem front_of_match {l t q : Str} (hl : noStar l) (h : matchR (l ++ q) t = true) : front l t = true := by
  induction l generalizing t with
  | nil => rfl
  | cons c l ih =>
    cases t with
    | nil => rw [List.cons_append, match_short (hl c List.mem_cons_self)] at h; cases h
    | cons d t =>
      rw [List.cons_append, match_lit (hl c List.mem_cons_self), Bool.and_eq_true] at h
      simp only [front, Bool.and_eq_true]
      exact ⟨h.1, ih (fun x hx => hl x (List.mem_cons_of_mem _ hx)) h.2⟩

theorem front_length {l t : Str} (h : front l t = true) : l.length ≤ t.length := by
  induction l generalizing t with
  | nil => simp
  | cons c l ih =>
    cases t with
    | nil => simp [front] at h
    | cons d t => simp only [front, Bool.and_eq_true] at h; have := ih h.2; simp; omega

theorem front_at {l t : Str} (h : front l t = true) {k : Nat} (hk : k < l.length) (ht : k < t.length) : standsB l[k] t[k] = true := by
  induction l generalizing t k with
  | nil => simp at hk
  | cons c l ih =>
    cases t with
    | nil => simp at ht
    | cons d t =>
      simp only [front, Bool.and_eq_true] at h
      cases k with
      | zero => exact h.1
      | succ k => exact ih h.2 (by simpa using hk) (by simpa using ht)

theorem stands_slash {c : UInt8} (h : standsB c 47 = true) : c = 47 := by
  unfold standsB at h
  split at h
  · cases h
  · simpa using h
theorem slash_stands {d : UInt8} (h : standsB 47 d = true) : d = 47 := by
  unfold standsB at h
  rw [if_neg (by decide)] at h
  exact (by simpa using h : (47 : UInt8) = d).symm

/-- A star takes j signs, none of them a slash. -/
theorem star_iff {f : Str → Bool} {t : Str} : starAny f t = true ↔ ∃ j, j ≤ t.length ∧ (∀ k (hk : k < t.length), k < j → t[k] ≠ 47) ∧ f (t.drop j) = true := by
  induction t with
  | nil =>
    constructor
    · intro h; exact ⟨0, Nat.le_refl _, fun k hk => by simp at hk, by simpa [starAny] using h⟩
    · rintro ⟨j, hj, _, h⟩
      obtain rfl : j = 0 := by simpa using hj
      simpa [starAny] using h
  | cons d t ih =>
    simp only [starAny, Bool.or_eq_true, Bool.and_eq_true, bne_iff_ne, ne_eq]
    constructor
    · rintro (h | ⟨h1, h2⟩)
      · exact ⟨0, Nat.zero_le _, fun k _ h0 => by omega, by simpa using h⟩
      · obtain ⟨j, hj, hn, hf⟩ := ih.1 h2
        refine ⟨j + 1, by simp; omega, fun k hk hkj => ?_, by simpa using hf⟩
        cases k with
        | zero => simpa using h1
        | succ k => simpa using hn k (by simpa using hk) (by omega)
    · rintro ⟨j, hj, hn, hf⟩
      cases j with
      | zero => exact Or.inl (by simpa using hf)
      | succ j =>
        refine Or.inr ⟨fun e => hn 0 (by simp) (by omega) e, ih.2 ⟨j, by simpa using hj, fun k hk hkj => ?_, by simpa using hf⟩⟩
        have := hn (k + 1) (by simpa using hk) (by omega)
        simpa using this

/-- Where l stands at the front and again further on, with no slash between, none stands in what the second one has more. -/
theorem no_slash {l t : Str} {j : Nat} (h0 : 0 < j) (h1 : front l t = true) (h2 : front l (t.drop j) = true) (hn : ∀ k (hk : k < t.length), k < j → t[k] ≠ 47) :
    ∀ x (hx : x < t.length), x < l.length + j → t[x] ≠ 47 := by
  intro x
  induction x using Nat.strongRecOn with
  | ind x ih =>
    intro hx hlt he
    by_cases hxj : x < j
    · exact hn x hx hxj he
    · have hy : x - j < l.length := by omega
      have hl1 := front_length h1
      have hl2 := front_length h2
      rw [List.length_drop] at hl2
      have s2 := front_at h2 hy (by rw [List.length_drop]; omega)
      have e2 : (t.drop j)[x - j]'(by rw [List.length_drop]; omega) = t[x] := by
        rw [List.getElem_drop]; congr 1; omega
      rw [e2, he] at s2
      have hc := stands_slash s2
      have s1 := front_at h1 hy (by omega)
      rw [hc] at s1
      exact ih (x - j) (by omega) (by omega) (by omega) (slash_stands s1)

theorem star_here {f : Str → Bool} {t : Str} (h : f t = true) : starAny f t = true := star_iff.2 ⟨0, Nat.zero_le _, fun k _ h0 => by omega, by simpa using h⟩

/-- The last star need not look back. -/
theorem greedy {l t q : Str} (hl : noStar l) (h : front l t = true) : starAny (matchR (l ++ 42 :: q)) t = starAny (matchR q) (t.drop l.length) := by
  rw [Bool.eq_iff_iff]
  constructor
  · intro hs
    obtain ⟨j, hj, hn, hf⟩ := star_iff.1 hs
    have h2 := front_of_match hl hf
    rw [front_match hl h2, match_star] at hf
    obtain ⟨i, hi, hn2, hf2⟩ := star_iff.1 hf
    rw [List.length_drop, List.length_drop] at hi
    have l2 := front_length h2
    rw [List.length_drop] at l2
    refine star_iff.2 ⟨j + i, by rw [List.length_drop]; omega, fun k hk hkj => ?_, ?_⟩
    · rw [List.length_drop] at hk
      rw [List.getElem_drop]
      by_cases hkj' : k < j
      · exact no_slash (by omega) h h2 hn (l.length + k) (by omega) (by omega)
      · have := hn2 (k - j) (by rw [List.length_drop, List.length_drop]; omega) (by omega)
        rw [List.getElem_drop, List.getElem_drop] at this
        have e : j + (l.length + (k - j)) = l.length + k := by omega
        simp only [e] at this
        exact this
    · rw [List.drop_drop, List.drop_drop] at hf2
      rw [List.drop_drop]
      have e : l.length + (j + i) = j + (l.length + i) := by omega
      rw [e]; exact hf2
  · intro hs
    exact star_here (by rw [front_match hl h, match_star]; exact hs)

theorem match_nil (p : Str) : matchR p [] = p.all (fun c => c == 42) := by
  induction p with
  | nil => rfl
  | cons c p ih =>
    by_cases h : c = 42
    · subst h; rw [match_star]; simp [starAny, ih]
    · rw [match_short h]; simp [h]

/-- At the text's end only the stars that are left count. -/
theorem star_end {l t r : Str} (hl : noStar l) (h : front l t = true) (he : t.length = l.length) : starAny (matchR (l ++ r)) t = r.all (fun c => c == 42) := by
  have e0 : t.drop l.length = [] := by rw [← he]; simp
  rw [← match_nil, Bool.eq_iff_iff]
  constructor
  · intro hs
    obtain ⟨j, hj, _, hf⟩ := star_iff.1 hs
    have l2 := front_length (front_of_match hl hf)
    rw [List.length_drop] at l2
    by_cases h0 : j = 0
    · subst h0
      rw [List.drop_zero, front_match hl h, e0] at hf
      exact hf
    · have hl0 : l = [] := List.length_eq_zero_iff.1 (by omega)
      subst hl0
      have ht : t = [] := List.length_eq_zero_iff.1 (by simpa using he)
      subst ht
      simpa using hf
  · intro hs
    exact star_here (by rw [front_match hl h, e0]; exact hs)

/-- Where the place after the star does not fit, the star takes one sign more. -/
theorem star_on {f : Str → Bool} {d : UInt8} {t : Str} (h : f (d :: t) = false) (hd : d ≠ 47) : starAny f (d :: t) = starAny f t := by simp [starAny, h, hd]
theorem star_stop {f : Str → Bool} {t : Str} (h : f (47 :: t) = false) : starAny f (47 :: t) = false := by simp [starAny, h]

theorem front_snoc {l t : Str} (h : front l t = true) {c : UInt8} (hk : l.length < t.length) (hs : standsB c t[l.length] = true) : front (l ++ [c]) t = true := by
  induction l generalizing t with
  | nil =>
    cases t with
    | nil => simp at hk
    | cons d t => simpa [front] using hs
  | cons b l ih =>
    cases t with
    | nil => simp at hk
    | cons d t =>
      simp only [front, Bool.and_eq_true] at h
      simp only [List.cons_append, front, Bool.and_eq_true]
      exact ⟨h.1, ih h.2 (by simpa using hk) (by simpa using hs)⟩

end Go.Proofs.YthcafeoamabkgaaGreatDoor

namespace Go.Proofs.YthcafeoamabkgaaGreatDoor

/-- What holds ahead of each round: p, i the two places; bs the one behind the last star, or -1; tk where what it has taken ends. -/
structure GInv (P S : Str) (p i : Nat) (bs : Int) (tk : Nat) : Prop where
  hp : p ≤ P.length
  hi : i ≤ S.length
  st : (bs = -1 ∧ tk = 0 ∧ matchR P S = matchR (P.drop p) (S.drop i)) ∨
    ∃ b : Nat, bs = b ∧ b ≤ p ∧ tk ≤ i ∧ p - b = i - tk ∧ noStar ((P.drop b).take (p - b)) ∧ front ((P.drop b).take (p - b)) (S.drop tk) = true ∧ matchR P S = starAny (matchR (P.drop b)) (S.drop tk)

theorem ginv_start (P S : Str) : GInv P S 0 0 (-1) 0 := ⟨Nat.zero_le _, Nat.zero_le _, Or.inl ⟨rfl, rfl, by simp⟩⟩

theorem drop_split {P : Str} {b p : Nat} (hb : b ≤ p) : P.drop b = (P.drop b).take (p - b) ++ P.drop p := by
  have := (List.take_append_drop (p - b) (P.drop b)).symm
  rw [List.drop_drop, show b + (p - b) = p by omega] at this
  exact this

theorem take_len {P : Str} {b p : Nat} (hb : b ≤ p) (hp : p ≤ P.length) : ((P.drop b).take (p - b)).length = p - b := by
  rw [List.length_take, List.length_drop]; omega

theorem ginv_star {P S : Str} {p i tk : Nat} {bs : Int} (h : GInv P S p i bs tk) (hp : p < P.length) (hc : P[p] = 42) : GInv P S (p + 1) i ((p + 1 : Nat) : Int) i := by
  have hd : P.drop p = 42 :: P.drop (p + 1) := by rw [List.drop_eq_getElem_cons hp, hc]
  refine ⟨hp, h.hi, Or.inr ⟨p + 1, rfl, Nat.le_refl _, Nat.le_refl _, by omega, ?_, ?_, ?_⟩⟩
  · rw [Nat.sub_self]; intro c hc; simp at hc
  · rw [Nat.sub_self]; simp [front]
  · rcases h.st with ⟨_, _, he⟩ | ⟨b, _, hb, ht, hpi, hns, hf, he⟩
    · rw [he, hd, match_star]
    · have hl := take_len hb h.hp
      rw [he, drop_split hb, hd, greedy hns hf, hl, List.drop_drop, hpi, show tk + (i - tk) = i by omega]

theorem ginv_lit {P S : Str} {p i tk : Nat} {bs : Int} (h : GInv P S p i bs tk) (hp : p < P.length) (hi : i < S.length) (hc : P[p] ≠ 42) (hs : standsB P[p] S[i] = true) : GInv P S (p + 1) (i + 1) bs tk := by
  have hd : P.drop p = P[p] :: P.drop (p + 1) := List.drop_eq_getElem_cons hp
  have hd2 : S.drop i = S[i] :: S.drop (i + 1) := List.drop_eq_getElem_cons hi
  refine ⟨hp, hi, ?_⟩
  rcases h.st with ⟨h1, h2, he⟩ | ⟨b, h1, hb, ht, hpi, hns, hf, he⟩
  · exact Or.inl ⟨h1, h2, by rw [he, hd, hd2, match_lit hc, hs, Bool.true_and]⟩
  · have hl := take_len hb h.hp
    have e1 : (P.drop b).take (p + 1 - b) = (P.drop b).take (p - b) ++ [P[p]] := by
      rw [show p + 1 - b = (p - b) + 1 by omega, List.take_succ_eq_append_getElem (by rw [List.length_drop]; omega), List.getElem_drop]
      simp only [show b + (p - b) = p by omega]
    refine Or.inr ⟨b, h1, by omega, by omega, by omega, ?_, ?_, he⟩
    · rw [e1]
      intro c hcm
      rcases List.mem_append.1 hcm with hm | hm
      · exact hns c hm
      · rw [List.mem_singleton.1 hm]; exact hc
    · rw [e1]
      refine front_snoc hf (by rw [hl, List.length_drop]; omega) ?_
      have : (S.drop tk)[((P.drop b).take (p - b)).length]'(by rw [hl, List.length_drop]; omega) = S[i] := by
        rw [List.getElem_drop]; congr 1; rw [hl, hpi]; omega
      rw [this]; exact hs

/-- Nothing fits at the two places. -/
def Miss (P S : Str) (p i : Nat) : Prop := matchR (P.drop p) (S.drop i) = false

theorem miss_end {P S : Str} {p i : Nat} (hp : P.length ≤ p) (hi : i < S.length) : Miss P S p i := by
  unfold Miss
  rw [List.drop_eq_nil_of_le hp, List.drop_eq_getElem_cons hi]
  exact match_none
theorem miss_lit {P S : Str} {p i : Nat} (hp : p < P.length) (hi : i < S.length) (hc : P[p] ≠ 42) (hs : standsB P[p] S[i] = false) : Miss P S p i := by
  unfold Miss
  rw [List.drop_eq_getElem_cons hp, List.drop_eq_getElem_cons hi, match_lit hc, hs, Bool.false_and]

theorem ginv_miss {P S : Str} {p i tk b : Nat} (hb : b ≤ p) (hpl : p ≤ P.length) (ht : tk ≤ i) (hpi : p - b = i - tk) (hns : noStar ((P.drop b).take (p - b))) (hf : front ((P.drop b).take (p - b)) (S.drop tk) = true) (hm : Miss P S p i) : matchR (P.drop b) (S.drop tk) = false := by
  have hl := take_len hb hpl
  rw [drop_split hb, front_match hns hf, hl, List.drop_drop, hpi, show tk + (i - tk) = i by omega]
  exact hm

theorem ginv_back {P S : Str} {p i tk : Nat} {b : Nat} (h : GInv P S p i (b : Int) tk) (_hi : i < S.length) (hm : Miss P S p i) (htk : tk < S.length) (hn : S[tk] ≠ 47) : GInv P S b (tk + 1) (b : Int) (tk + 1) := by
  rcases h.st with ⟨h1, _⟩ | ⟨b', h1, hb, ht, hpi, hns, hf, he⟩
  · omega
  · obtain rfl : b = b' := by omega
    have hd : S.drop tk = S[tk] :: S.drop (tk + 1) := List.drop_eq_getElem_cons htk
    have hz := ginv_miss hb h.hp ht hpi hns hf hm
    refine ⟨by have := h.hp; omega, by omega, Or.inr ⟨b, rfl, Nat.le_refl _, Nat.le_refl _, by omega, ?_, ?_, ?_⟩⟩
    · rw [Nat.sub_self]; intro c hc; simp at hc
    · rw [Nat.sub_self]; simp [front]
    · rw [hd] at hz he
      rw [he, star_on hz hn]

theorem ginv_take {P S : Str} {p i tk : Nat} {bs : Int} (h : GInv P S p i bs tk) : tk ≤ i := by
  rcases h.st with ⟨_, h2, _⟩ | ⟨_, _, _, ht, _⟩ <;> omega

theorem ginv_bs {P S : Str} {p i tk : Nat} {bs : Int} (h : GInv P S p i bs tk) : bs = -1 ∨ ∃ b : Nat, bs = b ∧ b ≤ p := by
  rcases h.st with ⟨h1, _⟩ | ⟨b, h1, hb, _⟩
  · exact Or.inl h1
  · exact Or.inr ⟨b, h1, hb⟩

theorem ginv_none {P S : Str} {p i tk : Nat} (h : GInv P S p i (-1) tk) (hm : Miss P S p i) : matchR P S = false := by
  rcases h.st with ⟨_, _, he⟩ | ⟨b, h1, _⟩
  · rw [he]; exact hm
  · omega

theorem ginv_slash {P S : Str} {p i tk : Nat} {b : Nat} (h : GInv P S p i (b : Int) tk) (hm : Miss P S p i) (htk : tk < S.length) (hn : S[tk] = 47) : matchR P S = false := by
  rcases h.st with ⟨h1, _⟩ | ⟨b', h1, hb, ht, hpi, hns, hf, he⟩
  · omega
  · obtain rfl : b = b' := by omega
    have hd : S.drop tk = 47 :: S.drop (tk + 1) := by rw [List.drop_eq_getElem_cons htk, hn]
    have hz := ginv_miss hb h.hp ht hpi hns hf hm
    rw [hd] at hz he
    rw [he, star_stop hz]

theorem ginv_end {P S : Str} {p tk : Nat} {bs : Int} (h : GInv P S p S.length bs tk) : matchR P S = (P.drop p).all (fun c => c == 42) := by
  rcases h.st with ⟨_, _, he⟩ | ⟨b, _, hb, ht, hpi, hns, hf, he⟩
  · rw [he, List.drop_length, match_nil]
  · have hl := take_len hb h.hp
    rw [he, drop_split hb, star_end hns hf (by rw [hl, List.length_drop]; omega)]

/-- How much is left to do. -/
def gM (np ns p tk b1 : Nat) : Nat := ((np + 1 - b1) * (ns + 2) + (ns + 1 - tk)) * (np + 2) + (np + 1 - p)

theorem lex_lt {a a' B x x' : Nat} (h : a' < a) (hx : x' < B) : a' * B + x' < a * B + x := by
  have : (a' + 1) * B ≤ a * B := Nat.mul_le_mul_right B h
  rw [Nat.succ_mul] at this
  omega

theorem gM_star {np ns p tk tk' b1 : Nat} (hp : p < np) (hb : b1 ≤ p + 1) : gM np ns (p + 1) tk' (p + 2) < gM np ns p tk b1 := by
  unfold gM
  refine lex_lt (lex_lt (by omega) (by omega)) (by omega)
theorem gM_lit {np ns p tk b1 : Nat} (hp : p < np) : gM np ns (p + 1) tk b1 < gM np ns p tk b1 := by
  unfold gM
  omega
theorem gM_back {np ns p p' tk b1 : Nat} (ht : tk < ns) : gM np ns p' (tk + 1) b1 < gM np ns p tk b1 := by
  unfold gM
  refine lex_lt (by omega) (by omega)

/-- Only stars are left, or not. -/
theorem trim_stars (l : Str) : (Lib.trimB l 42 == []) = l.all (fun c => c == 42) := by
  have h1 : ∀ m : Str, m.dropWhile (fun c => c == 42) = [] ↔ m.all (fun c => c == 42) = true := by
    intro m
    induction m with
    | nil => simp
    | cons c m ih =>
      by_cases hc : c = 42
      · subst hc; simp [ih]
      · simp [hc]
  rw [Bool.eq_iff_iff, beq_iff_eq]
  unfold Lib.trimB Lib.trimLeftB Lib.trimRightB
  rw [h1]
  constructor
  · intro h
    have h2 : l.reverse.all (fun c => c == 42) = true := by
      have e : ∀ m : Str, (m.dropWhile (fun c => c == 42)).all (fun c => c == 42) = true → m.all (fun c => c == 42) = true := by
        intro m
        induction m with
        | nil => simp
        | cons c m ih =>
          by_cases hc : c = 42
          · subst hc; simpa using ih
          · simp [hc]
      refine e _ ?_
      simpa using h
    simpa using h2
  · intro h
    have e : l.reverse.dropWhile (fun c => c == 42) = [] := (h1 _).2 (by simpa using h)
    simp [e]

end Go.Proofs.YthcafeoamabkgaaGreatDoor

namespace Go.Proofs.YthcafeoamabkgaaGreatDoor
open Go.RowKit

theorem stands_any (c d : UInt8) (w : World) : Calls Tryz.prog 78 #[.int .u8 (c.toNat : Int), .int .u8 (d.toNat : Int)] w fun e w' => e = .returned (.bool (standsB c d)) ∧ w' = w := by
  have hin : ∀ x y : UInt8, ((x.toNat : Int) = (y.toNat : Int)) ↔ x = y := fun x y => ⟨fun h => UInt8.toNat_inj.1 (by omega), fun h => by rw [h]⟩
  have e1 : ((c.toNat : Int) == 63) = decide (c = 63) := by
    rw [Bool.eq_iff_iff]; simp only [beq_iff_eq, decide_eq_true_eq]; exact hin c 63
  have e2 : ((d.toNat : Int) != 47) = (d != 47) := by
    rw [Bool.eq_iff_iff]; simp only [bne_iff_ne, ne_eq]; exact not_congr (hin d 47)
  have e3 : ((c.toNat : Int) == (d.toNat : Int)) = (c == d) := by
    rw [Bool.eq_iff_iff]; simp only [beq_iff_eq]; exact hin c d
  by_cases h : c = 63
  · have HV : Hid (standsB c d = (d != 47)) := by show standsB c d = _; unfold standsB; rw [if_pos h]
    have hq : ((c.toNat : Int) == 63) = true := by rw [e1]; simpa using h
    have hq2 : (c.toNat : Int) = 63 := by simpa using hq
    clear e1 e3 h hq hin
    go_enter Tryz.func78, Tryz.ntmps78
    go_wp2
    go_ret
    exact ⟨ret_bool (by rw [unhide HV, ← e2]), rfl⟩
  · have HV : Hid (standsB c d = (c == d)) := by show standsB c d = _; unfold standsB; rw [if_neg h]
    have hq : ((c.toNat : Int) == 63) = false := by rw [e1]; simpa using h
    have hq2 : ¬ (c.toNat : Int) = 63 := by simpa using hq
    clear e1 e2 h hin
    go_enter Tryz.func78, Tryz.ntmps78
    go_wp2
    go_ret
    exact ⟨ret_bool (by rw [unhide HV, ← e3]), rfl⟩

theorem stands_is {c d : UInt8} {b : Bool} (h : standsB c d = b) (w : World) : Calls Tryz.prog 78 #[.int .u8 (c.toNat : Int), .int .u8 (d.toNat : Int)] w fun e w' => e = .returned (.bool b) ∧ w' = w := by rw [← h]; exact stands_any c d w

theorem u8_ne {c : UInt8} {k : Nat} (hk : k < 256) (h : c ≠ UInt8.ofNat k) : ¬ (c.toNat : Int) = (k : Int) := by
  intro e
  apply h
  apply UInt8.toNat_inj.1
  rw [UInt8.toNat_ofNat']
  omega

set_option maxHeartbeats 4000000 in
theorem glob_any {P S : Str} (hP : P.length ≤ 1099511627776) (hS : S.length ≤ 1099511627776) (w : World) :
    Calls Tryz.prog 39 #[.string (ba P), .string (ba S)] w fun e w' => e = .returned (.bool (matchR P S)) ∧ ∃ n, w' = w.drewN n := by
  have hszP : (ba P).size = P.length := ba_size P
  have hszS : (ba S).size = S.length := ba_size S
  go_enter Tryz.func39, Tryz.ntmps39
  go_wp2
  go_loopw [5, 6, 7, 8, 13, 28, 46] (fun v5 v6 v7 v8 _ _ _ wr => ∃ (p i tk : Nat) (bs : Int) (nr : Nat), v5 = .int .i64 p ∧ v6 = .int .i64 i ∧ v7 = .int .i64 bs ∧ v8 = .int .i64 tk ∧ wr = w.drewN nr ∧ GInv P S p i bs tk) (fun v5 _ v7 v8 _ _ _ _ => gM P.length S.length (intOf v5).toNat (intOf v8).toNat (intOf v7 + 1).toNat)
  case atStart => exact ⟨0, 0, 0, -1, 0, rfl, rfl, rfl, rfl, rfl, ginv_start P S⟩
  case round =>
    obtain ⟨p, i, tk, bs, nr, rfl, rfl, rfl, rfl, hwr, hinv⟩ := hrel
    rename World => wr
    have hp := hinv.hp
    have hi := hinv.hi
    have htk := ginv_take hinv
    have hbs := ginv_bs hinv
    have HI := hide hinv
    have HW := hide hwr
    clear hinv hwr
    by_cases hlt : i < S.length
    · have gs : (ba S)[i]'(by omega) = S[i] := ba_get S i hlt
      obtain ⟨d, hd⟩ : ∃ d, S[i] = d := ⟨_, rfl⟩
      rw [hd] at gs
      by_cases hpl : p < P.length
      · have gp : (ba P)[p]'(by omega) = P[p] := ba_get P p hpl
        obtain ⟨c, hc⟩ : ∃ c, P[p] = c := ⟨_, rfl⟩
        rw [hc] at gp
        by_cases hst : c = 42
        · have hq : (c.toNat : Int) = 42 := by rw [hst]; rfl
          have HN := hide (ginv_star (unhide HI) hpl (hc.trans hst))
          have HM := hide (gM_star (np := P.length) (ns := S.length) (p := p) (tk := tk) (tk' := i) (b1 := (bs + 1).toNat) hpl (by omega))
          clear hst hc hd hbs
          go_wp2
          go_roundw
          case rel => exact ⟨p + 1, i, i, ((p + 1 : Nat) : Int), nr, by simp, rfl, by simp, rfl, unhide HW, unhide HN⟩
          case measure =>
            have e1 : ((p : Int) + 1).toNat = p + 1 := by omega
            have e2 : ((p : Int) + 1 + 1).toNat = p + 2 := by omega
            simp only [intOf, Int.toNat_natCast]
            rw [e1, e2]
            exact unhide HM
        · have hq : ¬ (c.toNat : Int) = 42 := u8_ne (k := 42) (by omega) hst
          have hq' : ((c.toNat : Int) == 42) = false := by simpa using hq
          cases hsb : standsB c d with
          | true =>
            have HS := hide hsb
            have HN := hide (ginv_lit (unhide HI) hpl hlt (by rw [hc]; exact hst) (by rw [hc, hd]; exact hsb))
            have HM := hide (gM_lit (np := P.length) (ns := S.length) (p := p) (tk := tk) (b1 := (bs + 1).toNat) hpl)
            clear hst hc hd hbs hsb
            go_wp2
            go_quiet ((go_at_call 78; exact Calls.quiet_of_same (stands_is (unhide HS) _)))
            go_wp2
            go_roundw
            case rel => exact ⟨p + 1, i + 1, tk, bs, nr + nq, by simp, by simp, rfl, rfl, by rw [unhide HW, World.drewN_drewN], unhide HN⟩
            case measure =>
              have e1 : ((p : Int) + 1).toNat = p + 1 := by omega
              simp only [intOf, Int.toNat_natCast]
              rw [e1]
              exact unhide HM
          | false =>
            have HS := hide hsb
            have HMISS := hide (miss_lit hpl hlt (by rw [hc]; exact hst) (by rw [hc, hd]; exact hsb))
            clear hst hc hd hsb
            have hbs' := hbs
            rcases hbs' with hb | ⟨b, hb, hbp⟩
            · subst hb
              have HV := hide (ginv_none (unhide HI) (unhide HMISS))
              go_wp2
              go_quiet ((go_at_call 78; exact Calls.quiet_of_same (stands_is (unhide HS) _)))
              go_wp2
              go_ret
              exact ⟨ret_bool (unhide HV).symm, nr + nq, by rw [unhide HW, World.drewN_drewN]⟩
            · subst hb
              have htl : tk < S.length := by omega
              have gt : (ba S)[tk]'(by omega) = S[tk] := ba_get S tk htl
              obtain ⟨x, hx⟩ : ∃ x, S[tk] = x := ⟨_, rfl⟩
              rw [hx] at gt
              have hb0 : (0 : Int) ≤ (b : Int) := by omega
              by_cases hsl : x = 47
              · have HV := hide (ginv_slash (unhide HI) (unhide HMISS) htl (hx.trans hsl))
                have hq3 : (x.toNat : Int) = 47 := by rw [hsl]; rfl
                clear hx hsl
                go_wp2
                go_quiet ((go_at_call 78; exact Calls.quiet_of_same (stands_is (unhide HS) _)))
                go_wp2
                go_ret
                exact ⟨ret_bool (unhide HV).symm, nr + nq, by rw [unhide HW, World.drewN_drewN]⟩
              · have HN := hide (ginv_back (unhide HI) hlt (unhide HMISS) htl (by rw [hx]; exact hsl))
                have hq3 : ¬ (x.toNat : Int) = 47 := u8_ne (k := 47) (by omega) hsl
                have HM := hide (gM_back (np := P.length) (ns := S.length) (p := p) (p' := b) (tk := tk) (b1 := b + 1) htl)
                clear hx hsl
                go_wp2
                go_quiet ((go_at_call 78; exact Calls.quiet_of_same (stands_is (unhide HS) _)))
                go_wp2
                go_roundw
                case rel => exact ⟨b, tk + 1, tk + 1, (b : Int), nr + nq, rfl, by simp, rfl, by simp, by rw [unhide HW, World.drewN_drewN], unhide HN⟩
                case measure =>
                  have e1 : ((tk : Int) + 1).toNat = tk + 1 := by omega
                  have e2 : ((b : Int) + 1).toNat = b + 1 := by omega
                  simp only [intOf, Int.toNat_natCast]
                  rw [e1, e2]
                  exact unhide HM
      · have HMISS := hide (miss_end (P := P) (S := S) (p := p) (i := i) (by omega) hlt)
        have hpe : ¬ (p : Int) < (P.length : Int) := by omega
        have hpe2 : decide (p < P.length) = false := by simpa using hpl
        clear hd
        have hbs' := hbs
        rcases hbs' with hb | ⟨b, hb, hbp⟩
        · subst hb
          have HV := hide (ginv_none (unhide HI) (unhide HMISS))
          go_wp2
          go_quiet (fail)
          go_wp2
          go_ret
          exact ⟨ret_bool (unhide HV).symm, nr + nq, by rw [unhide HW, World.drewN_drewN]⟩
        · subst hb
          have htl : tk < S.length := by omega
          have gt : (ba S)[tk]'(by omega) = S[tk] := ba_get S tk htl
          obtain ⟨x, hx⟩ : ∃ x, S[tk] = x := ⟨_, rfl⟩
          rw [hx] at gt
          have hb0 : (0 : Int) ≤ (b : Int) := by omega
          by_cases hsl : x = 47
          · have HV := hide (ginv_slash (unhide HI) (unhide HMISS) htl (hx.trans hsl))
            have hq3 : (x.toNat : Int) = 47 := by rw [hsl]; rfl
            clear hx hsl
            go_wp2
            go_quiet (fail)
            go_wp2
            go_ret
            exact ⟨ret_bool (unhide HV).symm, nr + nq, by rw [unhide HW, World.drewN_drewN]⟩
          · have HN := hide (ginv_back (unhide HI) hlt (unhide HMISS) htl (by rw [hx]; exact hsl))
            have hq3 : ¬ (x.toNat : Int) = 47 := u8_ne (k := 47) (by omega) hsl
            have HM := hide (gM_back (np := P.length) (ns := S.length) (p := p) (p' := b) (tk := tk) (b1 := b + 1) htl)
            clear hx hsl
            go_wp2
            go_quiet (fail)
            go_wp2
            go_roundw
            case rel => exact ⟨b, tk + 1, tk + 1, (b : Int), nr + nq, rfl, by simp, rfl, by simp, by rw [unhide HW, World.drewN_drewN], unhide HN⟩
            case measure =>
              have e1 : ((tk : Int) + 1).toNat = tk + 1 := by omega
              have e2 : ((b : Int) + 1).toNat = b + 1 := by omega
              simp only [intOf, Int.toNat_natCast]
              rw [e1, e2]
              exact unhide HM
    · obtain rfl : i = S.length := by omega
      have HV := hide (ginv_end (unhide HI))
      have hsl : (ba P).extract p P.length = ba (P.drop p) := by
        rw [Lib.extract_eq, ba_data, List.take_of_length_le (by rw [List.length_drop]; omega)]; rfl
      have HT := hide (fun w => Tryz.strings_Trim_one (ba (P.drop p)) 42 (by decide) w (by rw [ba_size, List.length_drop]; omega))
      clear hbs
      go_wp2_with (go_at_call 79; fail)
      refine (unhide HT _).mono ?_
      rintro e w1 ⟨rfl, hw1⟩
      rw [ba_data]
      have HW1 : Hid (∃ n, w1 = w.drewN n) := by
        rcases hw1 with h | h
        · exact ⟨nr, by rw [h]; exact unhide HW⟩
        · exact ⟨nr + 1, by rw [h, unhide HW]; rfl⟩
      clear hw1
      have hq : ((⟨(Lib.trimB (P.drop p) 42).toArray⟩ : ByteArray).toList == (⟨#[]⟩ : ByteArray).toList) = matchR P S := by
        rw [unhide HV, ← trim_stars]
        have e1 : (⟨(Lib.trimB (P.drop p) 42).toArray⟩ : ByteArray).toList = Lib.trimB (P.drop p) 42 := ba_list _
        have e2 : (⟨#[]⟩ : ByteArray).toList = [] := ba_list []
        rw [e1, e2]
      go_wp2
      go_ret
      exact ⟨ret_bool (by simpa using hq), unhide HW1⟩

end Go.Proofs.YthcafeoamabkgaaGreatDoor
