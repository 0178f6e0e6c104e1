/-
  What a pattern says, as a plain function; two places that go back to the last star find just that.
-/
import Derived.Test.YthcafeoamabkgaaGreatDoorPure
namespace Go.Proofs.YthcafeoamabkgaaGreatDoor

def standsB (c d : UInt8) : Bool := if c = 63 then d != 47 else c == d

/-- A star ahead of what f takes. -/
def starAny (f : Str → Bool) : Str → Bool
  | [] => f []
  | d :: s => f (d :: s) || (d != 47 && starAny f s)

def matchR : Str → Str → Bool
  | [] => fun s => s.isEmpty
  | c :: p => if c = 42 then starAny (matchR p) else fun s => match s with
    | [] => false
    | d :: s' => standsB c d && matchR p s'

theorem match_star (p : Str) : matchR (42 :: p) = starAny (matchR p) := by simp [matchR]
theorem match_lit {c : UInt8} (h : c ≠ 42) (p : Str) (d : UInt8) (s : Str) : matchR (c :: p) (d :: s) = (standsB c d && matchR p s) := by simp [matchR, h]
theorem match_short {c : UInt8} (h : c ≠ 42) (p : Str) : matchR (c :: p) [] = false := by simp [matchR, h]
theorem match_none {d : UInt8} {s : Str} : matchR [] (d :: s) = false := by simp [matchR]

/-- No star stands in it. -/
def noStar (l : Str) : Prop := ∀ c ∈ l, c ≠ 42

/-- What stands in l stands for the front of t. -/
def front : Str → Str → Bool
  | [], _ => true
  | _ :: _, [] => false
  | c :: l, d :: t => standsB c d && front l t

theorem front_match {l t : Str} (hl : noStar l) (h : front l t = true) (q : Str) : matchR (l ++ q) t = matchR q (t.drop l.length) := by
  induction l generalizing t with
  | nil => simp
  | cons c l ih =>
    cases t with
    | nil => simp [front] at h
    | cons d t =>
      simp only [front, Bool.and_eq_true] at h
      rw [List.cons_append, match_lit (hl c List.mem_cons_self), h.1, ih (fun x hx => hl x (List.mem_cons_of_mem _ hx)) h.2]
      simp

theorem front_of_match {l t q : Str} (hl : noStar l) (h : matchR (l ++ q) t = true) : front l t = true := by
  induction l generalizing t with
  | nil => rfl
  | cons c l ih =>
    cases t with
    | nil => rw [List.cons_append, match_short (hl c List.mem_cons_self)] at h; cases h
    | cons d t =>
      rw [List.cons_append, match_lit (hl c List.mem_cons_self), Bool.and_eq_true] at h
      simp only [front, Bool.and_eq_true]
      exact ⟨h.1, ih (fun x hx => hl x (List.mem_cons_of_mem _ hx)) h.2⟩

theorem front_length {l t : Str} (h : front l t = true) : l.length ≤ t.length := by
  induction l generalizing t with
  | nil => simp
  | cons c l ih =>
    cases t with
    | nil => simp [front] at h
    | cons d t => simp only [front, Bool.and_eq_true] at h; have := ih h.2; simp; omega

theorem front_at {l t : Str} (h : front l t = true) {k : Nat} (hk : k < l.length) (ht : k < t.length) : standsB l[k] t[k] = true := by
  induction l generalizing t k with
  | nil => simp at hk
  | cons c l ih =>
    cases t with
    | nil => simp at ht
    | cons d t =>
      simp only [front, Bool.and_eq_true] at h
      cases k with
      | zero => exact h.1
      | succ k => exact ih h.2 (by simpa using hk) (by simpa using ht)

theorem stands_slash {c : UInt8} (h : standsB c 47 = true) : c = 47 := by
  unfold standsB at h
  split at h
  · cases h
  · simpa using h
theorem slash_stands {d : UInt8} (h : standsB 47 d = true) : d = 47 := by
  unfold standsB at h
  rw [if_neg (by decide)] at h
  exact (by simpa using h : (47 : UInt8) = d).symm

/-- A star takes j signs, none of them a slash. -/
theorem star_iff {f : Str → Bool} {t : Str} : starAny f t = true ↔ ∃ j, j ≤ t.length ∧ (∀ k (hk : k < t.length), k < j → t[k] ≠ 47) ∧ f (t.drop j) = true := by
  induction t with
  | nil =>
    constructor
    · intro h; exact ⟨0, Nat.le_refl _, fun k hk => by simp at hk, by simpa [starAny] using h⟩
    · rintro ⟨j, hj, _, h⟩
      obtain rfl : j = 0 := by simpa using hj
      simpa [starAny] using h
  | cons d t ih =>
    simp only [starAny, Bool.or_eq_true, Bool.and_eq_true, bne_iff_ne, ne_eq]
    constructor
    · rintro (h | ⟨h1, h2⟩)
      · exact ⟨0, Nat.zero_le _, fun k _ h0 => by omega, by simpa using h⟩
      · obtain ⟨j, hj, hn, hf⟩ := ih.1 h2
        refine ⟨j + 1, by simp; omega, fun k hk hkj => ?_, by simpa using hf⟩
        cases k with
        | zero => simpa using h1
        | succ k => simpa using hn k (by simpa using hk) (by omega)
    · rintro ⟨j, hj, hn, hf⟩
      cases j with
      | zero => exact Or.inl (by simpa using hf)
      | succ j =>
        refine Or.inr ⟨fun e => hn 0 (by simp) (by omega) e, ih.2 ⟨j, by simpa using hj, fun k hk hkj => ?_, by simpa using hf⟩⟩
        have := hn (k + 1) (by simpa using hk) (by omega)
        simpa using this

/-- Where l stands at the front and again further on, with no slash between, none stands in what the second one has more. -/
theorem no_slash {l t : Str} {j : Nat} (h0 : 0 < j) (h1 : front l t = true) (h2 : front l (t.drop j) = true) (hn : ∀ k (hk : k < t.length), k < j → t[k] ≠ 47) :
    ∀ x (hx : x < t.length), x < l.length + j → t[x] ≠ 47 := by
  intro x
  induction x using Nat.strongRecOn with
  | ind x ih =>
    intro hx hlt he
    by_cases hxj : x < j
    · exact hn x hx hxj he
    · have hy : x - j < l.length := by omega
      have hl1 := front_length h1
      have hl2 := front_length h2
      rw [List.length_drop] at hl2
      have s2 := front_at h2 hy (by rw [List.length_drop]; omega)
      have e2 : (t.drop j)[x - j]'(by rw [List.length_drop]; omega) = t[x] := by
        rw [List.getElem_drop]; congr 1; omega
      rw [e2, he] at s2
      have hc := stands_slash s2
      have s1 := front_at h1 hy (by omega)
      rw [hc] at s1
      exact ih (x - j) (by omega) (by omega) (by omega) (slash_stands s1)

theorem star_here {f : Str → Bool} {t : Str} (h : f t = true) : starAny f t = true := star_iff.2 ⟨0, Nat.zero_le _, fun k _ h0 => by omega, by simpa using h⟩

/-- The last star need not look back. -/
theorem greedy {l t q : Str} (hl : noStar l) (h : front l t = true) : starAny (matchR (l ++ 42 :: q)) t = starAny (matchR q) (t.drop l.length) := by
  rw [Bool.eq_iff_iff]
  constructor
  · intro hs
    obtain ⟨j, hj, hn, hf⟩ := star_iff.1 hs
    have h2 := front_of_match hl hf
    rw [front_match hl h2, match_star] at hf
    obtain ⟨i, hi, hn2, hf2⟩ := star_iff.1 hf
    rw [List.length_drop, List.length_drop] at hi
    have l2 := front_length h2
    rw [List.length_drop] at l2
    refine star_iff.2 ⟨j + i, by rw [List.length_drop]; omega, fun k hk hkj => ?_, ?_⟩
    · rw [List.length_drop] at hk
      rw [List.getElem_drop]
      by_cases hkj' : k < j
      · exact no_slash (by omega) h h2 hn (l.length + k) (by omega) (by omega)
      · have := hn2 (k - j) (by rw [List.length_drop, List.length_drop]; omega) (by omega)
        rw [List.getElem_drop, List.getElem_drop] at this
        have e : j + (l.length + (k - j)) = l.length + k := by omega
        simp only [e] at this
        exact this
    · rw [List.drop_drop, List.drop_drop] at hf2
      rw [List.drop_drop]
      have e : l.length + (j + i) = j + (l.length + i) := by omega
      rw [e]; exact hf2
  · intro hs
    exact star_here (by rw [front_match hl h, match_star]; exact hs)

theorem match_nil (p : Str) : matchR p [] = p.all (fun c => c == 42) := by
  induction p with
  | nil => rfl
  | cons c p ih =>
    by_cases h : c = 42
    · subst h; rw [match_star]; simp [starAny, ih]
    · rw [match_short h]; simp [h]

/-- At the text's end only the stars that are left count. -/
theorem star_end {l t r : Str} (hl : noStar l) (h : front l t = true) (he : t.length = l.length) : starAny (matchR (l ++ r)) t = r.all (fun c => c == 42) := by
  have e0 : t.drop l.length = [] := by rw [← he]; simp
  rw [← match_nil, Bool.eq_iff_iff]
  constructor
  · intro hs
    obtain ⟨j, hj, _, hf⟩ := star_iff.1 hs
    have l2 := front_length (front_of_match hl hf)
    rw [List.length_drop] at l2
    by_cases h0 : j = 0
    · subst h0
      rw [List.drop_zero, front_match hl h, e0] at hf
      exact hf
    · have hl0 : l = [] := List.length_eq_zero_iff.1 (by omega)
      subst hl0
      have ht : t = [] := List.length_eq_zero_iff.1 (by simpa using he)
      subst ht
      simpa using hf
  · intro hs
    exact star_here (by rw [front_match hl h, e0]; exact hs)

/-- Where the place after the star does not fit, the star takes one sign more. -/
theorem star_on {f : Str → Bool} {d : UInt8} {t : Str} (h : f (d :: t) = false) (hd : d ≠ 47) : starAny f (d :: t) = starAny f t := by simp [starAny, h, hd]
theorem star_stop {f : Str → Bool} {t : Str} (h : f (47 :: t) = false) : starAny f (47 :: t) = false := by simp [starAny, h]

theorem front_snoc {l t : Str} (h : front l t = true) {c : UInt8} (hk : l.length < t.length) (hs : standsB c t[l.length] = true) : front (l ++ [c]) t = true := by
  induction l generalizing t with
  | nil =>
    cases t with
    | nil => simp at hk
    | cons d t => simpa [front] using hs
  | cons b l ih =>
    cases t with
    | nil => simp at hk
    | cons d t =>
      simp only [front, Bool.and_eq_true] at h
      simp only [List.cons_append, front, Bool.and_eq_true]
      exact ⟨h.1, ih h.2 (by simpa using hk) (by simpa using hs)⟩

end Go.Proofs.YthcafeoamabkgaaGreatDoor
