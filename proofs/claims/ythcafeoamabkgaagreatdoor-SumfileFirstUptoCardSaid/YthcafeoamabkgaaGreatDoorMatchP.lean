/-
  A pattern held against a path's first elements, as a plain function; what follows from it.
-/
import Derived.Test.YthcafeoamabkgaaGreatDoorGlobX
import Derived.Test.YthcafeoamabkgaaGreatDoorPure5
import Derived.Lib.Join
namespace Go.Proofs.YthcafeoamabkgaaGreatDoor

/-- Whether a pattern matches the beginning of a path whose elements are these. -/
def matchF (es : List Str) (p : Str) : Bool := decide ((pieces 47 p).length ≤ es.length) && matchR p (glue 47 (es.take (pieces 47 p).length))
def matchL (ps : List Str) (path : Str) : Bool := ps.any (matchF (pieces 47 path))

theorem glue_tail (c : UInt8) : ∀ (x : Str) (r : List Str), glue c (x :: r) = x ++ Lib.joinTail [c] r
  | x, [] => by simp [glue, Lib.joinTail]
  | x, y :: r => by
    have ih := glue_tail c y r
    simp only [glue, ih]
    simp [Lib.joinTail]
theorem join_glue (c : UInt8) (xs : List Str) : Lib.join xs [c] = glue c xs := by
  cases xs with
  | nil => rfl
  | cons x r => rw [Lib.join_cons, glue_tail]

theorem glue_app (c : UInt8) : ∀ {a b : List Str}, a ≠ [] → b ≠ [] → glue c (a ++ b) = glue c a ++ c :: glue c b
  | [], _, h, _ => absurd rfl h
  | [x], [], _, h => absurd rfl h
  | [x], y :: b, _, _ => by simp [glue]
  | x :: y :: a, b, _, hb => by
    have ih := glue_app c (a := y :: a) (b := b) (by simp) hb
    simp only [List.cons_append] at ih ⊢
    simp only [glue, ih]
    simp

theorem glue_take_le (c : UInt8) (es : List Str) (k : Nat) : (glue c (es.take k)).length ≤ (glue c es).length := by
  by_cases h1 : es.take k = []
  · rw [h1]; simp [glue]
  · by_cases h2 : es.drop k = []
    · have : es.take k = es := by have := List.take_append_drop k es; rw [h2, List.append_nil] at this; exact this
      rw [this]; exact Nat.le_refl _
    · have e := glue_app c h1 h2
      rw [List.take_append_drop] at e
      rw [e]; simp

theorem pieces_pos (c : UInt8) (l : Str) : 0 < (pieces c l).length := List.length_pos_iff.2 (pieces_ne c l)

/-- What matches a path matches each longer one. -/
theorem matchF_more {path more p : Str} (h : matchF (pieces 47 path) p = true) : matchF (pieces 47 (path ++ 47 :: more)) p = true := by
  unfold matchF at h ⊢
  rw [Bool.and_eq_true, decide_eq_true_eq] at h ⊢
  rw [pieces_join, List.length_append, List.take_append_of_le_length h.1]
  exact ⟨by omega, h.2⟩

def bareB (p : Str) : Bool := p.all fun c => c != 42 && c != 63

theorem match_plain {p : Str} (hp : bareB p = true) (s : Str) : matchR p s = decide (p = s) := by
  induction p generalizing s with
  | nil => cases s <;> simp [matchR]
  | cons c p ih =>
    simp only [bareB, List.all_cons, Bool.and_eq_true, bne_iff_ne, ne_eq] at hp
    obtain ⟨⟨h1, h2⟩, h3⟩ := hp
    cases s with
    | nil => rw [match_short h1]; simp
    | cons d s =>
      rw [match_lit h1, ih (by simpa [bareB] using h3)]
      unfold standsB
      rw [if_neg h2]
      by_cases hcd : c = d
      · subst hcd; simp
      · simp [hcd]

/-- A pattern without stars and question marks is the path's beginning. -/
theorem matchF_plain {path p : Str} (hp : bareB p = true) : matchF (pieces 47 path) p = (decide (path = p) || (p ++ [47]).isPrefixOf path) := by
  rw [Bool.eq_iff_iff]
  unfold matchF
  rw [match_plain hp]
  simp only [Bool.and_eq_true, decide_eq_true_eq, Bool.or_eq_true, List.isPrefixOf_iff_prefix]
  constructor
  · rintro ⟨hk, he⟩
    by_cases hkl : (pieces 47 p).length = (pieces 47 path).length
    · rw [hkl, List.take_length, glue_pieces] at he
      exact Or.inl he.symm
    · have h1 : (pieces 47 path).take (pieces 47 p).length ≠ [] := by
        intro e
        have e2 := congrArg List.length e
        have e3 := pieces_pos 47 p
        rw [List.length_take, List.length_nil] at e2
        omega
      have h2 : (pieces 47 path).drop (pieces 47 p).length ≠ [] := by
        intro e
        have := congrArg List.length e
        simp at this
        omega
      have e := glue_app 47 h1 h2
      rw [List.take_append_drop, glue_pieces, ← he] at e
      exact Or.inr ⟨glue 47 ((pieces 47 path).drop (pieces 47 p).length), by rw [List.append_assoc]; exact e.symm⟩
  · rintro (h | ⟨r, h⟩)
    · subst h
      exact ⟨Nat.le_refl _, by rw [List.take_length, glue_pieces]⟩
    · have e : path = p ++ 47 :: r := by rw [← h]; simp
      rw [e, pieces_join]
      refine ⟨by simp, ?_⟩
      rw [List.take_append_of_le_length (Nat.le_refl _), List.take_length, glue_pieces]

end Go.Proofs.YthcafeoamabkgaaGreatDoor
