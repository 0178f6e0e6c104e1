/-
  What a pattern says, read from the end; rows of Booleans.
-/
import Derived.Test.YthcafeoamabkgaaGreatDoorGlobP
import Derived.Test.YthcafeoamabkgaaGreatDoorVersB
namespace Go.Proofs.YthcafeoamabkgaaGreatDoor
open Go.RowKit

theorem nil_snoc_lit {p : Str} {c : UInt8} (h : c ≠ 42) : matchR (p ++ [c]) [] = false := by
  rw [match_nil]
  simp [h]
theorem nil_snoc_star (p : Str) : matchR (p ++ [42]) [] = matchR p [] := by
  rw [match_nil, match_nil]
  simp

theorem match_snoc {c : UInt8} (hc : c ≠ 42) (d : UInt8) : ∀ (p s : Str), matchR (p ++ [c]) (s ++ [d]) = (matchR p s && standsB c d)
  | [], [] => by
    show matchR (c :: []) (d :: []) = _
    rw [match_lit hc]
    simp [matchR]
  | [], a :: s => by
    show matchR (c :: []) (a :: (s ++ [d])) = _
    rw [match_lit hc]
    simp [matchR]
  | e :: p, s => by
    have ih := match_snoc hc d p
    by_cases he : e = 42
    · subst he
      rw [List.cons_append, match_star, match_star]
      induction s with
      | nil =>
        have h1 := ih []
        simp only [List.nil_append, starAny] at h1 ⊢
        rw [h1, nil_snoc_lit hc]
        simp
      | cons a s ihs =>
        have h1 := ih (a :: s)
        simp only [List.cons_append, starAny] at h1 ⊢
        rw [h1, ihs]
        cases matchR p (a :: s) <;> cases standsB c d <;> cases (a != 47) <;> cases starAny (matchR p) s <;> rfl
    · cases s with
      | nil =>
        rw [List.cons_append, List.nil_append, match_lit he, match_short he, nil_snoc_lit hc]
        simp
      | cons a s =>
        rw [List.cons_append, List.cons_append, match_lit he, match_lit he, ih s, Bool.and_assoc]

theorem star_snoc (d : UInt8) : ∀ (p s : Str), matchR (p ++ [42]) (s ++ [d]) = (matchR p (s ++ [d]) || (matchR (p ++ [42]) s && d != 47))
  | [], s => by
    show matchR (42 :: []) (s ++ [d]) = _
    rw [match_star]
    have h : matchR [] (s ++ [d]) = false := by
      cases s <;> simp [matchR]
    rw [h, List.nil_append, match_star]
    induction s with
    | nil => simp [starAny, matchR]
    | cons a s ih =>
      have ih := ih (by cases s <;> simp [matchR])
      simp only [List.cons_append, starAny] at ih ⊢
      rw [ih]
      simp [matchR, Bool.and_assoc]
  | e :: p, s => by
    have ih := star_snoc d p
    by_cases he : e = 42
    · subst he
      rw [List.cons_append, match_star, match_star]
      induction s with
      | nil =>
        have h1 := ih []
        simp only [List.nil_append, starAny] at h1 ⊢
        rw [h1, nil_snoc_star]
        cases matchR p [d] <;> cases matchR p [] <;> cases (d != 47) <;> rfl
      | cons a s ihs =>
        have h1 := ih (a :: s)
        simp only [List.cons_append, starAny] at h1 ⊢
        rw [h1, ihs]
        cases matchR p (a :: (s ++ [d])) <;> cases matchR (p ++ [42]) (a :: s) <;> cases (d != 47) <;> cases (a != 47) <;> cases starAny (matchR p) (s ++ [d]) <;> cases starAny (matchR (p ++ [42])) s <;> rfl
    · cases s with
      | nil =>
        rw [List.cons_append, List.nil_append, match_lit he, match_lit he, match_short he, nil_snoc_star]
        simp
      | cons a s =>
        rw [List.cons_append, List.cons_append, match_lit he, match_lit he, match_lit he, ih s]
        cases standsB e a <;> simp

/-- A row of Booleans in a block of its own. -/
structure BRow (w : World) (b n : Nat) (f : Nat → Bool) : Prop where
  row : ∃ cs, Blk w b cs 4 ∧ cs.size = n ∧ ∀ i, i < n → cs[i]? = some (.bool (f i))

theorem BRow.cell {w : World} {b n : Nat} {f : Nat → Bool} (h : BRow w b n f) {i : Nat} (hi : i < n) : w.cell? ⟨b, i, none⟩ = some (.bool (f i)) := by
  obtain ⟨cs, k, _, hc⟩ := h.row
  rw [k.cell i, hc i hi]
theorem BRow.free {w : World} {b n : Nat} {f : Nat → Bool} (h : BRow w b n f) (i : Nat) : w.frozen? ⟨b, i, none⟩ = false := by
  obtain ⟨cs, k, _, _⟩ := h.row
  exact k.free i
theorem BRow.lt {w : World} {b n : Nat} {f : Nat → Bool} (h : BRow w b n f) : b < w.heap.size := by
  obtain ⟨cs, k, _, _⟩ := h.row
  exact k.lt
theorem BRow.set {w : World} {b n : Nat} {f : Nat → Bool} (h : BRow w b n f) (i : Nat) (v : Bool) : BRow (w.setCell ⟨b, i, none⟩ (.bool v)) b n (fun j => if j = i then v else f j) := by
  obtain ⟨cs, k, hs, hc⟩ := h.row
  refine ⟨⟨_, k.set i (.bool v), by rw [Array.size_setIfInBounds]; exact hs, fun j hj => ?_⟩⟩
  by_cases e : j = i
  · subst e
    rw [Array.getElem?_setIfInBounds_self_of_lt (by omega), if_pos rfl]
  · rw [Array.getElem?_setIfInBounds_ne (fun e2 => e e2.symm), if_neg e]
    exact hc j hj
theorem BRow.other {w : World} {b n : Nat} {f : Nat → Bool} (h : BRow w b n f) {a : Addr} (hne : b ≠ a.block) (v : Value) : BRow (w.setCell a v) b n f := by
  obtain ⟨cs, k, r⟩ := h.row
  exact ⟨⟨cs, k.other hne v, r⟩⟩
theorem BRow.same {w w' : World} {b n : Nat} {f : Nat → Bool} (h : BRow w b n f) (hs : w'.heap[b]? = w.heap[b]?) : BRow w' b n f := by
  obtain ⟨cs, k, r⟩ := h.row
  exact ⟨⟨cs, hs.trans k, r⟩⟩
theorem BRow.cong {w : World} {b n : Nat} {f g : Nat → Bool} (h : BRow w b n f) (e : ∀ i, i < n → f i = g i) : BRow w b n g := by
  obtain ⟨cs, k, hs, hc⟩ := h.row
  exact ⟨⟨cs, k, hs, fun i hi => by rw [hc i hi, e i hi]⟩⟩
theorem BRow.made {w : World} {b n base : Nat} (h : w.ownsRow base 4 1 (.slice (some ⟨b, 0, none⟩) n n) n (madeCells (Value.bool false).cells (n * 1)).toList) : BRow w b n (fun _ => false) := by
  rcases h.2 with ⟨e, _⟩ | ⟨g, cap, cur, e, hb, hh, hcap, _, hsz, hcur⟩
  · cases e
  · cases e
    refine ⟨⟨cur, hh, by omega, fun i hi => ?_⟩⟩
    have h1 : cur.toList[i]? = (madeCells (Value.bool false).cells (n * 1)).toList[i]? := by rw [← hcur, List.getElem?_take_of_lt (by omega)]
    have h2 : cur[i]? = cur.toList[i]? := by simp
    rw [h2, h1]
    simp [madeCells, Value.cells, hi]
    rw [Nat.mod_one]
    rfl


theorem take_snoc {l : Str} {i : Nat} (h : i < l.length) : l.take (i + 1) = l.take i ++ [l[i]] := by
  rw [List.take_add_one, List.getElem?_eq_getElem h]
  rfl
theorem gl_star {P S : Str} {i k : Nat} (hi : i < P.length) (hk : k < S.length) (hc : P[i] = 42) : matchR (P.take (i + 1)) (S.take (k + 1)) = (matchR (P.take i) (S.take (k + 1)) || (matchR (P.take (i + 1)) (S.take k) && S[k] != 47)) := by
  rw [take_snoc hi, take_snoc hk, hc, star_snoc]
theorem gl_lit {P S : Str} {i k : Nat} (hi : i < P.length) (hk : k < S.length) (hc : P[i] ≠ 42) : matchR (P.take (i + 1)) (S.take (k + 1)) = (matchR (P.take i) (S.take k) && standsB P[i] S[k]) := by
  rw [take_snoc hi, take_snoc hk, match_snoc hc]
/-- The row as it is filled. -/
def gF (P S : Str) (k i : Nat) (j : Nat) : Bool := decide (j ≤ i) && matchR (P.take j) (S.take (k + 1))
theorem gF_zero {P S : Str} {k : Nat} (hk : k < S.length) (j : Nat) : gF P S k 0 j = false := by
  unfold gF
  by_cases h : j = 0
  · subst h
    simp [matchR]
    intro e2
    rw [e2] at hk
    simp at hk
  · have : ¬ j ≤ 0 := by omega
    simp [this]
theorem gF_next {P S : Str} {k i j : Nat} {v : Bool} (hv : matchR (P.take (i + 1)) (S.take (k + 1)) = v) : (if j = i + 1 then v else gF P S k i j) = gF P S k (i + 1) j := by
  unfold gF
  by_cases h : j = i + 1
  · rw [if_pos h, h, hv]; simp
  · rw [if_neg h]
    by_cases h2 : j ≤ i
    · have : j ≤ i + 1 := by omega
      simp [h2, this]
    · have : ¬ j ≤ i + 1 := by omega
      simp [h2, this]
theorem gF_here (P S : Str) (k i : Nat) : gF P S k i i = matchR (P.take i) (S.take (k + 1)) := by simp [gF]
theorem gF_full {P S : Str} {k i j : Nat} (h : j ≤ i) : gF P S k i j = matchR (P.take j) (S.take (k + 1)) := by simp [gF, h]
/-- Behind the first stars. -/
theorem first_row {P : Str} {i : Nat} (ha : (P.take i).all (fun c => c == 42) = true) (hx : ∀ h : i < P.length, P[i] ≠ 42) (j : Nat) (hj : j ≤ P.length) : decide (j ≤ i) = matchR (P.take j) [] := by
  rw [match_nil]
  by_cases h : j ≤ i
  · have e : P.take j = (P.take i).take j := by rw [List.take_take, Nat.min_eq_left h]
    rw [decide_eq_true h, e]
    symm
    rw [List.all_eq_true] at ha ⊢
    exact fun c hc => ha c (List.mem_of_mem_take hc)
  · have hi : i < P.length := by omega
    rw [decide_eq_false h]
    symm
    rw [List.all_eq_false]
    refine ⟨P[i], ?_, by simpa using hx hi⟩
    rw [List.mem_take_iff_getElem]
    exact ⟨i, by omega, rfl⟩

theorem info4 : (Tryz.prog.info? 4).map (fun i => (i.zero, i.size, i.bytes)) = some (some (.bool false), 1, 1) := by kernel_rfl

end Go.Proofs.YthcafeoamabkgaaGreatDoor
