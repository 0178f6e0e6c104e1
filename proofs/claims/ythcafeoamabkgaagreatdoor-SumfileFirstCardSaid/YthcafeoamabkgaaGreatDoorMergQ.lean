/-
  Rising lists of lines are one; a merge, as a plain matter.
-/
import Derived.Test.YthcafeoamabkgaaGreatDoorSortX
import Derived.Lib.SlicesCompact
namespace Go.Proofs.YthcafeoamabkgaaGreatDoor

section
theorem Rising.pairwise {l : List Ln} (h : Rising l) : l.Pairwise (fun a b => ¬ cmpL b a < 0) := by
  rw [List.pairwise_iff_getElem]
  intro i j hi hj hij
  exact h i j hi hj hij

theorem rising_of {l : List Ln} (h : l.Pairwise (fun a b => ¬ cmpL b a < 0)) : Rising l := by
  rw [List.pairwise_iff_getElem] at h
  intro i j hi hj hij
  exact h i j hi hj hij

theorem key_of {x y : Ln} (h1 : ¬ cmpL x y < 0) (h2 : ¬ cmpL y x < 0) : keyL x = keyL y := by
  rw [cmpL_key] at h1 h2
  have t := orders_k.turn (keyL x) (keyL y)
  exact (orders_k.eq _ _).1 (by omega)

/-- Rising lists of the same lines, where no two lines of one key differ. -/
theorem rising_unique {l m : List Ln} (hp : l.Perm m) (hl : Rising l) (hm : Rising m) (hk : ∀ x ∈ l, ∀ y ∈ l, keyL x = keyL y → x = y) : l = m := by
  refine hp.eq_of_pairwise (le := fun a b => ¬ cmpL b a < 0) (fun a b ha hb h1 h2 => ?_) hl.pairwise hm.pairwise
  exact hk a ha b (hp.mem_iff.2 hb) (key_of h2 h1)
end

section
open Go.Lib
instance : DecidableEq Ln := fun x y =>
  decidable_of_iff (x.p = y.p ∧ x.v = y.v ∧ x.k = y.k ∧ x.s = y.s) ⟨fun h => by cases x; cases y; simp_all, fun h => by subst h; exact ⟨rfl, rfl, rfl, rfl⟩⟩

/-- Two lines of one key that differ. -/
def Clash (l : List Ln) : Prop := ∃ x ∈ l, ∃ y ∈ l, keyL x = keyL y ∧ x.s ≠ y.s
def Steep (l : List Ln) : Prop := l.Pairwise (fun a b => cmpL a b < 0)
/-- The lines of a list, each once, rising. -/
def Once (l zs : List Ln) : Prop := Steep zs ∧ ∀ x, x ∈ zs ↔ x ∈ l

theorem ln_eq {x y : Ln} (h : keyL x = keyL y) (hs : x.s = y.s) : x = y := by
  obtain ⟨p, v, k, s⟩ := x
  obtain ⟨p', v', k', s'⟩ := y
  simp only [keyL, Prod.mk.injEq] at h
  simp only at hs
  obtain ⟨⟨rfl, rfl⟩, rfl⟩ := h
  subst hs
  rfl

theorem cmpL_turn (x y : Ln) : cmpL y x = - cmpL x y := by rw [cmpL_key, cmpL_key, orders_k.turn]

theorem steep_unique : ∀ {l m : List Ln}, Steep l → Steep m → (∀ x, x ∈ l ↔ x ∈ m) → l = m
  | [], [], _, _, _ => rfl
  | [], y :: m, _, _, h => by have := (h y).2 (by simp); cases this
  | x :: l, [], _, _, h => by have := (h x).1 (by simp); cases this
  | x :: l, y :: m, hl, hm, h => by
    have hl' := List.pairwise_cons.1 hl
    have hm' := List.pairwise_cons.1 hm
    have self : ∀ z : Ln, ¬ cmpL z z < 0 := fun z => by rw [cmpL_key, orders_k.self]; omega
    have hxy : x = y := by
      have h1 := (h x).1 (by simp)
      have h2 := (h y).2 (by simp)
      rcases List.mem_cons.1 h1 with e | h1
      · exact e
      · rcases List.mem_cons.1 h2 with e | h2
        · exact e.symm
        · have a := hm'.1 x h1
          have b := hl'.1 y h2
          rw [cmpL_turn] at a
          omega
    subst hxy
    have := steep_unique hl'.2 hm'.2 (fun z => by
      constructor
      · intro hz
        rcases List.mem_cons.1 ((h z).1 (List.mem_cons_of_mem _ hz)) with e | h1
        · exact absurd (hl'.1 z hz) (by rw [e]; exact self x)
        · exact h1
      · intro hz
        rcases List.mem_cons.1 ((h z).2 (List.mem_cons_of_mem _ hz)) with e | h1
        · exact absurd (hm'.1 z hz) (by rw [e]; exact self x)
        · exact h1)
    rw [this]

theorem once_unique {l m zs ys : List Ln} (h1 : Once l zs) (h2 : Once m ys) (h : ∀ x, x ∈ l ↔ x ∈ m) : zs = ys :=
  steep_unique h1.1 h2.1 fun x => (h1.2 x).trans ((h x).trans (h2.2 x).symm)

theorem Clash.mem {l m : List Ln} (h : Clash l) (hm : ∀ x, x ∈ l → x ∈ m) : Clash m := by
  obtain ⟨x, hx, y, hy, h1, h2⟩ := h
  exact ⟨x, hm x hx, y, hm y hy, h1, h2⟩

/-- Of lines in a rising order that lie between two of one key. -/
theorem Rising.key {l : List Ln} (h : Rising l) {i j k : Nat} (hi : i < l.length) (hj : j < l.length) (hk : k < l.length) (h1 : i ≤ j) (h2 : j ≤ k) (e : keyL l[i] = keyL l[k]) : keyL l[j] = keyL l[i] := by
  by_cases e1 : i = j
  · subst e1; rfl
  · by_cases e2 : j = k
    · subst e2; exact e.symm
    · have a := h i j hi hj (by omega)
      have b := h j k hj hk (by omega)
      refine key_of a ?_
      rw [cmpL_key] at b ⊢
      rw [e]
      exact b

/-- Neighbours of one key are the same, up to a place. -/
def Calm (l : List Ln) (m : Nat) : Prop := ∀ i (h : i + 1 < l.length), i + 1 < m → keyL l[i] = keyL l[i + 1] → l[i].s = l[i + 1].s

theorem calm_all {l : List Ln} (hr : Rising l) (h : Calm l l.length) : ∀ (d i : Nat) (hi : i + d < l.length), keyL (l[i]'(by omega)) = keyL l[i + d] → (l[i]'(by omega)).s = l[i + d].s
  | 0, i, hi, _ => rfl
  | d + 1, i, hi, e => by
    have hk := hr.key (i := i) (j := i + d) (k := i + (d + 1)) (by omega) (by omega) hi (by omega) (by omega) e
    have ih := calm_all hr h d i (by omega) hk.symm
    have hc := h (i + d) (by omega) (by omega) (by rw [hk, e]; rfl)
    rw [ih, hc]
    rfl

theorem calm_clash {l : List Ln} (hr : Rising l) (h : Calm l l.length) : ¬ Clash l := by
  rintro ⟨x, hx, y, hy, hk, hs⟩
  obtain ⟨i, hi, rfl⟩ := List.mem_iff_getElem.1 hx
  obtain ⟨j, hj, rfl⟩ := List.mem_iff_getElem.1 hy
  rcases Nat.le_total i j with h1 | h1
  · obtain ⟨d, rfl⟩ : ∃ d, j = i + d := ⟨j - i, by omega⟩
    exact hs (calm_all hr h d i hj hk)
  · obtain ⟨d, rfl⟩ : ∃ d, i = j + d := ⟨i - j, by omega⟩
    exact hs (calm_all hr h d j hi hk.symm).symm

theorem clash_at {l : List Ln} {i : Nat} (h : i + 1 < l.length) (hk : keyL l[i] = keyL l[i + 1]) (hs : l[i].s ≠ l[i + 1].s) : Clash l :=
  ⟨l[i], List.getElem_mem _, l[i + 1], List.getElem_mem _, hk, hs⟩

theorem bang {l : List Ln} {i : Nat} (h : i < l.length) : l.toArray[i]! = l[i] := by simp [h]

theorem compact_mem_aux (l : List Ln) : ∀ (i : Nat) (h : i < l.length), l[i] ∈ compactUpTo l.toArray (i + 1)
  | 0, h => by
    rw [compactUpTo_succ, keeps_lt_one _ 0 (by omega), if_pos rfl, bang h]
    simp
  | i + 1, h => by
    rw [compactUpTo_succ]
    cases hk : keeps l.toArray (i + 1) with
    | true => rw [if_pos rfl, bang h]; simp
    | false =>
      have hd : l.toArray[i + 1]! = l.toArray[i]! := by
        unfold keeps at hk
        have := of_decide_eq_false hk
        simp only [not_or, Nat.add_sub_cancel] at this
        exact Classical.not_not.1 this.2
      rw [bang h, bang (by omega)] at hd
      have := compact_mem_aux l i (by omega)
      rw [← hd] at this
      simpa using this

theorem compactUpTo_mono {l : List Ln} {x : Ln} {i : Nat} : ∀ d, x ∈ compactUpTo l.toArray i → x ∈ compactUpTo l.toArray (i + d)
  | 0, h => h
  | d + 1, h => by
    rw [← Nat.add_assoc, compactUpTo_succ]
    exact List.mem_append.2 (Or.inl (compactUpTo_mono d h))

theorem compact_mem (l : List Ln) (x : Ln) : x ∈ compact l ↔ x ∈ l := by
  constructor
  · intro h
    unfold compact compactUpTo at h
    obtain ⟨i, hi, rfl⟩ := List.mem_map.1 h
    have hi' : i < l.length := List.mem_range.1 (List.mem_filter.1 hi).1
    rw [bang hi']
    exact List.getElem_mem _
  · intro h
    obtain ⟨i, hi, rfl⟩ := List.mem_iff_getElem.1 h
    have := compactUpTo_mono (l.length - (i + 1)) (compact_mem_aux l i hi)
    rwa [show i + 1 + (l.length - (i + 1)) = l.length by omega] at this

theorem compact_steep {l : List Ln} (hr : Rising l) (hc : ¬ Clash l) : Steep (compact l) := by
  unfold Steep compact compactUpTo
  rw [List.pairwise_map, List.pairwise_filter]
  refine List.Pairwise.imp_of_mem ?_ List.pairwise_lt_range
  intro i j hi hj hij _ hkj
  have hi' := List.mem_range.1 hi
  have hj' := List.mem_range.1 hj
  rw [bang hi', bang hj']
  have a := hr i j hi' hj' hij
  rw [cmpL_turn] at a
  rcases Int.lt_or_eq_of_le (by omega : cmpL l[i] l[j] ≤ 0) with h | h
  · exact h
  · exfalso
    have e : keyL l[i] = keyL l[j] := by rw [cmpL_key] at h; exact (orders_k.eq _ _).1 h
    have k1 := hr.key (i := i) (j := j - 1) (k := j) hi' (by omega) hj' (by omega) (by omega) e
    have same : l[j - 1]'(by omega) = l[j] := by
      refine ln_eq (by rw [k1, e]) ?_
      exact Classical.not_not.1 fun hs => hc ⟨_, List.getElem_mem (by omega : j - 1 < l.length), _, List.getElem_mem hj', by rw [k1, e], hs⟩
    have : keeps l.toArray j = false := keeps_neg (by omega) (by rw [bang hj', bang (by omega)]; exact same.symm)
    rw [this] at hkj
    cases hkj

theorem compact_once {l : List Ln} (hr : Rising l) (hc : ¬ Clash l) : Once l (compact l) := ⟨compact_steep hr hc, compact_mem l⟩

theorem compact_le (l : List Ln) : (compact l).length ≤ l.length := by
  unfold compact compactUpTo
  rw [List.length_map]
  have := List.length_filter_le (keeps l.toArray) (List.range l.length)
  simpa using this

/-- Of a steep list a line is found by its key. -/
theorem Steep.one {l : List Ln} (h : Steep l) {x y : Ln} (hx : x ∈ l) (hy : y ∈ l) (hk : keyL x = keyL y) : x = y := by
  obtain ⟨i, hi, rfl⟩ := List.mem_iff_getElem.1 hx
  obtain ⟨j, hj, rfl⟩ := List.mem_iff_getElem.1 hy
  have hp := List.pairwise_iff_getElem.1 h
  have e : cmpL l[i] l[j] = 0 := by rw [cmpL_key]; exact (orders_k.eq _ _).2 hk
  rcases Nat.lt_trichotomy i j with h1 | h1 | h1
  · have := hp i j hi hj h1; omega
  · subst h1; rfl
  · have := hp j i hj hi h1
    rw [cmpL_turn] at this
    omega
end

end Go.Proofs.YthcafeoamabkgaaGreatDoor
