/-
  The library's Split, Cut, Contains and LastIndexByte at one byte, in the words of the plain functions.
-/
import Derived.Test.YthcafeoamabkgaaGreatDoorPure2
namespace Go.Proofs.YthcafeoamabkgaaGreatDoor

theorem index_cons (b c : UInt8) (l : Str) : Lib.index (b :: l) [c] = if b = c then 0 else if Lib.index l [c] = -1 then -1 else Lib.index l [c] + 1 := by
  rw [Lib.index]
  by_cases h : b = c
  · subst h; simp [List.isPrefixOf]
  · have h' : ¬ c = b := fun e => h e.symm
    simp [List.isPrefixOf, h, h']

theorem index_contains (c : UInt8) : ∀ l : Str, (0 ≤ Lib.index l [c]) ↔ l.contains c = true
  | [] => by simp [Lib.index]
  | b :: l => by
    have ih := index_contains c l
    have hge := Lib.index_ge l [c]
    rw [index_cons]
    by_cases h : b = c
    · subst h; simp
    · have h' : ¬ c = b := fun e => h e.symm
      simp only [h, if_false, List.contains_cons, Bool.or_eq_true, beq_iff_eq, h', false_or]
      rw [← ih]
      split <;> omega

theorem contains_eq (c : UInt8) (l : Str) : Lib.contains l [c] = l.contains c := by
  unfold Lib.contains
  have := index_contains c l
  cases h : l.contains c with
  | true => rw [h] at this; simpa using this
  | false => rw [h] at this; simp only [decide_eq_false_iff_not]; intro h0; exact absurd (this.1 h0) (by decide)

theorem index_ahead (c : UInt8) : ∀ l : Str, l.contains c = true → Lib.index l [c] = ((ahead c l).length : Int)
  | [], h => by simp at h
  | b :: l, h => by
    rw [index_cons]
    by_cases e : b = c
    · subst e; simp [ahead]
    · have e' : ¬ c = b := fun x => e x.symm
      have h' : l.contains c = true := by simpa [e'] using h
      have ih := index_ahead c l h'
      have hb : (b != c) = true := by simpa using e
      rw [if_neg e, if_neg (by rw [ih]; omega), ih]
      simp [ahead, hb]

theorem cut_eq (c : UInt8) (l : Str) : Lib.cut l [c] = (ahead c l, behind c l, l.contains c) := by
  unfold Lib.cut
  cases h : l.contains c with
  | true =>
    rw [if_pos ((index_contains c l).2 h), index_ahead c l h]
    have e := ahead_behind c l h
    simp only [Int.toNat_natCast, List.length_cons, List.length_nil, Nat.zero_add, Prod.mk.injEq, and_true]
    have g1 : ∀ a b : Str, (a ++ c :: b).take a.length = a := fun a b => by simp
    have g2 : ∀ a b : Str, (a ++ c :: b).drop (a.length + 1) = b := fun a b => by rw [List.drop_append]; simp
    have h1 := g1 (ahead c l) (behind c l)
    have h2 := g2 (ahead c l) (behind c l)
    rw [← e] at h1 h2
    exact ⟨h1, h2⟩
  | false =>
    rw [if_neg (fun x => by have := (index_contains c l).1 x; rw [h] at this; cases this)]
    obtain ⟨h1, h2⟩ := ahead_none c l h
    rw [h1, h2]

theorem splitK_cons (b c : UInt8) (l : Str) (h : b ≠ c) : ∀ k, ∃ p ps, Lib.splitK [c] 0 k l = p :: ps ∧ Lib.splitK [c] 0 k (b :: l) = (b :: p) :: ps
  | 0 => ⟨l, [], rfl, rfl⟩
  | k + 1 => by
    have hge := Lib.index_ge l [c]
    simp only [Lib.splitK, index_cons, if_neg h]
    by_cases hm : Lib.index l [c] = -1
    · simp only [hm, if_true, beq_self_eq_true]
      exact ⟨l, [], rfl, rfl⟩
    · have e1 : (Lib.index l [c] == -1) = false := by simpa using hm
      have e2 : (Lib.index l [c] + 1 == -1) = false := by simp; omega
      simp only [if_neg hm, e1, e2, Bool.false_eq_true, if_false]
      have e3 : (Lib.index l [c] + 1).toNat = (Lib.index l [c]).toNat + 1 := by omega
      refine ⟨_, _, rfl, ?_⟩
      rw [e3]
      simp

theorem splitK_pieces (c : UInt8) : ∀ l : Str, Lib.splitK [c] 0 (Lib.count l [c]) l = pieces c l
  | [] => by rw [Lib.count_miss (by simp [Lib.index])]; rfl
  | b :: l => by
    have ih := splitK_pieces c l
    by_cases h : b = c
    · subst h
      rw [Lib.count_cons_eq, Nat.add_comm]
      simp only [Lib.splitK, index_cons, if_true]
      simp [pieces, ih]
    · rw [Lib.count_cons_ne b c l h]
      obtain ⟨p, ps, e1, e2⟩ := splitK_cons b c l h (Lib.count l [c])
      rw [e2]
      rw [ih] at e1
      simp [pieces, h, e1]

theorem splitB_pieces (c : UInt8) (s : ByteArray) : Lib.splitB (ba [c]) 0 (Lib.countB s (ba [c])) s = (pieces c s.data.toList).map ba := by
  have h := Lib.splitB_data (ba [c]) 0 (Lib.countB s (ba [c])) s
  have e : Lib.countB s (ba [c]) = Lib.count s.data.toList [c] := rfl
  rw [ba_data] at h
  rw [e] at h ⊢
  rw [splitK_pieces] at h
  rw [← h, List.map_map]
  have : (ba ∘ fun x : ByteArray => x.data.toList) = id := by funext x; exact ba_of x
  rw [this, List.map_id]

theorem pieces_length (c : UInt8) (l : Str) : (pieces c l).length = Lib.count l [c] + 1 := by
  have h := congrArg List.length (splitB_pieces c (ba l))
  rw [List.length_map, ba_data] at h
  rw [← h]
  exact Lib.splitB_all (ba [c]) (by rw [ba_size]; exact Nat.le_refl _) 0 _ _ rfl

theorem pieces_small (c : UInt8) : ∀ (l : Str) (p : Str), p ∈ pieces c l → p.length ≤ l.length
  | [], p, h => by simp [pieces] at h; simp [h]
  | b :: l, p, h => by
    have ih := pieces_small c l
    unfold pieces at h
    split at h
    · rcases List.mem_cons.1 h with rfl | h
      · simp
      · have := ih p h; simp; omega
    · split at h
      · simp at h; simp [h]
      · rename_i q qs e
        rcases List.mem_cons.1 h with rfl | h
        · have := ih q (by rw [e]; simp); simp; omega
        · have := ih p (by rw [e]; simp [h]); simp; omega

theorem pieces_free (c : UInt8) : ∀ (l : Str) (p : Str), p ∈ pieces c l → p.contains c = false
  | [], p, h => by simp [pieces] at h; simp [h]
  | b :: l, p, h => by
    have ih := pieces_free c l
    unfold pieces at h
    split at h
    · rcases List.mem_cons.1 h with rfl | h
      · rfl
      · exact ih p h
    · rename_i hb
      have hb' : ¬ c = b := fun e => hb e.symm
      split at h
      · simp at h; simp [h, hb']
      · rename_i q qs e
        rcases List.mem_cons.1 h with rfl | h
        · have := ih q (by rw [e]; simp)
          simpa [hb'] using this
        · exact ih p (by rw [e]; simp [h])

/-- A text at the last place of a byte. -/
def splitLast (c : UInt8) : Str → Option (Str × Str)
  | [] => none
  | b :: l => match splitLast c l with
    | some (f, t) => some (b :: f, t)
    | none => if b = c then some ([], l) else none

theorem splitLast_none {c : UInt8} : ∀ {l : Str}, splitLast c l = none ↔ l.contains c = false
  | [] => by simp [splitLast]
  | b :: l => by
    have ih := @splitLast_none c l
    rw [splitLast]
    cases h : splitLast c l with
    | some x =>
      have hc : l.contains c = true := by
        cases hc : l.contains c with
        | true => rfl
        | false => rw [ih.2 hc] at h; cases h
      obtain ⟨f, t⟩ := x
      simp only [List.contains_cons, hc, Bool.or_true]
      constructor <;> intro x <;> cases x
    | none =>
      have hc := ih.1 h
      simp only [List.contains_cons, hc, Bool.or_false]
      by_cases e : b = c
      · subst e; simp
      · have e' : ¬ c = b := fun x => e x.symm
        simp [e, e']

theorem splitLast_some {c : UInt8} : ∀ {l f t : Str}, splitLast c l = some (f, t) ↔ l = f ++ c :: t ∧ t.contains c = false
  | [], f, t => by simp [splitLast]
  | b :: l, f, t => by
    rw [splitLast]
    cases h : splitLast c l with
    | some x =>
      obtain ⟨f', t'⟩ := x
      have ih := (@splitLast_some c l f' t').1 h
      simp only [Option.some.injEq, Prod.mk.injEq]
      constructor
      · rintro ⟨rfl, rfl⟩; exact ⟨by rw [ih.1]; rfl, ih.2⟩
      · rintro ⟨e, hc⟩
        cases f with
        | nil =>
          simp only [List.nil_append, List.cons.injEq] at e
          have hl : l.contains c = true := by rw [ih.1]; simp
          rw [e.2, hc] at hl; cases hl
        | cons x f =>
          simp only [List.cons_append, List.cons.injEq] at e
          have := (@splitLast_some c l f t).2 ⟨e.2, hc⟩
          rw [h] at this
          simp only [Option.some.injEq, Prod.mk.injEq] at this
          exact ⟨by rw [e.1, this.1], this.2⟩
    | none =>
      have hc := splitLast_none.1 h
      by_cases e : b = c
      · subst e
        simp only [if_true, Option.some.injEq, Prod.mk.injEq]
        constructor
        · rintro ⟨rfl, rfl⟩; exact ⟨rfl, hc⟩
        · rintro ⟨e, hc'⟩
          cases f with
          | nil => simp only [List.nil_append, List.cons.injEq] at e; exact ⟨rfl, e.2⟩
          | cons x f =>
            simp only [List.cons_append, List.cons.injEq] at e
            rw [e.2] at hc; simp at hc
      · simp only [if_neg e]
        constructor
        · intro x; cases x
        · rintro ⟨e', _⟩
          cases f with
          | nil => simp only [List.nil_append, List.cons.injEq] at e'; exact absurd e'.1 e
          | cons x f =>
            simp only [List.cons_append, List.cons.injEq] at e'
            rw [e'.2] at hc; simp at hc

theorem getBang (l : Str) (j : Nat) (h : j < l.length) : ((ba l).data[j]!) = l[j] := by
  have : (ba l).data = l.toArray := rfl
  rw [this]
  simp [h]

theorem lastIx_eq (c : UInt8) (l : Str) : Lib.lastIndexByte (ba l) (c.toNat : Int) = match splitLast c l with | none => -1 | some (f, _) => (f.length : Int) := by
  have hs := Lib.lastIndexByte_spec (ba l) (c.toNat : Int)
  rw [ba_size] at hs
  cases h : splitLast c l with
  | none =>
    have hc := splitLast_none.1 h
    rcases hs with ⟨h1, _⟩ | ⟨i, hi, _, h3, _⟩
    · exact h1
    · exfalso
      rw [getBang l i hi] at h3
      have h3 : l[i] = c := UInt8.toNat_inj.1 (by omega)
      have : l.contains c = true := by rw [List.contains_iff_mem, ← h3]; exact List.getElem_mem hi
      rw [hc] at this; cases this
  | some x =>
    obtain ⟨f, t⟩ := x
    obtain ⟨e, hc⟩ := splitLast_some.1 h
    have hlen : l.length = f.length + (t.length + 1) := by rw [e]; simp
    have hf : l[f.length]'(by omega) = c := by simp [e]
    rcases hs with ⟨_, h2⟩ | ⟨i, hi, h2, h3, h4⟩
    · exfalso
      refine h2 f.length (by omega) ?_
      rw [getBang l _ (by omega), hf]
    · rw [h2]
      rw [getBang l i hi] at h3
      have h3 : l[i] = c := UInt8.toNat_inj.1 (by omega)
      have hle : ¬ i < f.length := by
        intro hlt
        refine h4 f.length hlt (by omega) ?_
        rw [getBang l _ (by omega), hf]
      by_cases he : i = f.length
      · simp [he]
      · exfalso
        have hge : f.length < i := by omega
        have hix : l[i] = t[i - f.length - 1]'(by omega) := by
          have : l[i]? = t[i - f.length - 1]? := by
            rw [e, List.getElem?_append_right (by omega)]
            have : i - f.length = (i - f.length - 1) + 1 := by omega
            rw [this, List.getElem?_cons_succ]
            simp
          rw [List.getElem?_eq_getElem hi, List.getElem?_eq_getElem (by omega)] at this
          exact Option.some.inj this
        have : t.contains c = true := by rw [List.contains_iff_mem, ← h3, hix]; exact List.getElem_mem _
        rw [hc] at this; cases this

end Go.Proofs.YthcafeoamabkgaaGreatDoor
