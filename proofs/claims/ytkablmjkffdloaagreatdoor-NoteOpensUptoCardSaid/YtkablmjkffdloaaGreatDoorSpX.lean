/-
  Opened notes held against one another: where they are the same.
-/
import Derived.Test.YtkablmjkffdloaaGreatDoorOpeX
import Derived.Test.YtkablmjkffdloaaGreatDoorHedE
import Derived.Test.YtkablmjkffdloaaGreatDoorReaQ
import Derived.Test.YtkablmjkffdloaaGreatDoorNamQ
namespace Go.Proofs.YtkablmjkffdloaaGreatDoor
open Go.RowKit

theorem index_cons (b c : UInt8) (l : Str) : Lib.index (b :: l) [c] = if b = c then 0 else if Lib.index l [c] = -1 then -1 else Lib.index l [c] + 1 := by
  rw [Lib.index]
  by_cases h : b = c
  · subst h; simp [List.isPrefixOf]
  · have h' : ¬ c = b := fun e => h e.symm
    simp [List.isPrefixOf, h, h']

theorem splitK_cons (b c : UInt8) (l : Str) (h : b ≠ c) : ∀ k, ∃ p ps, Lib.splitK [c] 0 k l = p :: ps ∧ Lib.splitK [c] 0 k (b :: l) = (b :: p) :: ps
  | 0 => ⟨l, [], rfl, rfl⟩
  | k + 1 => by
    have hge := Lib.index_ge l [c]
    simp only [Lib.splitK, index_cons, if_neg h]
    by_cases hm : Lib.index l [c] = -1
    · simp only [hm, if_true, beq_self_eq_true]
      exact ⟨l, [], rfl, rfl⟩
    · have e1 : (Lib.index l [c] == -1) = false := by simpa using hm
      have e2 : (Lib.index l [c] + 1 == -1) = false := by simp; omega
      simp only [if_neg hm, e1, e2, Bool.false_eq_true, if_false]
      have e3 : (Lib.index l [c] + 1).toNat = (Lib.index l [c]).toNat + 1 := by omega
      refine ⟨_, _, rfl, ?_⟩
      rw [e3]
      simp

theorem splitK_pieces (c : UInt8) : ∀ l : Str, Lib.splitK [c] 0 (Lib.count l [c]) l = pieces c l
  | [] => by rw [Lib.count_miss (by simp [Lib.index])]; rfl
  | b :: l => by
    have ih := splitK_pieces c l
    by_cases h : b = c
    · subst h
      rw [Lib.count_cons_eq, Nat.add_comm]
      simp only [Lib.splitK, index_cons, if_true]
      simp [pieces, ih]
    · rw [Lib.count_cons_ne b c l h]
      obtain ⟨p, ps, e1, e2⟩ := splitK_cons b c l h (Lib.count l [c])
      rw [e2]
      rw [ih] at e1
      simp [pieces, h, e1]

theorem splitB_pieces (c : UInt8) (s : ByteArray) : Lib.splitB (ba [c]) 0 (Lib.countB s (ba [c])) s = (pieces c s.data.toList).map ba := by
  have h := Lib.splitB_data (ba [c]) 0 (Lib.countB s (ba [c])) s
  have e : Lib.countB s (ba [c]) = Lib.count s.data.toList [c] := rfl
  rw [ba_data] at h
  rw [e] at h ⊢
  rw [splitK_pieces] at h
  rw [← h, List.map_map]
  have : (ba ∘ fun x : ByteArray => x.data.toList) = id := by funext x; exact ba_of x
  rw [this, List.map_id]

theorem pieces_free (c : UInt8) : ∀ (l : Str) (p : Str), p ∈ pieces c l → p.contains c = false
  | [], p, h => by simp [pieces] at h; simp [h]
  | b :: l, p, h => by
    have ih := pieces_free c l
    unfold pieces at h
    split at h
    · rcases List.mem_cons.1 h with rfl | h
      · rfl
      · exact ih p h
    · rename_i hb
      have hb' : ¬ c = b := fun e => hb e.symm
      split at h
      · simp at h; simp [h, hb']
      · rename_i q qs e
        rcases List.mem_cons.1 h with rfl | h
        · have := ih q (by rw [e]; simp)
          simpa [hb'] using this
        · exact ih p (by rw [e]; simp [h])

/-- A text at the last place of a byte. -/
def splitLast (c : UInt8) : Str → Option (Str × Str)
  | [] => none
  | b :: l => match splitLast c l with
    | some (f, t) => some (b :: f, t)
    | none => if b = c then some ([], l) else none


theorem parts_pieces (x : Bs) : partsL x = pieces 10 x := by
  unfold partsL partsB
  rw [splitB_pieces, List.map_map, ba_data]
  have : ((fun p : ByteArray => p.data.toList) ∘ ba) = id := by funext x; rfl
  rw [this, List.map_id]
/-- Lines, each with its newline. -/
def joinL (P : List Bs) : Bs := P.flatMap fun l => l ++ [10]
theorem joinL_app (a b : List Bs) : joinL (a ++ b) = joinL a ++ joinL b := by unfold joinL; rw [List.flatMap_append]
theorem join_glue : ∀ (P : List Bs), P ≠ [] → joinL P = glue 10 P ++ [10]
  | [], h => absurd rfl h
  | [p], _ => by simp [joinL, glue]
  | p :: q :: r, _ => by
    have ih := join_glue (q :: r) (by simp)
    have e : joinL (p :: q :: r) = (p ++ [10]) ++ joinL (q :: r) := by simp [joinL]
    rw [e, ih]
    simp [glue]
theorem pieces_glue : ∀ (P : List Bs), P ≠ [] → (∀ p ∈ P, (10 : UInt8) ∉ p) → pieces 10 (glue 10 P) = P
  | [], h, _ => absurd rfl h
  | [p], _, hp => by simp only [glue]; exact pieces_one 10 p (not_contains (hp p (by simp)))
  | p :: q :: r, _, hp => by
    have ih := pieces_glue (q :: r) (by simp) (fun x hx => hp x (by simp at hx ⊢; exact Or.inr hx))
    have e : glue 10 (p :: q :: r) = p ++ 10 :: glue 10 (q :: r) := by simp [glue]
    rw [e, pieces_join, pieces_one 10 p (not_contains (hp p (by simp))), ih]
    rfl
theorem join_pieces (x : Bs) : joinL (pieces 10 x) = x ++ [10] := by rw [join_glue _ (pieces_ne _ _), glue_pieces]

/-- Two newlines, one behind the other. -/
def hasNN : Bs → Bool
  | [] => false
  | [_] => false
  | a :: b :: r => (decide (a = 10) && decide (b = 10)) || hasNN (b :: r)
theorem nn_tail (a : UInt8) (r : Bs) (h : hasNN r = true) : hasNN (a :: r) = true := by
  cases r with
  | nil => simp [hasNN] at h
  | cons b r => simp [hasNN, h]
theorem nn_drop : ∀ (j : Nat) (l : Bs), hasNN (l.drop j) = true → hasNN l = true
  | 0, l, h => by simpa using h
  | j + 1, [], h => by simpa using h
  | j + 1, a :: l, h => nn_tail a l (nn_drop j l (by simpa using h))
theorem nn_occ {l : Bs} {j : Nat} (h : Lib.occAt l [10, 10] j = true) : hasNN l = true := by
  refine nn_drop j l ?_
  unfold Lib.occAt at h
  rw [List.isPrefixOf_iff_prefix] at h
  obtain ⟨r, hr⟩ := h
  rw [← hr]
  simp [hasNN]
theorem nn_line (r : Bs) : ∀ (v : Bs), (10 : UInt8) ∉ v → v ≠ [] → hasNN (v ++ 10 :: r) = hasNN (10 :: r)
  | [], _, h => absurd rfl h
  | [x], h, _ => by
    have hx : x ≠ 10 := fun e => h (by simp [e])
    show hasNN (x :: 10 :: r) = _
    simp [hasNN, hx]
  | x :: y :: v, h, _ => by
    have hx : x ≠ 10 := fun e => h (by simp [e])
    have ih := nn_line r (y :: v) (fun e => h (by simp at e ⊢; exact Or.inr e)) (by simp)
    show hasNN (x :: y :: (v ++ 10 :: r)) = _
    simp only [hasNN, hx, decide_false, Bool.false_and, Bool.false_or]
    exact ih
theorem nn_join : ∀ (V : List Bs), (∀ v ∈ V, (10 : UInt8) ∉ v ∧ v ≠ []) → hasNN (10 :: joinL V) = false
  | [], _ => by simp [joinL, hasNN]
  | v :: V, h => by
    obtain ⟨h1, h2⟩ := h v (by simp)
    have ih := nn_join V (fun x hx => h x (by simp [hx]))
    have e : joinL (v :: V) = v ++ 10 :: joinL V := by simp [joinL]
    rw [e]
    obtain ⟨x, v', rfl⟩ : ∃ x v', v = x :: v' := by
      cases v with
      | nil => exact absurd rfl h2
      | cons x v' => exact ⟨x, v', rfl⟩
    have hx : x ≠ 10 := fun e => h1 (by simp [e])
    have e2 : hasNN (10 :: ((x :: v') ++ 10 :: joinL V)) = hasNN ((x :: v') ++ 10 :: joinL V) := by
      show hasNN (10 :: x :: (v' ++ 10 :: joinL V)) = _
      simp [hasNN, hx]
    rw [e2, nn_line _ _ h1 h2]
    exact ih
theorem line_nil : lineR [] = none := by decide +kernel

/-- Where the lines part. -/
theorem last_is {A V : List Bs} (hA : A ≠ []) (hV : ∀ v ∈ V, (10 : UInt8) ∉ v ∧ v ≠ []) : Lib.lastIndex (joinL A ++ 10 :: joinL V) [10, 10] = (((joinL A).length - 1 : Nat) : Int) ∧ 1 ≤ (joinL A).length ∧ ∃ t0, joinL A = t0 ++ [10] := by
  have hg := join_glue A hA
  obtain ⟨t0, ht0⟩ : ∃ t0, glue 10 A = t0 := ⟨_, rfl⟩
  rw [ht0] at hg
  have hl : (joinL A).length = t0.length + 1 := by rw [hg]; simp
  refine ⟨?_, by omega, t0, hg⟩
  have es : joinL A ++ 10 :: joinL V = t0 ++ (10 :: 10 :: joinL V) := by rw [hg]; simp
  rw [es, hl, Nat.add_sub_cancel]
  have hlen : (t0 ++ (10 :: 10 :: joinL V)).length = t0.length + 2 + (joinL V).length := by simp; omega
  have hocc : Lib.occAt (t0 ++ (10 :: 10 :: joinL V)) [10, 10] t0.length = true := by
    unfold Lib.occAt
    rw [List.isPrefixOf_iff_prefix, List.drop_left]
    exact ⟨joinL V, rfl⟩
  unfold Lib.lastIndex
  rw [if_pos (by rw [hlen]; simp; omega)]
  rcases Lib.lastOcc_spec (t0 ++ (10 :: 10 :: joinL V)) [10, 10] ((t0 ++ (10 :: 10 :: joinL V)).length - [10, 10].length + 1) with ⟨_, hno⟩ | ⟨i, hi, e, ho, hlast⟩
  · have := hno t0.length (by rw [hlen]; simp; omega)
    rw [hocc] at this
    cases this
  · refine e.trans ?_
    by_cases h1 : i = t0.length
    · rw [h1]
    · exfalso
      by_cases h2 : i < t0.length
      · have := hlast t0.length h2 (by rw [hlen]; simp; omega)
        rw [hocc] at this
        cases this
      · have h3 : Lib.occAt (10 :: joinL V) [10, 10] (i - (t0.length + 1)) = true := by
          unfold Lib.occAt at ho ⊢
          have e3 : (t0 ++ (10 :: 10 :: joinL V)).drop i = (10 :: joinL V).drop (i - (t0.length + 1)) := by
            have e4 : t0 ++ (10 :: 10 :: joinL V) = (t0 ++ [10]) ++ (10 :: joinL V) := by simp
            rw [e4, List.drop_append, List.drop_of_length_le (by simp; omega)]
            simp
          rw [e3] at ho
          exact ho
        have := nn_occ h3
        rw [nn_join V hV] at this
        cases this

theorem mark_ne {v : Bs} (h : (lineR v).isSome = true) : v ≠ [] := fun e => by rw [e, line_nil] at h; cases h
/-- The lines of a note that parts. -/
theorem split_yes {s0 : Bs} {A V : List Bs} (hP : pieces 10 s0 = A ++ [[]] ++ V) (hA : A ≠ []) (hV0 : V ≠ []) (hV : ∀ v ∈ V, (lineR v).isSome = true) :
    splitR (s0 ++ [10]) = if textB (joinL A) = true then (match mapL V with | none => none | some L => some (joinL A, L)) else none := by
  have hfree := pieces_free 10 s0
  have hV1 : ∀ v ∈ V, (10 : UInt8) ∉ v ∧ v ≠ [] := fun v hv => ⟨fun e => by
    have := hfree v (by rw [hP]; simp [hv])
    simp at this
    exact this e, mark_ne (hV v hv)⟩
  have hs : s0 ++ [10] = joinL A ++ 10 :: joinL V := by
    rw [← join_pieces, hP, joinL_app, joinL_app]
    simp [joinL]
  obtain ⟨h1, h2, t0, h3⟩ := last_is (V := V) hA hV1
  unfold splitR
  rw [hs, h1, if_neg (by omega)]
  simp only [Int.toNat_natCast]
  have e1 : (joinL A).length - 1 + 1 = (joinL A).length := by omega
  have e2 : (joinL A).length - 1 + 2 = (joinL A).length + 1 := by omega
  rw [e1, e2, List.take_left]
  have e3 : (joinL A ++ 10 :: joinL V).drop ((joinL A).length + 1) = joinL V := by
    rw [List.drop_append, List.drop_of_length_le (by omega)]
    simp
  rw [e3]
  have e4 : linesR (joinL V) = mapL V := by
    have hg := join_glue V hV0
    unfold linesR
    have hsuf : Lib.hasSuffix (joinL V) [10] = true := by
      unfold Lib.hasSuffix
      rw [List.isSuffixOf_iff_suffix, hg]
      exact ⟨_, rfl⟩
    rw [if_pos hsuf]
    have htr : Lib.trimSuffix (joinL V) [10] = glue 10 V := by
      unfold Lib.trimSuffix
      rw [if_pos hsuf, hg]
      simp
    rw [htr, parts_pieces, pieces_glue V hV0 (fun v hv => (hV1 v hv).1)]
  rw [e4]
  rfl
theorem mapL_some : ∀ (P : List Bs) (q : List (Bs × Bs)), mapL P = some q → ∀ v ∈ P, (lineR v).isSome = true
  | [], q, _, v, hv => by cases hv
  | l :: r, q, h, v, hv => by
    simp only [mapL] at h
    cases hl : lineR l with
    | none => rw [hl] at h; cases h
    | some p =>
      rw [hl] at h
      cases hr : mapL r with
      | none => rw [hr] at h; cases h
      | some q' =>
        rcases List.mem_cons.1 hv with rfl | h2
        · rw [hl]; rfl
        · exact mapL_some r q' hr v h2
/-- A note that is parted has such lines. -/
theorem split_lines {s : Bs} {T : Bs} {L : List (Bs × Bs)} (h : splitR s = some (T, L)) : ∃ s0 A V, s = s0 ++ [10] ∧ pieces 10 s0 = A ++ [[]] ++ V ∧ A ≠ [] ∧ V ≠ [] ∧ (∀ v ∈ V, (lineR v).isSome = true) ∧ T = joinL A ∧ textB T = true ∧ mapL V = some L := by
  have h' := h
  unfold splitR at h
  rcases last_spec s with e | ⟨m, e, hm, ho⟩
  · rw [e] at h; simp at h
  · rw [e, if_neg (by omega)] at h
    simp only [Int.toNat_natCast] at h
    split at h
    · rename_i htb
      cases hl : linesR (s.drop (m + 2)) with
      | none => rw [hl] at h; cases h
      | some L' =>
        rw [hl] at h
        simp only [Option.some.injEq, Prod.mk.injEq] at h
        obtain ⟨rfl, rfl⟩ := h
        have hl' := hl
        unfold linesR at hl
        split at hl
        · rename_i hsuf
          unfold Lib.hasSuffix at hsuf
          rw [List.isSuffixOf_iff_suffix] at hsuf
          obtain ⟨r0, hr0⟩ := hsuf
          have htr : Lib.trimSuffix (s.drop (m + 2)) [10] = r0 := by
            unfold Lib.trimSuffix
            rw [if_pos (by unfold Lib.hasSuffix; rw [List.isSuffixOf_iff_suffix]; exact ⟨r0, hr0⟩), ← hr0]
            simp
          rw [htr, parts_pieces] at hl
          have hts : Lib.hasSuffix (s.take (m + 1)) [10] = true := by
            unfold textB at htb
            simp only [Bool.and_eq_true] at htb
            exact htb.2
          unfold Lib.hasSuffix at hts
          rw [List.isSuffixOf_iff_suffix] at hts
          obtain ⟨t0, ht0⟩ := hts
          obtain ⟨r, hr⟩ := split_front h'
          have hdr : s.drop (m + 2) = r := by
            have hlen : (s.take (m + 1)).length = m + 1 := by rw [List.length_take]; omega
            conv => lhs; rw [hr]
            have hl9 : m + 2 = (s.take (m + 1) ++ [10]).length := by rw [List.length_append, hlen]; rfl
            rw [hl9, List.drop_left]
          have hs : s = (t0 ++ 10 :: ([] ++ 10 :: r0)) ++ [10] := by
            rw [hr, ← hdr, ← hr0, ← ht0]
            simp
          refine ⟨t0 ++ 10 :: ([] ++ 10 :: r0), pieces 10 t0, pieces 10 r0, hs, ?_, pieces_ne _ _, pieces_ne _ _, mapL_some _ _ hl, ?_, htb, hl⟩
          · rw [pieces_join, pieces_join]
            simp [pieces]
          · rw [join_pieces, ht0]
        · cases hl
    · cases h
end Go.Proofs.YtkablmjkffdloaaGreatDoor

namespace Go.Proofs.YtkablmjkffdloaaGreatDoor
open Go.RowKit

theorem suffix_none {s : Bs} (h : Lib.hasSuffix s [10] = false) : splitR s = none := by
  cases hs : splitR s with
  | none => rfl
  | some TL =>
    obtain ⟨T, L⟩ := TL
    obtain ⟨s0, A, V, e, -⟩ := split_lines hs
    exfalso
    rw [Bool.eq_false_iff] at h
    apply h
    unfold Lib.hasSuffix
    rw [List.isSuffixOf_iff_suffix, e]
    exact ⟨s0, rfl⟩
theorem part_uniq {U A V V2 : List Bs} {x y : Bs} (hx : lineR x = none) (hy : lineR y = none) (hV : ∀ v ∈ V, (lineR v).isSome = true) (hV2 : ∀ v ∈ V2, (lineR v).isSome = true) (h : U ++ x :: V = A ++ y :: V2) : U = A ∧ x = y ∧ V = V2 := by
  rcases List.append_eq_append_iff.1 h with ⟨C, h1, h2⟩ | ⟨C, h1, h2⟩
  · cases C with
    | nil =>
      simp at h1 h2
      exact ⟨h1.symm, h2.1, h2.2⟩
    | cons z C =>
      simp at h2
      have := hV y (by rw [h2.2]; simp)
      rw [hy] at this
      cases this
  · cases C with
    | nil =>
      simp at h1 h2
      exact ⟨h1, h2.1.symm, h2.2.symm⟩
    | cons z C =>
      simp at h2
      have := hV2 x (by rw [h2.2]; simp)
      rw [hx] at this
      cases this
theorem split_at {s0 T : Bs} {L : List (Bs × Bs)} (h : splitR (s0 ++ [10]) = some (T, L)) : ∃ A V, pieces 10 s0 = A ++ [[]] ++ V ∧ A ≠ [] ∧ V ≠ [] ∧ (∀ v ∈ V, (lineR v).isSome = true) := by
  obtain ⟨s1, A, V, e, hP, hA, hV0, hV, -⟩ := split_lines h
  have : s0 = s1 := List.append_cancel_right e
  subst this
  exact ⟨A, V, hP, hA, hV0, hV⟩
/-- All lines are marks: there is no text. -/
theorem split_all {s0 : Bs} (hV : ∀ v ∈ pieces 10 s0, (lineR v).isSome = true) : splitR (s0 ++ [10]) = none := by
  cases hs : splitR (s0 ++ [10]) with
  | none => rfl
  | some TL =>
    obtain ⟨T, L⟩ := TL
    obtain ⟨A, V, hP, -⟩ := split_at hs
    have := hV [] (by rw [hP]; simp)
    rw [line_nil] at this
    cases this
/-- The last line that is no mark is not an empty one with lines on both sides. -/
theorem split_no {s0 x : Bs} {U V : List Bs} (hP : pieces 10 s0 = U ++ x :: V) (hx : lineR x = none) (hV : ∀ v ∈ V, (lineR v).isSome = true) (hno : V = [] ∨ U = [] ∨ x ≠ []) : splitR (s0 ++ [10]) = none := by
  cases hs : splitR (s0 ++ [10]) with
  | none => rfl
  | some TL =>
    obtain ⟨T, L⟩ := TL
    obtain ⟨A, V2, hP2, hA, hV0, hV2⟩ := split_at hs
    have e : U ++ x :: V = A ++ [] :: V2 := by rw [← hP, hP2]; simp
    obtain ⟨h1, h2, h3⟩ := part_uniq hx line_nil hV hV2 e
    exfalso
    rcases hno with h | h | h
    · exact hV0 (h3 ▸ h)
    · exact hA (h1 ▸ h)
    · exact h h2
theorem mapL_all : ∀ (V : List Bs), (∀ v ∈ V, (lineR v).isSome = true) → ∃ L, mapL V = some L
  | [], _ => ⟨[], rfl⟩
  | v :: V, h => by
    obtain ⟨L, hL⟩ := mapL_all V (fun x hx => h x (by simp [hx]))
    obtain ⟨p, hp⟩ := Option.isSome_iff_exists.1 (h v (by simp))
    exact ⟨p :: L, by simp [mapL, hp, hL]⟩
theorem join_len : ∀ (P : List Bs), P.length ≤ (joinL P).length
  | [] => Nat.le_refl _
  | p :: P => by
    have ih := join_len P
    have e : joinL (p :: P) = (p ++ [10]) ++ joinL P := by simp [joinL]
    rw [e]
    simp
    omega
theorem pieces_count (x : Bs) : (pieces 10 x).length ≤ x.length + 1 := by
  have := join_len (pieces 10 x)
  rw [join_pieces] at this
  simpa using this
end Go.Proofs.YtkablmjkffdloaaGreatDoor

namespace Go.Proofs.YtkablmjkffdloaaGreatDoor
open Go.RowKit

theorem let_no32 (n : Nat) : letN n ≠ 32 := by
  by_cases h : n < 64
  · have : ∀ k : Fin 64, letN k.val ≠ 32 := by decide +kernel
    exact this ⟨n, h⟩
  · unfold letN
    have h64 : lettersB.data.toList.length = 64 := by decide +kernel
    rw [List.getD_eq_getElem?_getD, List.getElem?_eq_none (by omega)]
    decide
theorem lets_no32 (n k : Nat) : (32 : UInt8) ∉ lets n k := fun h => by
  have h2 := List.mem_of_mem_take h
  simp at h2
  rcases h2 with e | e | e | e
  · exact let_no32 _ e.symm
  · exact let_no32 _ e.symm
  · exact let_no32 _ e.symm
  · exact let_no32 _ e.symm
theorem grp_no32 (g : Bs) : (32 : UInt8) ∉ grp g := by
  unfold grp
  split
  · simp; exact lets_no32 _ _
  · simp; exact lets_no32 _ _
  · exact lets_no32 _ _
  · simp
theorem b64_no32 : ∀ r : Bs, (32 : UInt8) ∉ b64 r
  | [] => by simp [b64]
  | [a] => by simp only [b64]; exact grp_no32 _
  | [a, b] => by simp only [b64]; exact grp_no32 _
  | a :: b :: c :: r => by
    simp only [b64, List.mem_append]
    rintro (h | h)
    · exact grp_no32 _ h
    · exact b64_no32 r h

/-- What a line says, by its pieces. -/
def markR (l : Bs) : Option (Bs × Bs) :=
  if Lib.hasPrefix l dashB = true then
    (match pieces 32 (l.drop 4) with
      | [p, q] => if nameB p = true then (match fromL q with | none => none | some b => if 5 ≤ b.length then some (p, b) else none) else none
      | _ => none)
  else none
theorem first_of (c : UInt8) : ∀ R : Bs, c ∉ R ∨ ∃ a b, R = a ++ c :: b ∧ c ∉ a
  | [] => Or.inl (by simp)
  | x :: R => by
    by_cases h : x = c
    · subst h; exact Or.inr ⟨[], R, rfl, by simp⟩
    · rcases first_of c R with h1 | ⟨a, b, rfl, h2⟩
      · exact Or.inl (by simp only [List.mem_cons, not_or]; exact ⟨fun e => h e.symm, h1⟩)
      · exact Or.inr ⟨x :: a, b, rfl, by simp only [List.mem_cons, not_or]; exact ⟨fun e => h e.symm, h2⟩⟩
theorem mark_line (l : Bs) : markR l = lineR l := by
  unfold markR lineR
  cases hp : Lib.hasPrefix l dashB with
  | false => simp
  | true =>
    have hR : Lib.trimPrefix l dashB = l.drop 4 := by unfold Lib.trimPrefix; rw [if_pos hp]; rfl
    rw [hR]
    obtain ⟨R, hRR⟩ : ∃ R, l.drop 4 = R := ⟨_, rfl⟩
    rw [hRR]
    rcases first_of 32 R with h | ⟨a, b, rfl, h⟩
    · rw [cut_no h, pieces_one 32 R (not_contains h)]
      simp
    · have hc : Lib.cut (a ++ 32 :: b) [32] = (a, b, true) := cut_at (r := []) h
      rw [hc]
      have hpj : pieces 32 (a ++ 32 :: b) = a :: pieces 32 b := by rw [pieces_join, pieces_one 32 a (not_contains h)]; rfl
      rw [hpj]
      simp only [Bool.true_and, if_true]
      rcases first_of 32 b with h2 | ⟨a2, b2, hb, h2⟩
      · rw [pieces_one 32 b (not_contains h2)]
        rfl
      · have hn : fromL b = none := by
          cases hf : fromL b with
          | none => rfl
          | some x =>
            have := from_some hf
            exact absurd (by rw [this, hb]; simp) (b64_no32 x)
        have hpj2 : pieces 32 b = a2 :: pieces 32 b2 := by rw [hb, pieces_join, pieces_one 32 a2 (not_contains h2)]; rfl
        rw [hpj2, hn]
        cases hq : pieces 32 b2 with
        | nil => exact absurd hq (pieces_ne _ _)
        | cons x y => simp

set_option maxRecDepth 100000 in
set_option maxHeartbeats 2000000 in
theorem begins_dash {l : Bs} (hl : l.length ≤ 1000000) (w : World) : Calls Tryz.prog 68 #[.string (ba l), .string ⟨#[226, 128, 148, 32]⟩] w fun e w' => e = .returned (.bool (Lib.hasPrefix l dashB)) ∧ w' = w := by
  obtain ⟨n, hn⟩ : ∃ n, l.length = n := ⟨_, rfl⟩
  have z1 : (ba l).size = n := by rw [ba_size]; exact hn
  have hn2 : n ≤ 1000000 := by omega
  by_cases h4 : 4 ≤ n
  · have i4 : (4 : Int) ≤ (n : Int) := by omega
    have x1 : (ba l).extract 0 4 = ba (l.take 4) := by rw [sub_of]; simp
    obtain ⟨q, hq⟩ : ∃ q, ((ba (l.take 4)).toList == [226, 128, 148, 32]) = q := ⟨_, rfl⟩
    have HF : Hid (Lib.hasPrefix l dashB = q) := hide (by
      rw [← hq, Lib.toList_data, ba_data, Bool.eq_iff_iff, beq_iff_eq]
      unfold Lib.hasPrefix
      rw [List.isPrefixOf_iff_prefix]
      constructor
      · rintro ⟨r, hr⟩; rw [← hr]; rfl
      · intro e; exact ⟨l.drop 4, by have := List.take_append_drop 4 l; rw [e] at this; exact this⟩)
    clear hn hl
    go_enter Tryz.func68, Tryz.ntmps68
    go_wp2
    go_ret
    exact ⟨by rw [unhide HF]; rfl, rfl⟩
  · have i4 : ¬ (4 : Int) ≤ (n : Int) := by omega
    have HF : Hid (Lib.hasPrefix l dashB = false) := hide (by
      rw [Bool.eq_false_iff]
      unfold Lib.hasPrefix
      intro e
      rw [List.isPrefixOf_iff_prefix] at e
      have := e.length_le
      simp [dashB] at this
      omega)
    clear hn hl
    go_enter Tryz.func68, Tryz.ntmps68
    go_wp2
    go_ret
    exact ⟨by rw [unhide HF]; rfl, rfl⟩

def MarkSaid (base : Nat) (l : Bs) (e : Ending) (w' : World) : Prop :=
  (lineR l = none ∧ ∃ t a n c, e = .returned (.tuple #[.string t, .slice a n c, .bool false])) ∨ ∃ nm b g n c, lineR l = some (nm, b) ∧ b.length = n ∧ e = .returned (.tuple #[.string (ba nm), .slice (some ⟨g, 0, none⟩) n c, .bool true]) ∧ OwnB base w' (.slice (some ⟨g, 0, none⟩) n c) b

set_option maxRecDepth 100000 in
set_option maxHeartbeats 4000000 in
theorem mark_any {w : World} {l : Bs} (hl : l.length ≤ 200000) : Calls Tryz.prog 114 #[.string (ba l)] w fun e w' => MarkSaid w.heap.size l e w' ∧ Below w.heap.size w w' := by
  have KB := hide (fun W => begins_dash (l := l) (by omega) W)
  obtain ⟨n, hn⟩ : ∃ n, l.length = n := ⟨_, rfl⟩
  have hsz : (ba l).size = n := by rw [ba_size]; exact hn
  have hm := mark_line l
  unfold markR at hm
  obtain ⟨hp, hpp⟩ : ∃ hp, Lib.hasPrefix l dashB = hp := ⟨_, rfl⟩
  rw [hpp] at KB hm
  cases hp with
  | false =>
    have HF : Hid (lineR l = none) := hide (by rw [← hm]; rfl)
    clear hm hpp hn hl
    go_enter Tryz.func114, Tryz.ntmps114
    go_wp2_with (go_at_call 68; refine (unhide KB _).mono ?_; rintro e wn ⟨rfl, hwn⟩; rw [hwn]; clear hwn wn)
    exact bodyPost_ret (v := .tuple #[.string ⟨#[]⟩, .slice none 0 0, .bool false]) (by simp [results, Tryz.results114, go_sem]) rfl ⟨Or.inl ⟨unhide HF, _, _, _, _, rfl⟩, Below.refl _ _⟩
  | true =>
    rw [if_pos rfl] at hm
    have hn4 : 4 ≤ n := by
      unfold Lib.hasPrefix at hpp
      rw [List.isPrefixOf_iff_prefix] at hpp
      have := hpp.length_le
      simp [dashB] at this
      omega
    have i4 : (4 : Int) ≤ (n : Int) := by omega
    obtain ⟨R, hR⟩ : ∃ R, l.drop 4 = R := ⟨_, rfl⟩
    have x1 : (ba l).extract 4 n = ba R := by rw [sub_of, ← hR, List.take_of_length_le (by rw [List.length_drop]; omega)]
    have hRl : R.length ≤ 200000 := by rw [← hR, List.length_drop]; omega
    rw [hR] at hm
    have hps := pieces_short 32 R
    have KC : Hid (Calls Tryz.prog 100 #[.string (ba R), .int .u8 32] w fun e w' => ∃ B cp, e = .returned (.slice (some ⟨B, 0, none⟩) (pieces 32 R).length cp) ∧ Texts w' B (pieces 32 R) ∧ (B < w'.heap.size ∧ w.heap.size ≤ B) ∧ Below w.heap.size w w') := hide (refCut_any 32 (by omega) w)
    obtain ⟨ps, hpe⟩ : ∃ ps, pieces 32 R = ps := ⟨_, rfl⟩
    rw [hpe] at KC hm hps
    obtain ⟨q, hq⟩ : ∃ q, ps.length = q := ⟨_, rfl⟩
    rw [hq] at KC
    have hn2 : n ≤ 200000 := by omega
    by_cases h2 : q = 2
    · subst h2
      obtain ⟨p0, p1, rfl⟩ : ∃ p0 p1, ps = [p0, p1] := by
        match ps, hq with
        | [p0, p1], _ => exact ⟨p0, p1, rfl⟩
      simp only at hm
      have hl0 : p0.length ≤ 200000 := Nat.le_trans (hps p0 (by simp)) hRl
      have hl1 : p1.length ≤ 200000 := Nat.le_trans (hps p1 (by simp)) hRl
      obtain ⟨nb, hnb⟩ : ∃ nb, nameB p0 = nb := ⟨_, rfl⟩
      rw [hnb] at hm
      have KN : Hid (∀ W, Calls Tryz.prog 152 #[.string (ba p0)] W fun e w' => e = .returned (.bool nb) ∧ w' = W) := hide (fun W => by have k := refName_all (l := p0) (by omega) W; rw [hnb] at k; exact k)
      have KF : Hid (∀ W, Calls Tryz.prog 37 #[.string (ba p1)] W fun e w' => ∃ v, e = .returned (.tuple #[v, .int .i64 (fromE p1)]) ∧ OwnB W.heap.size w' v (fromV p1) ∧ Below W.heap.size W w') := hide (fun W => refFrom_any (w := W) (s := p1) (by omega))
      cases nb with
      | false =>
        have HF : Hid (lineR l = none) := hide (by rw [← hm]; rfl)
        clear hm hpp hn hl hn4 hR hRl hps hpe hq hl0 hl1 hnb KF
        go_enter Tryz.func114, Tryz.ntmps114
        go_wp2_with (first
          | (go_at_call 68; refine (unhide KB _).mono ?_; rintro e wn ⟨rfl, hwn⟩; rw [hwn]; clear hwn wn)
          | (go_at_call 100; fail))
        refine (unhide KC).mono ?_
        rintro e w1 ⟨B, cp, rfl, tx, -, b1⟩
        have t0 : w1.cell? ⟨B, 0, none⟩ = some (.string (ba p0)) := tx 0 (by simp)
        have HB1 := hide b1
        clear tx b1 KC
        go_wp2_with (go_at_call 152; refine (unhide KN _).mono ?_; rintro e wn ⟨rfl, hwn⟩; rw [hwn]; clear hwn wn)
        exact bodyPost_ret (v := .tuple #[.string ⟨#[]⟩, .slice none 0 0, .bool false]) (by simp [results, Tryz.results114, go_sem]) rfl ⟨Or.inl ⟨unhide HF, _, _, _, _, rfl⟩, unhide HB1⟩
      | true =>
        rw [if_pos rfl] at hm
        have HM := hide hm
        clear hm hpp hn hl hn4 hR hRl hps hpe hq hl0 hl1 hnb
        go_enter Tryz.func114, Tryz.ntmps114
        go_wp2_with (first
          | (go_at_call 68; refine (unhide KB _).mono ?_; rintro e wn ⟨rfl, hwn⟩; rw [hwn]; clear hwn wn)
          | (go_at_call 100; fail))
        refine (unhide KC).mono ?_
        rintro e w1 ⟨B, cp, rfl, tx, -, b1⟩
        have t0 : w1.cell? ⟨B, 0, none⟩ = some (.string (ba p0)) := tx 0 (by simp)
        have t1 : w1.cell? ⟨B, 1, none⟩ = some (.string (ba p1)) := tx 1 (by simp)
        have HB1 := hide b1
        have HT0 := hide t0
        clear tx b1 KC
        go_wp2_with (first
          | (go_at_call 152; refine (unhide KN _).mono ?_; rintro e wn ⟨rfl, hwn⟩; rw [hwn]; clear hwn wn)
          | (go_at_call 37; fail))
        refine (unhide KF _).mono ?_
        rintro e w3 ⟨v3, rfl, o3, b3⟩
        have t3 : w3.cell? ⟨B, 0, none⟩ = some (.string (ba p0)) := (b3.cell (lt_of_cell (unhide HT0))).trans (unhide HT0)
        have HZ := hide (low_trans (unhide HB1) b3)
        have ho := OwnB.less (unhide HB1).size o3
        clear b3 o3 t0 t1 KN KB KF
        cases hfr : fromL p1 with
        | none =>
          have hfe : fromE p1 = 15 := by unfold fromE; rw [hfr]; rfl
          have HF : Hid (lineR l = none) := hide (by rw [← unhide HM, hfr])
          obtain ⟨a3, c3, hv3, -, -, -⟩ := OwnB.at ho
          rw [hfe, hv3]
          obtain ⟨n3, hn3⟩ : ∃ n3, (fromV p1).length = n3 := ⟨_, rfl⟩
          rw [hn3]
          clear hfe hfr ho hv3 hn3
          go_wp2
          exact bodyPost_ret (v := .tuple #[.string (ba p0), .slice a3 n3 c3, .bool false]) (by simp [results, Tryz.results114, go_sem]) rfl ⟨Or.inl ⟨unhide HF, _, _, _, _, rfl⟩, unhide HZ⟩
        | some b =>
          have hfe : fromE p1 = 0 := by unfold fromE; rw [hfr]; rfl
          have hfv : fromV p1 = b := by unfold fromV; rw [hfr]; rfl
          have hm2 := unhide HM
          rw [hfr] at hm2
          simp only at hm2
          rw [hfv] at ho
          rw [hfe]
          by_cases h5 : 5 ≤ b.length
          · rw [if_pos h5] at hm2
            obtain ⟨g, c3, hv3⟩ := own_at0 ho (by omega)
            obtain ⟨n3, hn3⟩ : ∃ n3, b.length = n3 := ⟨_, rfl⟩
            rw [hn3] at hv3
            subst hv3
            have i5 : (5 : Int) ≤ (n3 : Int) := by omega
            have HF := hide hm2
            have HO := hide ho
            have HN3 := hide hn3
            clear hfe hfr hfv ho hn3 hm2
            go_wp2
            exact bodyPost_ret (v := .tuple #[.string (ba p0), .slice (some ⟨g, 0, none⟩) n3 c3, .bool true]) (by simp [results, Tryz.results114, go_sem]) rfl ⟨Or.inr ⟨p0, b, g, n3, c3, (unhide HF).symm, unhide HN3, rfl, unhide HO⟩, unhide HZ⟩
          · rw [if_neg h5] at hm2
            obtain ⟨a3, c3, hv3, -, -, -⟩ := OwnB.at ho
            obtain ⟨n3, hn3⟩ : ∃ n3, b.length = n3 := ⟨_, rfl⟩
            rw [hv3, hn3]
            have i5 : ¬ (5 : Int) ≤ (n3 : Int) := by omega
            have HF := hide hm2
            clear hfe hfr hfv ho hn3 hm2 hv3
            go_wp2
            exact bodyPost_ret (v := .tuple #[.string (ba p0), .slice a3 n3 c3, .bool false]) (by simp [results, Tryz.results114, go_sem]; exact i5) rfl ⟨Or.inl ⟨(unhide HF).symm, _, _, _, _, rfl⟩, unhide HZ⟩
    · have HF : Hid (lineR l = none) := hide (by
        rw [← hm]
        match ps, hq with
        | [], _ => rfl
        | [_], _ => rfl
        | [_, _], e => exact absurd e.symm h2
        | _ :: _ :: _ :: _, _ => rfl)
      have i2 : ((q : Int) != 2) = true := by simp; omega
      clear hm hpp hn hl hn4 hR hRl hps hpe hq h2
      go_enter Tryz.func114, Tryz.ntmps114
      go_wp2_with (first
        | (go_at_call 68; refine (unhide KB _).mono ?_; rintro e wn ⟨rfl, hwn⟩; rw [hwn]; clear hwn wn)
        | (go_at_call 100; fail))
      refine (unhide KC).mono ?_
      rintro e w1 ⟨B, cp, rfl, tx, -, b1⟩
      have HB1 := hide b1
      clear tx b1 KC
      go_wp2
      exact bodyPost_ret (v := .tuple #[.string ⟨#[]⟩, .slice none 0 0, .bool false]) (by simp [results, Tryz.results114, go_sem]) rfl ⟨Or.inl ⟨unhide HF, _, _, _, _, rfl⟩, unhide HB1⟩
end Go.Proofs.YtkablmjkffdloaaGreatDoor

namespace Go.Proofs.YtkablmjkffdloaaGreatDoor
open Go.RowKit

/-- Texts in a row, whoever owns it. -/
structure TxR (w : World) (a : Option Addr) (l : List Bs) : Prop where
  els : l = [] ∨ ∃ B O, a = some ⟨B, O, none⟩ ∧ ∀ k (hk : k < l.length), w.cell? ⟨B, O + k, none⟩ = some (.string (ba l[k]))
theorem TxR.low {w w' : World} {a : Option Addr} {l : List Bs} (h : TxR w a l) (hb : Below w.heap.size w w') : TxR w' a l := by
  rcases h.els with h0 | ⟨B, O, ha, he⟩
  · exact ⟨Or.inl h0⟩
  · exact ⟨Or.inr ⟨B, O, ha, fun k hk => (hb.cell (lt_of_cell (he k hk))).trans (he k hk)⟩⟩
theorem TxR.at {w : World} {a : Option Addr} {l : List Bs} (h : TxR w a l) {k : Nat} (hk : k < l.length) : ∃ B O, a = some ⟨B, O, none⟩ ∧ w.cell? ⟨B, O + k, none⟩ = some (.string (ba l[k])) := by
  rcases h.els with h0 | ⟨B, O, ha, he⟩
  · rw [h0] at hk; simp at hk
  · exact ⟨B, O, ha, he k hk⟩
theorem TOwn.txr {base : Nat} {w : World} {a : Option Addr} {n c : Nat} {l : List Bs} (h : TOwn base w (.slice a n c) l) : TxR w a l := by
  rcases h.2 with ⟨e, h0⟩ | ⟨G, cap, cur, e, hb, hblk, hr⟩
  · exact ⟨Or.inl (List.length_eq_zero_iff.1 h0)⟩
  · obtain ⟨e1, e2, e3⟩ := Value.slice.inj e
    subst e1 e2 e3
    refine ⟨Or.inr ⟨G, 0, rfl, fun k hk => ?_⟩⟩
    rw [Nat.zero_add]
    exact row_cell h (by simp [hk])

set_option maxRecDepth 100000 in
set_option maxHeartbeats 2000000 in
theorem sameTexts_same {w : World} {a a2 : Option Addr} {n c c2 : Nat} {l : List Bs} (hn : l.length = n) (hN : n ≤ 1000000) (h : TxR w a l) (h2 : TxR w a2 l) :
    Calls Tryz.prog 57 #[.slice a n c, .slice a2 n c2] w fun e w' => e = .returned (.bool true) ∧ ∃ q, w' = w.drewN q := by
  have HN := hide hn
  have H := hide h
  have H2 := hide h2
  clear hn h h2
  go_enter Tryz.func57, Tryz.ntmps57
  go_wp2
  go_loopw [5] (fun v5 wr => ∃ k q : Nat, k ≤ n ∧ v5 = .int .i64 (k : Int) ∧ wr = w.drewN q) (fun v5 _ => n - (intOf v5).toNat)
  case atStart => exact ⟨0, 0, Nat.zero_le _, rfl, rfl⟩
  case round =>
    obtain ⟨k, q, hk, rfl, rfl⟩ := hrel
    by_cases hlt : k < n
    · have hkl : k < l.length := by rw [unhide HN]; exact hlt
      have hlt' : (k : Int) < (n : Int) := by omega
      obtain ⟨B, O, rfl, k1⟩ := (unhide H).at hkl
      obtain ⟨B2, O2, rfl, k2⟩ := (unhide H2).at hkl
      obtain ⟨x, hx⟩ : ∃ x, l[k] = x := ⟨_, rfl⟩
      rw [hx] at k1 k2
      have m1 : (w.drewN q).cell? ⟨B, O + k, none⟩ = some (.string (ba x)) := k1
      have m2 : (w.drewN q).cell? ⟨B2, O2 + k, none⟩ = some (.string (ba x)) := k2
      have s1 : ((ba x).toList != (ba x).toList) = false := by simp
      have s2 : ((ba x).toList == (ba x).toList) = true := by simp
      clear hx hkl
      go_wp2
      go_quiet (fail)
      go_wp2
      go_roundw
      case rel => exact ⟨k + 1, q + nq, hlt, by push_cast; rfl, by first | rfl | rw [World.drewN_drewN]⟩
      case measure => simp [intOf]; omega
    · have hke : k = n := by omega
      subst hke
      go_wp2
      go_ret
      exact ⟨rfl, q, rfl⟩

set_option maxRecDepth 100000 in
set_option maxHeartbeats 2000000 in
theorem same_same {w : World} {T : Bs} {ga gb ua ub : Option Addr} {n m c c2 d d2 : Nat} {g u : List Bs} (hg : g.length = n) (hu : u.length = m) (hn : n ≤ 1000000) (hm : m ≤ 1000000) (h1 : TxR w ga g) (h2 : TxR w gb g) (h3 : TxR w ua u) (h4 : TxR w ub u) :
    Calls Tryz.prog 63 #[.agg #[.string (ba T), .slice ga n c, .slice ua m d], .agg #[.string (ba T), .slice gb n c2, .slice ub m d2]] w fun e w' => e = .returned (.bool true) ∧ Below w.heap.size w w' := by
  obtain ⟨A, hA⟩ : ∃ A, w.heap.size = A := ⟨_, rfl⟩
  obtain ⟨W1, hW1⟩ : ∃ W1, w.alloc (.cells #[.string (ba T), .slice ga n c, .slice ua m d] 78) = W1 := ⟨_, rfl⟩
  have b1 : Below w.heap.size w W1 := by rw [← hW1]; exact lowA (Below.refl _ _) _
  have q1 : Blk W1 A #[.string (ba T), .slice ga n c, .slice ua m d] 78 := by rw [← hW1, ← hA]; exact Blk.new _ _ _
  have s1 : W1.heap.size = A + 1 := by rw [← hW1, ← hA]; simp
  obtain ⟨W2, hW2⟩ : ∃ W2, W1.alloc (.cells #[.string (ba T), .slice gb n c2, .slice ub m d2] 82) = W2 := ⟨_, rfl⟩
  have b2 : Below W1.heap.size W1 W2 := by rw [← hW2]; exact lowA (Below.refl _ _) _
  have q2 : Blk W2 (A + 1) #[.string (ba T), .slice gb n c2, .slice ub m d2] 82 := by rw [← s1, ← hW2]; exact Blk.new _ _ _
  have b12 := low_trans b1 b2
  have K1 := hide (sameTexts_same (c := c) (c2 := c2) hg hn (h1.low b12) (h2.low b12))
  have K2 : Hid (∀ q, Calls Tryz.prog 57 #[.slice ua m d, .slice ub m d2] (W2.drewN q) fun e w' => e = .returned (.bool true) ∧ ∃ q, w' = W2.drewN q) := hide (fun q => by
    refine (sameTexts_same (c := d) (c2 := d2) hu hm ((h3.low b12).low (lowN (Below.refl _ _) q)) ((h4.low b12).low (lowN (Below.refl _ _) q))).mono ?_
    rintro e w' ⟨rfl, q2, rfl⟩
    exact ⟨rfl, q + q2, by first | rfl | rw [World.drewN_drewN]⟩)
  have HQ1 := hide (q1.low b2)
  have HQ2 := hide q2
  have HB := hide b12
  have HW1 := hide hW1
  have HW2 := hide hW2
  have HA := hide hA
  have x0 := (q1.low b2).cell 0
  have x1 := (q1.low b2).cell 1
  have x2 := (q1.low b2).cell 2
  have y0 := q2.cell 0
  have y1 := q2.cell 1
  have y2 := q2.cell 2
  have ss : ((ba T).toList == (ba T).toList) = true := by simp
  clear hg hu h1 h2 h3 h4 b1 b2 q1 q2 b12 hW1 hW2 hA s1
  go_enter Tryz.func63, Tryz.ntmps63
  go_wp2_with (go_at_call 57; fail)
  rw [unhide HW1, unhide HW2, unhide HA]
  go_wp2_with (go_at_call 57; fail)
  refine (unhide K1).mono ?_
  rintro e w3 ⟨rfl, q, rfl⟩
  have z0 : (W2.drewN q).cell? ⟨A, 0, none⟩ = some (.string (ba T)) := x0
  have z2 : (W2.drewN q).cell? ⟨A, 2, none⟩ = some (.slice ua m d) := x2
  have v0 : (W2.drewN q).cell? ⟨A + 1, 0, none⟩ = some (.string (ba T)) := y0
  have v2 : (W2.drewN q).cell? ⟨A + 1, 2, none⟩ = some (.slice ub m d2) := y2
  go_wp2_with (go_at_call 57; fail)
  refine (unhide K2 q).mono ?_
  rintro e w4 ⟨rfl, q2, rfl⟩
  have HZ : Hid (Below w.heap.size w (W2.drewN q2)) := hide (low_trans (unhide HB) (lowN (Below.refl _ _) _))
  go_wp2
  go_ret
  exact ⟨rfl, unhide HZ⟩
end Go.Proofs.YtkablmjkffdloaaGreatDoor
