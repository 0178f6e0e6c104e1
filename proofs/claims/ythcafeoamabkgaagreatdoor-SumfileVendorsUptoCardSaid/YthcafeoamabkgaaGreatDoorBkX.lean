/-
  Vendor lists there and back, as a plain matter; what both Formats answer.
-/
import Derived.Test.YthcafeoamabkgaaGreatDoorVenZ
import Derived.Test.YthcafeoamabkgaaGreatDoorWrtX
import Derived.Test.YthcafeoamabkgaaGreatDoorLinR
import Derived.Test.YthcafeoamabkgaaGreatDoorVenV
namespace Go.Proofs.YthcafeoamabkgaaGreatDoor
open Go.RowKit

/-- The lines of a vendor list. -/
def vndF : List Md → List Vd → Option Vd → Nat → List Str → List Vd × Nat × Int
  | _, xs, y, _, [] => (xs ++ y.toList, 0, 0)
  | ms, xs, y, k, [l] => if l = [] then (xs ++ y.toList, 0, 0) else match stepV ms y l with
    | .bad e => ([], k, e)
    | .new _ => ([], k, 11)
    | .same _ => ([], k, 11)
  | ms, xs, y, k, l :: m :: ls => match stepV ms y l with
    | .bad e => ([], k, e)
    | .new a => vndF (a :: ms) (xs ++ y.toList) (some ⟨a, false, []⟩) (k + 1) (m :: ls)
    | .same y' => vndF ms xs (some y') (k + 1) (m :: ls)

theorem stepV_nil {ms : List Md} {y : Option Vd} : stepV ms y [] = .bad 11 := by
  have hm : modL [] = none := by decide
  unfold stepV
  rw [hm]
  cases y with
  | none => rfl
  | some y => simp [explL]

theorem read_vend : ∀ (f : Nat) (ms : List Md) (xs : List Vd) (y : Option Vd) (k : Nat) (t : Str), t.length ≤ f → readV f ms xs y k t = vndF ms xs y k (pieces 10 t)
  | 0, ms, xs, y, k, t, hf => by
    have ht : t = [] := List.length_eq_zero_iff.1 (by omega)
    subst ht
    rfl
  | f + 1, ms, xs, y, k, t, hf => by
    unfold readV
    by_cases ht : t = []
    · subst ht
      rfl
    · rw [if_neg ht]
      cases hc : t.contains 10 with
      | false =>
        obtain ⟨e1, _⟩ := ahead_none 10 t hc
        rw [pieces_one 10 t hc, e1]
        unfold vndF
        rw [if_neg ht]
        cases hl : stepV ms y t with
        | bad e => rfl
        | new m => simp
        | same y' => simp
      | true =>
        have e1 := ahead_behind 10 t hc
        have hfree := ahead_free 10 t
        have hp : pieces 10 t = ahead 10 t :: pieces 10 (behind 10 t) := by
          conv => lhs; rw [e1]
          rw [pieces_join, pieces_one 10 _ hfree]
          rfl
        have hlt := behind_lt 10 ht
        have ih := fun ms xs y k => read_vend f ms xs y k (behind 10 t) (by omega)
        rw [hp]
        obtain ⟨m, ls, hm⟩ : ∃ m ls, pieces 10 (behind 10 t) = m :: ls := by
          cases h : pieces 10 (behind 10 t) with
          | nil => exact absurd h (pieces_ne _ _)
          | cons m ls => exact ⟨m, ls, rfl⟩
        rw [hm] at ih ⊢
        unfold vndF
        cases hl : stepV ms y (ahead 10 t) with
        | bad e => rfl
        | new a => simp only [if_true]; exact ih _ _ _ _
        | same y' => simp only [if_true]; exact ih _ _ _ _

theorem vnd_front : ∀ (ls : List Str) (ms : List Md) (xs : List Vd) (y : Option Vd) (k : Nat), (vndF ms xs y k ls).2.2 ≠ 0 → k ≤ (vndF ms xs y k ls).2.1 ∧ (vndF ms xs y k (ls.take ((vndF ms xs y k ls).2.1 - k) ++ [[]])).2.2 = 0
  | [], ms, xs, y, k, h => absurd rfl h
  | [l], ms, xs, y, k, h => by
    have e1 : k ≤ (vndF ms xs y k [l]).2.1 ∧ (vndF ms xs y k [l]).2.1 - k = 0 := by
      unfold vndF at h ⊢
      by_cases hl : l = []
      · rw [if_pos hl] at h; exact absurd rfl h
      · rw [if_neg hl]
        cases stepV ms y l <;> simp
    rw [e1.2]
    exact ⟨e1.1, rfl⟩
  | l :: m :: ls, ms, xs, y, k, h => by
    have base : ∀ n, n = k → k ≤ n ∧ (vndF ms xs y k ((l :: m :: ls).take (n - k) ++ [[]])).2.2 = 0 := fun n hn => by
      subst hn
      rw [Nat.sub_self]
      exact ⟨Nat.le_refl _, rfl⟩
    have tail : ∀ j, ∃ p ps, (m :: ls).take j ++ [[]] = p :: ps := fun j => by
      cases j with
      | zero => exact ⟨[], [], rfl⟩
      | succ j => exact ⟨m, ls.take j ++ [[]], rfl⟩
    cases hs : stepV ms y l with
    | bad e =>
      have e1 : vndF ms xs y k (l :: m :: ls) = ([], k, e) := by conv => lhs; unfold vndF; rw [hs]
      rw [e1]
      exact base k rfl
    | new a =>
      have e1 : ∀ p ps, vndF ms xs y k (l :: p :: ps) = vndF (a :: ms) (xs ++ y.toList) (some ⟨a, false, []⟩) (k + 1) (p :: ps) := fun p ps => by conv => lhs; unfold vndF; rw [hs]
      rw [e1] at h ⊢
      obtain ⟨h1, h2⟩ := vnd_front (m :: ls) (a :: ms) (xs ++ y.toList) (some ⟨a, false, []⟩) (k + 1) h
      obtain ⟨n, hn⟩ : ∃ n, (vndF (a :: ms) (xs ++ y.toList) (some ⟨a, false, []⟩) (k + 1) (m :: ls)).2.1 = n := ⟨_, rfl⟩
      rw [hn] at h1 h2 ⊢
      have e2 : n - k = (n - (k + 1)) + 1 := by omega
      refine ⟨by omega, ?_⟩
      rw [e2, List.take_succ_cons, List.cons_append]
      obtain ⟨p, ps, hp⟩ := tail (n - (k + 1))
      rw [hp] at h2 ⊢
      rw [e1]
      exact h2
    | same y' =>
      have e1 : ∀ p ps, vndF ms xs y k (l :: p :: ps) = vndF ms xs (some y') (k + 1) (p :: ps) := fun p ps => by conv => lhs; unfold vndF; rw [hs]
      rw [e1] at h ⊢
      obtain ⟨h1, h2⟩ := vnd_front (m :: ls) ms xs (some y') (k + 1) h
      obtain ⟨n, hn⟩ : ∃ n, (vndF ms xs (some y') (k + 1) (m :: ls)).2.1 = n := ⟨_, rfl⟩
      rw [hn] at h1 h2 ⊢
      have e2 : n - k = (n - (k + 1)) + 1 := by omega
      refine ⟨by omega, ?_⟩
      rw [e2, List.take_succ_cons, List.cons_append]
      obtain ⟨p, ps, hp⟩ := tail (n - (k + 1))
      rw [hp] at h2 ⊢
      rw [e1]
      exact h2

theorem lock_front : ∀ (ls : List Str) (xs : List Ln) (k : Nat), (lockF xs k ls).2.2 ≠ 0 → k ≤ (lockF xs k ls).2.1 ∧ (lockF xs k (ls.take ((lockF xs k ls).2.1 - k) ++ [[]])).2.2 = 0
  | [], xs, k, h => absurd rfl h
  | [l], xs, k, h => by
    have e1 : k ≤ (lockF xs k [l]).2.1 ∧ (lockF xs k [l]).2.1 - k = 0 := by
      unfold lockF at h ⊢
      by_cases hl : l = []
      · rw [if_pos hl] at h; exact absurd rfl h
      · rw [if_neg hl]
        cases lineR l with
        | none => simp
        | some x => simp only; split <;> simp
    rw [e1.2]
    exact ⟨e1.1, rfl⟩
  | l :: m :: ls, xs, k, h => by
    have base : ∀ n, n = k → k ≤ n ∧ (lockF xs k ((l :: m :: ls).take (n - k) ++ [[]])).2.2 = 0 := fun n hn => by
      subst hn
      rw [Nat.sub_self]
      exact ⟨Nat.le_refl _, rfl⟩
    have tail : ∀ j, ∃ p ps, (m :: ls).take j ++ [[]] = p :: ps := fun j => by
      cases j with
      | zero => exact ⟨[], [], rfl⟩
      | succ j => exact ⟨m, ls.take j ++ [[]], rfl⟩
    cases hs : lineR l with
    | none =>
      have e1 : lockF xs k (l :: m :: ls) = ([], k, 11) := by conv => lhs; unfold lockF; rw [hs]
      rw [e1]
      exact base k rfl
    | some x =>
      by_cases h0 : oneE xs x = 0
      · have e1 : ∀ p ps, lockF xs k (l :: p :: ps) = lockF (xs ++ [x]) (k + 1) (p :: ps) := fun p ps => by conv => lhs; unfold lockF; rw [hs]; simp only; rw [if_neg (by simp [h0])]
        rw [e1] at h ⊢
        obtain ⟨h1, h2⟩ := lock_front (m :: ls) (xs ++ [x]) (k + 1) h
        obtain ⟨n, hn⟩ : ∃ n, (lockF (xs ++ [x]) (k + 1) (m :: ls)).2.1 = n := ⟨_, rfl⟩
        rw [hn] at h1 h2 ⊢
        have e2 : n - k = (n - (k + 1)) + 1 := by omega
        refine ⟨by omega, ?_⟩
        rw [e2, List.take_succ_cons, List.cons_append]
        obtain ⟨p, ps, hp⟩ := tail (n - (k + 1))
        rw [hp] at h2 ⊢
        rw [e1]
        exact h2
      · have e1 : lockF xs k (l :: m :: ls) = ([], k, oneE xs x) := by conv => lhs; unfold lockF; rw [hs]; simp only; rw [if_pos h0]
        rw [e1]
        exact base k rfl

theorem lock_num : ∀ (ls : List Str) (xs : List Ln) (k : Nat), (lockF xs k ls).2.1 ≤ k + ls.length
  | [], xs, k => Nat.zero_le _
  | [l], xs, k => by
    unfold lockF
    split
    · exact Nat.zero_le _
    · split
      · exact Nat.le_add_right _ _
      · split <;> exact Nat.le_add_right _ _
  | l :: m :: ls, xs, k => by
    unfold lockF
    split
    · exact Nat.le_add_right _ _
    · split
      · exact Nat.le_add_right _ _
      · rename_i x _ _
        have := lock_num (m :: ls) (xs ++ [x]) (k + 1)
        simp only [List.length_cons] at this ⊢
        omega
theorem vnd_num : ∀ (ls : List Str) (ms : List Md) (xs : List Vd) (y : Option Vd) (k : Nat), (vndF ms xs y k ls).2.1 ≤ k + ls.length
  | [], ms, xs, y, k => Nat.zero_le _
  | [l], ms, xs, y, k => by
    unfold vndF
    split
    · exact Nat.zero_le _
    · split <;> exact Nat.le_add_right _ _
  | l :: m :: ls, ms, xs, y, k => by
    unfold vndF
    split
    · exact Nat.le_add_right _ _
    · rename_i a _
      have := vnd_num (m :: ls) (a :: ms) (xs ++ y.toList) (some ⟨a, false, []⟩) (k + 1)
      simp only [List.length_cons] at this ⊢
      omega
    · rename_i y' _
      have := vnd_num (m :: ls) ms xs (some y') (k + 1)
      simp only [List.length_cons] at this ⊢
      omega

/-- Lines, each with its end. -/
def frontL (ps : List Str) : Str := ps.flatMap fun p => p ++ [10]
theorem frontL_snoc (ps : List Str) (p : Str) : frontL (ps ++ [p]) = (frontL ps ++ p) ++ [10] := by simp [frontL]
theorem pieces_front : ∀ (ps : List Str), (∀ p ∈ ps, p.contains 10 = false) → pieces 10 (frontL ps) = ps ++ [[]]
  | [], _ => rfl
  | p :: ps, h => by
    have e : frontL (p :: ps) = p ++ 10 :: frontL ps := by simp [frontL]
    rw [e, pieces_join, pieces_one 10 p (h p (by simp)), pieces_front ps (fun q hq => h q (by simp [hq]))]
    rfl
theorem front_len (ps : List Str) (k : Nat) : (frontL (ps.take k)).length ≤ (frontL ps).length := by
  have e : frontL ps = frontL (ps.take k) ++ frontL (ps.drop k) := by
    unfold frontL
    rw [← List.flatMap_append, List.take_append_drop]
  rw [e, List.length_append]
  omega
theorem front_glue : ∀ (ps : List Str), ps ≠ [] → frontL ps = glue 10 ps ++ [10]
  | [], h => absurd rfl h
  | [p], _ => by simp [frontL, glue]
  | p :: q :: ps, _ => by
    have ih := front_glue (q :: ps) (by simp)
    have e : frontL (p :: q :: ps) = (p ++ [10]) ++ frontL (q :: ps) := by simp [frontL]
    rw [e, ih]
    simp [glue]
theorem front_size (t : Str) (k : Nat) : (frontL ((pieces 10 t).take k)).length ≤ t.length + 1 := by
  have h := front_len (pieces 10 t) k
  rw [front_glue _ (pieces_ne 10 t), glue_pieces, List.length_append] at h
  exact h

theorem POut.num {t : Str} {ys : List Ln} {n : Nat} {e : Int} (h : POut t ys n e) : n ≤ 1 + (pieces 10 t).length := by
  rcases h with ⟨_, _, rfl, _⟩ | ⟨_, _, _, rfl, _⟩
  · exact Nat.zero_le _
  · exact lock_num _ _ _
theorem readV_num (t : Str) : (readV t.length [] [] none 1 t).2.1 ≤ 1 + (pieces 10 t).length := by
  rw [read_vend _ _ _ _ _ _ (Nat.le_refl _)]
  exact vnd_num _ _ _ _ _

/-- What Parse tells of the lines ahead of the one at fault. -/
theorem lock_good {t : Str} {ys zs : List Ln} {n m : Nat} {e f : Int} (ht : t.length ≤ 65536) (h : POut t ys n e) (he : e ≠ 0) (k : POut (frontL ((pieces 10 t).take (n - 1))) zs m f) (hl : (frontL ((pieces 10 t).take (n - 1))).length ≤ 65536) : f = 0 := by
  rcases h with ⟨h, _⟩ | ⟨_, _, _, rfl, rfl⟩
  · omega
  · rcases k with ⟨k, _⟩ | ⟨_, _, _, _, rfl⟩
    · omega
    · have := (lock_front _ _ _ he).2
      rw [pieces_front _ (fun p hp => pieces_free 10 t p (List.mem_of_mem_take hp))]
      exact this

theorem vend_good {t : Str} (_ht : t.length ≤ 65536) (he : (readV t.length [] [] none 1 t).2.2 ≠ 0) : (readV (frontL ((pieces 10 t).take ((readV t.length [] [] none 1 t).2.1 - 1))).length [] [] none 1 (frontL ((pieces 10 t).take ((readV t.length [] [] none 1 t).2.1 - 1)))).2.2 = 0 := by
  rw [read_vend _ _ _ _ _ _ (Nat.le_refl _)] at he
  rw [read_vend _ _ _ _ _ t (Nat.le_refl _), read_vend _ _ _ _ _ _ (Nat.le_refl _), pieces_front _ (fun p hp => pieces_free 10 t p (List.mem_of_mem_take hp))]
  exact (vnd_front _ _ _ _ _ he).2

end Go.Proofs.YthcafeoamabkgaaGreatDoor

namespace Go.Proofs.YthcafeoamabkgaaGreatDoor
open Go.RowKit

theorem all_pieces (c : UInt8) (f : UInt8 → Bool) : ∀ s : Str, (∀ p ∈ pieces c s, p.all f = true) → s.all (fun b => f b || b == c) = true
  | [], _ => rfl
  | b :: l, h => by
    rw [pieces_cons] at h
    rw [List.all_cons]
    by_cases e : b = c
    · rw [if_pos e] at h
      rw [all_pieces c f l (fun p hp => h p (List.mem_cons_of_mem _ hp)), e]
      simp
    · rw [if_neg e] at h
      cases hp : pieces c l with
      | nil => exact absurd hp (pieces_ne c l)
      | cons p ps =>
        rw [hp] at h
        have h1 := h (b :: p) (by simp)
        rw [List.all_cons, Bool.and_eq_true] at h1
        rw [h1.1, all_pieces c f l (fun q hq => by
          rw [hp] at hq
          rcases List.mem_cons.1 hq with rfl | hq
          · exact h1.2
          · exact h q (List.mem_cons_of_mem _ hq))]
        rfl

def verB (c : UInt8) : Bool := identB c || c == 46
def pthB (c : UInt8) : Bool := importB c || c == 47

theorem digit_ident {c : UInt8} (h : digitB c = true) : identB c = true := by unfold identB; rw [h]; rfl
theorem all_mono {f g : UInt8 → Bool} (h : ∀ c, f c = true → g c = true) {s : Str} (hs : s.all f = true) : s.all g = true := by
  rw [List.all_eq_true] at hs ⊢
  exact fun c hc => h c (hs c hc)
theorem ver_ident {c : UInt8} (h : identB c = true) : verB c = true := by unfold verB; rw [h]; rfl
theorem dec_ver (u : Nat) : (Lib.decDigits u).all verB = true := all_mono (fun _ h => ver_ident (digit_ident h)) (digits_decDigits u).1.2.1
theorem release_ver (a b c : Nat) : (releaseL a b c).all verB = true := by
  unfold releaseL
  simp only [List.all_append, List.all_cons, dec_ver, Bool.and_true]
  decide
theorem pre_ver {s : Str} (h : validPreB s = true) : s.all verB = true := by
  unfold validPreB at h
  rw [List.all_eq_true] at h
  refine all_pieces 46 identB s fun p hp => ?_
  have h1 := h p hp
  unfold validIdB at h1
  split at h1
  · rename_i hd
    unfold digitsB at hd
    rw [Bool.and_eq_true] at hd
    exact all_mono (fun _ h => digit_ident h) hd.2
  · rw [Bool.and_eq_true] at h1
    exact h1.2
theorem version_ver {v : Str} {x : Ver} (h : parseV v = some x) : v.all verB = true ∧ v ≠ [] := by
  obtain ⟨_, _, _, _, h1⟩ := parse_form h
  rcases h1 with ⟨_, rfl⟩ | ⟨hp, rfl⟩
  · exact ⟨release_ver _ _ _, by rw [release_cons]; simp⟩
  · refine ⟨?_, by rw [release_cons]; simp⟩
    rw [List.all_append, release_ver, List.all_cons, pre_ver hp]
    decide
theorem import_pth {p : Str} (h : importR p = 0) : p.all pthB = true ∧ p ≠ [] := by
  unfold importR at h
  split at h
  · cases h
  · split at h
    · rename_i h1
      unfold elemsB at h1
      rw [List.all_eq_true] at h1
      refine ⟨all_pieces 47 importB p fun q hq => ?_, ?_⟩
      · have h2 := h1 q hq
        unfold elemB at h2
        simp only [Bool.and_eq_true] at h2
        exact h2.1.1.2
      · rintro rfl
        exact absurd (h1 [] (by simp [pieces])) (by decide)
    · cases h
theorem check_parts {p v : Str} (h : checkR p v = 0) : importR p = 0 ∧ ∃ x, parseV v = some x := by
  unfold checkR at h
  split at h
  · exact absurd h ‹_›
  · rename_i h1
    split at h
    · cases h
    · rename_i h2
      refine ⟨path_import (by simpa using h1), ?_⟩
      cases hv : parseV v with
      | none => rw [hv] at h2; exact absurd rfl h2
      | some x => exact ⟨x, rfl⟩

/-- A text without these bytes. -/
structure Clean (s : Str) : Prop where
  ne : s ≠ []
  nl : s.contains 10 = false
  sp : s.contains 32 = false

theorem clean_import {p : Str} (h : importR p = 0) : Clean p := ⟨(import_pth h).2, not_contains (import_pth h).1 (by decide), not_contains (import_pth h).1 (by decide)⟩
theorem clean_path {p v : Str} (h : checkR p v = 0) : Clean p := clean_import (check_parts h).1
theorem clean_ver {p v : Str} (h : checkR p v = 0) : Clean v ∧ v.contains 47 = false := by
  obtain ⟨_, x, hx⟩ := check_parts h
  obtain ⟨h1, h2⟩ := version_ver hx
  exact ⟨⟨h2, not_contains h1 (by decide), not_contains h1 (by decide)⟩, not_contains h1 (by decide)⟩
theorem first_not {p : Str} {c : UInt8} (h : p.contains c = false) : Lib.hasPrefix p [c] = false := by
  cases hq : Lib.hasPrefix p [c] with
  | false => rfl
  | true =>
    rw [prefix_one hq] at h
    simp at h
theorem import_mark {p : Str} (h : importR p = 0) : Lib.hasPrefix p [35] = false := first_not (not_contains (import_pth h).1 (by decide))

theorem prefix_split {s p : Str} (h : Lib.hasPrefix s p = true) : s = p ++ Lib.trimPrefix s p := by
  unfold Lib.trimPrefix
  rw [if_pos h]
  have h1 : p <+: s := by simpa [Lib.hasPrefix] using h
  obtain ⟨t, rfl⟩ := h1
  simp
theorem suffix_split {s p : Str} (h : Lib.hasSuffix s p = true) : s = Lib.trimSuffix s p ++ p := by
  unfold Lib.trimSuffix
  rw [if_pos h]
  have h1 : p <:+ s := by simpa [Lib.hasSuffix] using h
  obtain ⟨t, rfl⟩ := h1
  simp
theorem suffix_not {s p : Str} (h : Lib.hasSuffix s p = false) : Lib.trimSuffix s p = s := by
  unfold Lib.trimSuffix
  rw [if_neg (by simp [h])]

theorem signs_last {c : UInt8} (hc : signAt c < 0) : ∀ (s : Str) (z l : Int), lastOf s z = some l → s.contains c = false
  | [], _, _, _ => rfl
  | b :: s, z, l, h => by
    unfold lastOf at h
    split at h
    · cases h
    · rename_i hb
      rw [List.contains_cons, signs_last hc s _ _ h, Bool.or_false]
      cases e : (c == b) with
      | false => rfl
      | true =>
        rw [beq_iff_eq] at e
        rw [e] at hc
        exact absurd hc hb
set_option maxRecDepth 20000 in
theorem sum_clean {s : Str} (h : sumB s = true) : Clean s := by
  unfold sumB at h
  simp only [Bool.and_eq_true] at h
  obtain ⟨⟨⟨h1, h2⟩, _⟩, h4⟩ := h
  have e1 := prefix_split h1
  have e2 := suffix_split h2
  obtain ⟨m, hm⟩ : ∃ m, Lib.trimSuffix (Lib.trimPrefix s headL) [61] = m := ⟨_, rfl⟩
  rw [hm] at e2 h4
  rw [e2] at e1
  cases hl : lastOf m 0 with
  | none => rw [hl] at h4; cases h4
  | some l =>
    have a := signs_last (c := 10) (by decide) m 0 l hl
    have b := signs_last (c := 32) (by decide) m 0 l hl
    refine ⟨?_, ?_, ?_⟩
    · rw [e1]; simp [headL]
    · rw [e1, contains_append, contains_append, a]; decide
    · rw [e1, contains_append, contains_append, b]; decide

/-! ### Lines of a lock -/

/-- A line without its end. -/
def lnS (x : Ln) : Str := (((x.p ++ [32]) ++ verT x) ++ [32]) ++ x.s
theorem lineT_ln (x : Ln) : lineT x = lnS x ++ [10] := rfl
theorem text_front (xs : List Ln) : textL xs = frontL (xs.map lnS) := by
  induction xs with
  | nil => rfl
  | cons x xs ih =>
    have e : frontL (lnS x :: xs.map lnS) = (lnS x ++ [10]) ++ frontL (xs.map lnS) := by simp [frontL]
    rw [List.map_cons, e, ← ih]
    rfl

theorem ln_join (x : Ln) : lnS x = x.p ++ 32 :: (verT x ++ 32 :: x.s) := by simp [lnS]
theorem pieces_ln {x : Ln} (h1 : x.p.contains 32 = false) (h2 : (verT x).contains 32 = false) (h3 : x.s.contains 32 = false) : pieces 32 (lnS x) = [x.p, verT x, x.s] := by
  rw [ln_join, pieces_join, pieces_join, pieces_one _ _ h1, pieces_one _ _ h2, pieces_one _ _ h3]
  rfl

/-- What a line must be. -/
structure LnGood (x : Ln) : Prop where
  k : x.k = 0 ∨ x.k = 1
  c : checkR x.p x.v = 0
  s : sumB x.s = true

theorem LnGood.ver {x : Ln} (h : LnGood x) : Clean (verT x) := by
  obtain ⟨hv, _⟩ := clean_ver h.c
  unfold verT
  split
  · exact ⟨fun e => hv.ne (List.append_eq_nil_iff.1 e).1, by rw [contains_append, hv.nl]; decide, by rw [contains_append, hv.sp]; decide⟩
  · exact hv
theorem suffix_of_free {v : Str} (h : v.contains 47 = false) : Lib.hasSuffix v gmL = false := by
  cases hq : Lib.hasSuffix v gmL with
  | false => rfl
  | true =>
    rw [suffix_split hq, contains_append] at h
    rw [Bool.or_eq_false_iff] at h
    exact absurd h.2 (by decide)
theorem line_back {x : Ln} (h : LnGood x) : lineR (lnS x) = some x := by
  have hp := clean_path h.c
  have hs := sum_clean h.s
  have hv := h.ver
  obtain ⟨hv0, hsl⟩ := clean_ver h.c
  unfold lineR
  rw [pieces_ln hp.sp hv.sp hs.sp]
  have hf : fullB 3 [x.p, verT x, x.s] = true := by
    unfold fullB
    have c0 : [x.p, verT x, x.s].contains [] = false := by
      rw [Bool.eq_false_iff]
      intro hc
      rw [List.contains_iff_mem] at hc
      simp only [List.mem_cons, List.not_mem_nil, or_false] at hc
      rcases hc with e | e | e
      · exact hp.ne e.symm
      · exact hv.ne e.symm
      · exact hs.ne e.symm
    rw [c0]
    rfl
  rw [if_pos hf]
  obtain ⟨p, v, k, s⟩ := x
  have hk := h.k
  simp only at hk hsl
  simp only [List.getD_cons_zero, List.getD_cons_succ]
  rcases hk with rfl | rfl
  · have e : verT ⟨p, v, 0, s⟩ = v := by unfold verT; simp
    rw [e, suffix_not (suffix_of_free hsl), suffix_of_free hsl]
    rfl
  · have e : verT ⟨p, v, 1, s⟩ = v ++ gmL := by unfold verT; simp
    obtain ⟨e1, e2⟩ := trim_append v gmL
    rw [e, e1, e2]
    rfl

theorem full3 {ps : List Str} (h : fullB 3 ps = true) : ∃ a b c, ps = [a, b, c] := by
  unfold fullB at h
  rw [Bool.and_eq_true, decide_eq_true_eq] at h
  match ps, h.1 with
  | [a, b, c], _ => exact ⟨a, b, c, rfl⟩
theorem line_is {l : Str} {x : Ln} (h : lineR l = some x) : lnS x = l := by
  unfold lineR at h
  split at h
  · rename_i hf
    obtain ⟨a, b, c, e⟩ := full3 hf
    rw [e] at h
    simp only [List.getD_cons_zero, List.getD_cons_succ, Option.some.injEq] at h
    have hl := glue_pieces 32 l
    rw [e] at hl
    rw [← h, ← hl]
    have hv : verT ⟨a, Lib.trimSuffix b gmL, if Lib.hasSuffix b gmL then 1 else 0, c⟩ = b := by
      unfold verT
      cases hs : Lib.hasSuffix b gmL with
      | true => simp only [if_true]; exact (suffix_split hs).symm
      | false => simp; exact suffix_not hs
    show (((a ++ [32]) ++ verT ⟨a, Lib.trimSuffix b gmL, if Lib.hasSuffix b gmL then 1 else 0, c⟩) ++ [32]) ++ c = _
    rw [hv]
    simp [glue]
  · cases h

theorem one_good {xs : List Ln} {x : Ln} (h : oneE xs x = 0) (hk : x.k = 0 ∨ x.k = 1) : LnGood x := by
  unfold oneE at h
  split at h
  · rename_i h1
    omega
  · rename_i h1
    split at h
    · rename_i h2
      exact ⟨hk, by simpa using h1, h2⟩
    · omega
theorem good_one {xs : List Ln} {x : Ln} (h : LnGood x) (h0 : ∀ y ∈ xs, ¬ keyL y = keyL x) : oneE xs x = 0 := by
  unfold oneE
  rw [if_neg (by rw [h.c]; simp), if_pos h.s, if_neg (fun ⟨y, hy, e⟩ => h0 y hy e)]

/-- Lines that can be written: each good, no key twice. -/
def Locks (xs : List Ln) : Prop := (∀ x ∈ xs, LnGood x) ∧ Apart xs

theorem fmt_locks : ∀ (r xs : List Ln), Locks xs → fmtE xs r = 0 → Locks (xs ++ r)
  | [], xs, h, _ => by simpa using h
  | x :: r, xs, h, h0 => by
    unfold fmtE at h0
    split at h0
    · omega
    · rename_i hk
      split at h0
      · rename_i h2
        exact absurd h0 h2
      · rename_i h2
        have h3 : oneE xs x = 0 := by simpa using h2
        have h4 := fmt_locks r (xs ++ [x]) ⟨fun y hy => by
          rcases List.mem_append.1 hy with hy | hy
          · exact h.1 y hy
          · rw [List.mem_singleton] at hy
            subst hy
            exact one_good h3 (by omega), apart_snoc h.2 (one_zero h3)⟩ h0
        simpa using h4
theorem locks_fmt : ∀ (r xs : List Ln), Locks (xs ++ r) → fmtE xs r = 0
  | [], xs, _ => rfl
  | x :: r, xs, h => by
    have hx := h.1 x (by simp)
    have hap := List.pairwise_append.1 h.2
    have h3 : oneE xs x = 0 := good_one hx fun y hy => hap.2.2 y hy x (by simp)
    unfold fmtE
    rw [if_neg (by have := hx.k; omega), if_neg (by simp [h3])]
    exact locks_fmt r (xs ++ [x]) (by simpa using h)
theorem Locks.perm {xs ys : List Ln} (h : Locks xs) (hp : ys.Perm xs) : Locks ys :=
  ⟨fun y hy => h.1 y (hp.mem_iff.1 hy), (hp.symm.pairwise_iff (fun {_ _} hxy e => hxy e.symm)).1 h.2⟩

theorem lock_zero : ∀ (ls : List Str) (xs : List Ln) (k : Nat), ls ≠ [] → Locks xs → (lockF xs k ls).2.2 = 0 → (lockF xs k ls).2.1 = 0 ∧ ∃ ms, (lockF xs k ls).1 = xs ++ ms ∧ ls = ms.map lnS ++ [[]] ∧ Locks (xs ++ ms)
  | [], xs, k, h, _, _ => absurd rfl h
  | [l], xs, k, _, hx, h => by
    unfold lockF at h ⊢
    by_cases hl : l = []
    · rw [if_pos hl]
      exact ⟨rfl, [], by simp, by rw [hl]; rfl, by simpa using hx⟩
    · rw [if_neg hl] at h
      cases hr : lineR l with
      | none => rw [hr] at h; simp at h
      | some x =>
        rw [hr] at h
        simp only at h
        by_cases h0 : oneE xs x = 0
        · simp [h0] at h
        · simp [h0] at h
  | l :: m :: ls, xs, k, _, hx, h => by
    cases hr : lineR l with
    | none => unfold lockF at h; rw [hr] at h; simp at h
    | some x =>
      by_cases h0 : oneE xs x = 0
      · have e1 : lockF xs k (l :: m :: ls) = lockF (xs ++ [x]) (k + 1) (m :: ls) := by conv => lhs; unfold lockF; rw [hr]; simp only; rw [if_neg (by simp [h0])]
        rw [e1] at h ⊢
        have hg := one_good h0 (lineR_kind hr)
        obtain ⟨h1, ms, h2, h3, h4⟩ := lock_zero (m :: ls) (xs ++ [x]) (k + 1) (by simp) ⟨fun y hy => by
          rcases List.mem_append.1 hy with hy | hy
          · exact hx.1 y hy
          · rw [List.mem_singleton] at hy
            subst hy
            exact hg, apart_snoc hx.2 (one_zero h0)⟩ h
        refine ⟨h1, x :: ms, by rw [h2]; simp, by rw [h3, List.map_cons, line_is hr]; rfl, by simpa using h4⟩
      · unfold lockF at h
        rw [hr] at h
        simp [h0] at h

theorem lock_some : ∀ (ms xs : List Ln) (k : Nat), Locks (xs ++ ms) → lockF xs k (ms.map lnS ++ [[]]) = (xs ++ ms, 0, 0)
  | [], xs, k, _ => by simp [lockF]
  | x :: ms, xs, k, h => by
    have hx := h.1 x (by simp)
    have hap := List.pairwise_append.1 h.2
    have h3 : oneE xs x = 0 := good_one hx fun y hy => hap.2.2 y hy x (by simp)
    have ih := lock_some ms (xs ++ [x]) (k + 1) (by simpa using h)
    obtain ⟨m, ls, hm⟩ : ∃ m ls, ms.map lnS ++ [[]] = m :: ls := by
      cases ms with
      | nil => exact ⟨_, _, rfl⟩
      | cons y ms => exact ⟨_, _, rfl⟩
    rw [List.map_cons, List.cons_append, hm]
    rw [hm] at ih
    unfold lockF
    rw [line_back hx]
    simp only
    rw [if_neg (by simp [h3]), ih]
    simp

theorem ln_free {x : Ln} (h : LnGood x) : (lnS x).contains 10 = false := by
  unfold lnS
  simp only [contains_append, (clean_path h.c).nl, h.ver.nl, (sum_clean h.s).nl]
  decide

theorem front_inj {t : Str} {ps : List Str} (h : pieces 10 t = ps ++ [[]]) : t = frontL ps := by
  refine pieces_inj 10 ?_
  rw [h, pieces_front ps (fun p hp => pieces_free 10 t p (by rw [h]; exact List.mem_append_left _ hp))]

theorem pieces_text {ms : List Ln} (h : ∀ x ∈ ms, LnGood x) : pieces 10 (textL ms) = ms.map lnS ++ [[]] := by
  rw [text_front]
  refine pieces_front _ fun p hp => ?_
  obtain ⟨x, hx, rfl⟩ := List.mem_map.1 hp
  exact ln_free (h x hx)

theorem text_perm {xs ys : List Ln} (h : xs.Perm ys) : (textL xs).length = (textL ys).length := by
  have e : ∀ l : List Ln, (textL l).length = (l.map fun x => (lineT x).length).sum := fun l => by
    induction l with
    | nil => rfl
    | cons x l ih => simp [textL, ih]
  rw [e, e]
  exact (h.map _).sum_nat

/-- What is printed is read back, and printed again. -/
theorem print_back {l ys : List Ln} {s : Str} {n : Nat} {e : Int} (h : FOut l s 0) (k : POut s ys n e) : n = 0 ∧ e = 0 ∧ ys.Perm l ∧ Apart l ∧ ∀ t g, FOut ys t g → t = s ∧ g = 0 := by
  rcases h with ⟨h1, h2, _⟩ | ⟨h0, zs, hp, hr, h⟩
  · exact absurd h2.symm h1
  · rcases h with ⟨_, h, _⟩ | ⟨hlen, _, rfl⟩
    · cases h
    · have hl : Locks l := by simpa using fmt_locks l [] ⟨fun x hx => (by cases hx), List.Pairwise.nil⟩ h0
      have hz := hl.perm hp
      have hlk : lockF [] 1 (pieces 10 (textL zs)) = (zs, 0, 0) := by
        rw [pieces_text hz.1]
        simpa using lock_some zs [] 1 (by simpa using hz)
      rcases k with ⟨k1, _⟩ | ⟨_, k2, k3, k4, k5⟩
      · omega
      · rw [hlk] at k2 k4 k5
        have e0 := sorted_one hz.2 k2 (List.Perm.refl _) k3 hr
        subst e0
        refine ⟨k4, k5, hp, hl.2, fun t g hf => ?_⟩
        exact hf.one (Or.inr ⟨locks_fmt _ [] (by simpa using hz), ys, List.Perm.refl _, hr, Or.inr ⟨hlen, rfl, rfl⟩⟩)

/-- What was read is printed, and read again. -/
theorem read_back {t u : Str} {ys : List Ln} {n : Nat} {k : Int} (h : POut t ys n 0) (hf : FOut ys u k) : k = 0 ∧ u.length = t.length ∧ ∀ zs m j, POut u zs m j → zs = ys ∧ j = 0 := by
  rcases h with ⟨_, _, _, h⟩ | ⟨ht, hp, hr, _, he⟩
  · cases h
  · obtain ⟨_, ms, h1, h2, h3⟩ := lock_zero (pieces 10 t) [] 1 (pieces_ne _ _) ⟨fun x hx => (by cases hx), List.Pairwise.nil⟩ he.symm
    rw [List.nil_append] at h1 h3
    rw [h1] at hp
    have et : t = textL ms := by rw [text_front]; exact front_inj h2
    have hy := h3.perm hp
    have hlen := text_perm hp
    have hft : FOut ys (textL ys) 0 := Or.inr ⟨locks_fmt _ [] (by simpa using hy), ys, List.Perm.refl _, hr, Or.inr ⟨by rw [hlen, ← et]; exact ht, rfl, rfl⟩⟩
    obtain ⟨rfl, rfl⟩ := hf.one hft
    refine ⟨rfl, by rw [hlen, ← et], fun zs m j hz => ?_⟩
    have hlk : lockF [] 1 (pieces 10 (textL ys)) = (ys, 0, 0) := by
      rw [pieces_text hy.1]
      simpa using lock_some ys [] 1 (by simpa using hy)
    have hpo : POut (textL ys) ys 0 0 := Or.inr ⟨by rw [hlen, ← et]; exact ht, by rw [hlk], hr, by rw [hlk], by rw [hlk]⟩
    obtain ⟨a, _, b⟩ := hz.one hpo
    exact ⟨a, b⟩

theorem find_of {ys l : List Ln} {x : Ln} (hp : ys.Perm l) (ha : Apart l) (hx : x ∈ l) : findR ys x.p x.v x.k = some x := by
  have hd : Apart ys := (hp.symm.pairwise_iff (fun {x y} hxy e => hxy e.symm)).1 ha
  have hm : x ∈ ys := hp.mem_iff.2 hx
  clear hp hx ha
  unfold findR
  induction ys with
  | nil => cases hm
  | cons y ys ih =>
    have hc := List.pairwise_cons.1 hd
    rw [List.find?_cons]
    rcases List.mem_cons.1 hm with rfl | hm
    · simp
    · have hne := hc.1 x hm
      have : ¬ (y.p = x.p ∧ y.v = x.v ∧ y.k = x.k) := fun ⟨a, b, c⟩ => hne (by unfold keyL; rw [a, b, c])
      rw [decide_eq_false this]
      exact ih hc.2 hm

end Go.Proofs.YthcafeoamabkgaaGreatDoor

namespace Go.Proofs.YthcafeoamabkgaaGreatDoor
open Go.RowKit

def headT (m : Md) : Str := (([35, 32] ++ m.1) ++ [32]) ++ m.2
/-- The lines of a vendored module. -/
def vdLs (y : Vd) : List Str := headT y.m :: ((if y.x = true then [explL] else []) ++ y.pk)
def vdT (y : Vd) : Str := frontL (vdLs y)
def vtextL (l : List Vd) : Str := frontL (l.flatMap vdLs)

theorem frontL_append (a b : List Str) : frontL (a ++ b) = frontL a ++ frontL b := by simp [frontL]
theorem vtext_append (a b : List Vd) : vtextL (a ++ b) = vtextL a ++ vtextL b := by unfold vtextL; rw [List.flatMap_append, frontL_append]
theorem vtext_cons (y : Vd) (l : List Vd) : vtextL (y :: l) = vdT y ++ vtextL l := by unfold vtextL vdT; rw [List.flatMap_cons, frontL_append]
theorem vtext_one (y : Vd) : vtextL [y] = vdT y := by rw [vtext_cons]; simp [vtextL, frontL]

/-- The first error of packages, with those ahead. -/
def pksE (path : Str) : List Str → List Str → Int
  | _, [] => 0
  | qs, p :: r => if impE path qs p ≠ 0 then impE path qs p else pksE path (p :: qs) r
/-- The first error of vendored modules, with those ahead. -/
def vendE : List Md → List Vd → Int
  | _, [] => 0
  | ms, y :: r => if modE ms y.m ≠ 0 then modE ms y.m else if pksE y.m.1 [] y.pk ≠ 0 then pksE y.m.1 [] y.pk else vendE (y.m :: ms) r

/-- A package that may stand below a path. -/
def Under (path p : Str) : Prop := importR p = 0 ∧ (p = path ∨ Lib.hasPrefix p (path ++ [47]) = true)
structure VdGood (y : Vd) : Prop where
  c : checkR y.m.1 y.m.2 = 0
  p : ∀ q ∈ y.pk, Under y.m.1 q
  n : y.pk.Nodup
def Vends (l : List Vd) : Prop := (∀ y ∈ l, VdGood y) ∧ (l.map (·.m)).Nodup

theorem imp_zero {path p : Str} {qs : List Str} : impE path qs p = 0 ↔ Under path p ∧ p ∉ qs := by
  unfold impE Under
  by_cases h1 : importR p = 0
  · rw [if_neg (by simp [h1])]
    by_cases h2 : p ≠ path ∧ Lib.hasPrefix p (path ++ [47]) = false
    · rw [if_pos h2]
      refine ⟨fun h => by omega, fun ⟨⟨_, h⟩, _⟩ => ?_⟩
      rcases h with h | h
      · exact absurd h h2.1
      · rw [h2.2] at h; cases h
    · rw [if_neg h2]
      have h3 : p = path ∨ Lib.hasPrefix p (path ++ [47]) = true := by
        by_cases e : p = path
        · exact Or.inl e
        · cases hq : Lib.hasPrefix p (path ++ [47]) with
          | true => exact Or.inr rfl
          | false => exact absurd ⟨e, hq⟩ h2
      by_cases h4 : p ∈ qs
      · rw [if_pos h4]
        exact ⟨fun h => by omega, fun h => absurd h4 h.2⟩
      · rw [if_neg h4]
        exact ⟨fun _ => ⟨⟨h1, h3⟩, h4⟩, fun _ => rfl⟩
  · rw [if_pos h1]
    exact ⟨fun h => absurd (by omega) h1, fun h => absurd h.1.1 h1⟩
theorem mod_zero {m : Md} {ms : List Md} : modE ms m = 0 ↔ checkR m.1 m.2 = 0 ∧ m ∉ ms := by
  unfold modE
  by_cases h1 : checkR m.1 m.2 = 0
  · rw [if_neg (by simp [h1])]
    by_cases h4 : m ∈ ms
    · rw [if_pos h4]
      exact ⟨fun h => by omega, fun h => absurd h4 h.2⟩
    · rw [if_neg h4]
      exact ⟨fun _ => ⟨h1, h4⟩, fun _ => rfl⟩
  · rw [if_pos h1]
    exact ⟨fun h => absurd (by omega) h1, fun h => absurd h.1 h1⟩

theorem pks_zero {path : Str} : ∀ (r qs : List Str), pksE path qs r = 0 ↔ (∀ q ∈ r, Under path q ∧ q ∉ qs) ∧ r.Nodup
  | [], qs => by simp [pksE]
  | p :: r, qs => by
    unfold pksE
    by_cases h0 : impE path qs p = 0
    · rw [if_neg (by simp [h0]), pks_zero r (p :: qs)]
      obtain ⟨h1, h2⟩ := imp_zero.1 h0
      constructor
      · rintro ⟨h3, h4⟩
        refine ⟨fun q hq => ?_, List.nodup_cons.2 ⟨fun hp => (h3 p hp).2 (by simp), h4⟩⟩
        rcases List.mem_cons.1 hq with rfl | hq
        · exact ⟨h1, h2⟩
        · exact ⟨(h3 q hq).1, fun h => (h3 q hq).2 (List.mem_cons_of_mem _ h)⟩
      · rintro ⟨h3, h4⟩
        obtain ⟨h5, h6⟩ := List.nodup_cons.1 h4
        refine ⟨fun q hq => ⟨(h3 q (List.mem_cons_of_mem _ hq)).1, fun h => ?_⟩, h6⟩
        rcases List.mem_cons.1 h with rfl | h
        · exact h5 hq
        · exact (h3 q (List.mem_cons_of_mem _ hq)).2 h
    · rw [if_pos h0]
      exact ⟨fun h => absurd h h0, fun h => absurd (imp_zero.2 (h.1 p (by simp))) h0⟩

theorem vend_e : ∀ (r : List Vd) (ms : List Md), vendE ms r = 0 ↔ (∀ y ∈ r, VdGood y ∧ y.m ∉ ms) ∧ (r.map (·.m)).Nodup
  | [], ms => by simp [vendE]
  | y :: r, ms => by
    unfold vendE
    by_cases h0 : modE ms y.m = 0
    · rw [if_neg (by simp [h0])]
      obtain ⟨h1, h2⟩ := mod_zero.1 h0
      by_cases h3 : pksE y.m.1 [] y.pk = 0
      · rw [if_neg (by simp [h3]), vend_e r (y.m :: ms)]
        obtain ⟨h4, h5⟩ := (pks_zero _ _).1 h3
        constructor
        · rintro ⟨h6, h7⟩
          refine ⟨fun z hz => ?_, ?_⟩
          · rcases List.mem_cons.1 hz with rfl | hz
            · exact ⟨⟨h1, fun q hq => (h4 q hq).1, h5⟩, h2⟩
            · exact ⟨(h6 z hz).1, fun h => (h6 z hz).2 (List.mem_cons_of_mem _ h)⟩
          · rw [List.map_cons]
            refine List.nodup_cons.2 ⟨fun hp => ?_, h7⟩
            obtain ⟨z, hz, e⟩ := List.mem_map.1 hp
            exact (h6 z hz).2 (by rw [e]; simp)
        · rintro ⟨h6, h7⟩
          rw [List.map_cons] at h7
          obtain ⟨h8, h9⟩ := List.nodup_cons.1 h7
          refine ⟨fun z hz => ⟨(h6 z (List.mem_cons_of_mem _ hz)).1, fun h => ?_⟩, h9⟩
          rcases List.mem_cons.1 h with e | h
          · exact h8 (by rw [← e]; exact List.mem_map_of_mem hz)
          · exact (h6 z (List.mem_cons_of_mem _ hz)).2 h
      · rw [if_pos h3]
        exact ⟨fun h => absurd h h3, fun h => absurd ((pks_zero _ _).2 ⟨fun q hq => ⟨(h.1 y (by simp)).1.p q hq, by simp⟩, (h.1 y (by simp)).1.n⟩) h3⟩
    · rw [if_pos h0]
      exact ⟨fun h => absurd h h0, fun h => absurd (mod_zero.2 ⟨(h.1 y (by simp)).1.c, (h.1 y (by simp)).2⟩) h0⟩
theorem vends_e {l : List Vd} : vendE [] l = 0 ↔ Vends l := by
  rw [vend_e]
  unfold Vends
  constructor
  · rintro ⟨h1, h2⟩; exact ⟨fun y hy => (h1 y hy).1, h2⟩
  · rintro ⟨h1, h2⟩; exact ⟨fun y hy => ⟨h1 y hy, by simp⟩, h2⟩

/-! ### In order -/

def RisingM (l : List Vd) : Prop := l.Pairwise (fun a b => ¬ cmpM b.m a.m < 0)
def EltD (z r : Vd) : Prop := r.m = z.m ∧ r.x = z.x ∧ r.pk.Perm z.pk ∧ RisingS r.pk
inductive Elts : List Vd → List Vd → Prop
  | nil : Elts [] []
  | cons {y r : Vd} {ys rs : List Vd} (h : EltD y r) (hs : Elts ys rs) : Elts (y :: ys) (r :: rs)
/-- A list, and what stands for it in order. -/
def VSort (l rs : List Vd) : Prop := ∃ ys : List Vd, ys.Perm l ∧ RisingM ys ∧ Elts ys rs

theorem RisingS.pairwise {l : List Str} (h : RisingS l) : l.Pairwise (fun a b => ¬ Lib.compareBytes b a < 0) := by
  rw [List.pairwise_iff_getElem]
  intro i j hi hj hij
  exact h i j hi hj hij
theorem risingS_one {l m : List Str} (hp : l.Perm m) (hl : RisingS l) (hm : RisingS m) : l = m := by
  refine hp.eq_of_pairwise (le := fun a b => ¬ Lib.compareBytes b a < 0) (fun a b _ _ h1 h2 => ?_) hl.pairwise hm.pairwise
  have t := orders_bytes.turn a b
  exact (orders_bytes.eq _ _).1 (by omega)

theorem nodup_key : ∀ {l : List Vd}, (l.map (·.m)).Nodup → ∀ a ∈ l, ∀ b ∈ l, a.m = b.m → a = b
  | [], _, _, h, _, _, _ => by cases h
  | y :: l, h, a, ha, b, hb, e => by
    rw [List.map_cons] at h
    obtain ⟨h1, h2⟩ := List.nodup_cons.1 h
    rcases List.mem_cons.1 ha with ea | ha'
    · rcases List.mem_cons.1 hb with eb | hb'
      · rw [ea, eb]
      · exact absurd (by rw [← ea, e]; exact List.mem_map_of_mem hb') h1
    · rcases List.mem_cons.1 hb with eb | hb'
      · exact absurd (by rw [← eb, ← e]; exact List.mem_map_of_mem ha') h1
      · exact nodup_key h2 a ha' b hb' e
theorem elt_one {y r s : Vd} (h : EltD y r) (k : EltD y s) : r = s := by
  obtain ⟨rm, rx, rp⟩ := r
  obtain ⟨sm, sx, sp⟩ := s
  obtain ⟨h1, h2, h3, h4⟩ := h
  obtain ⟨k1, k2, k3, k4⟩ := k
  simp only at h1 h2 h3 h4 k1 k2 k3 k4
  rw [h1, h2, k1, k2, risingS_one (h3.trans k3.symm) h4 k4]
theorem elts_one : ∀ {ys rs ss : List Vd}, Elts ys rs → Elts ys ss → rs = ss
  | _, _, _, .nil, .nil => rfl
  | _, _, _, .cons h hs, .cons k ks => by rw [elt_one h k, elts_one hs ks]
theorem VSort.one {l rs ss : List Vd} (hl : (l.map (·.m)).Nodup) (h : VSort l rs) (k : VSort l ss) : rs = ss := by
  obtain ⟨ys, h1, h2, h3⟩ := h
  obtain ⟨zs, k1, k2, k3⟩ := k
  have e : ys = zs := by
    refine (h1.trans k1.symm).eq_of_pairwise (le := fun a b : Vd => ¬ cmpM b.m a.m < 0) (fun a b ha hb u v => ?_) h2 k2
    have t := orders_m.turn a.m b.m
    exact nodup_key hl a (h1.mem_iff.1 ha) b (k1.mem_iff.1 hb) ((orders_m.eq _ _).1 (by omega))
  subst e
  exact elts_one h3 k3

theorem elts_map : ∀ {ys rs : List Vd}, Elts ys rs → rs.map (·.m) = ys.map (·.m)
  | _, _, .nil => rfl
  | _, _, .cons h hs => by rw [List.map_cons, List.map_cons, elts_map hs, h.1]
theorem elts_len : ∀ {ys rs : List Vd}, Elts ys rs → rs.length = ys.length
  | _, _, .nil => rfl
  | _, _, .cons _ hs => by rw [List.length_cons, List.length_cons, elts_len hs]
theorem elts_good : ∀ {ys rs : List Vd}, Elts ys rs → (∀ y ∈ ys, VdGood y) → ∀ r ∈ rs, VdGood r ∧ RisingS r.pk
  | _, _, .nil, _, r, hr => by cases hr
  | _, _, .cons (y := y) (r := s) h hs, hg, r, hr => by
    rcases List.mem_cons.1 hr with rfl | hr
    · have hy := hg y (by simp)
      obtain ⟨e1, e2, e3, e4⟩ := h
      refine ⟨⟨by rw [e1]; exact hy.c, fun q hq => by rw [e1]; exact hy.p q (e3.mem_iff.1 hq), (e3.nodup_iff).2 hy.n⟩, e4⟩
    · exact elts_good hs (fun z hz => hg z (List.mem_cons_of_mem _ hz)) r hr
theorem elts_of' : ∀ (ys rs : List Vd), rs.length = ys.length → (∀ j (h1 : j < rs.length) (h2 : j < ys.length), EltD ys[j] rs[j]) → Elts ys rs
  | [], [], _, _ => .nil
  | [], r :: rs, h, _ => by cases h
  | y :: ys, [], h, _ => by cases h
  | y :: ys, r :: rs, h, k => .cons (k 0 (by simp) (by simp)) (elts_of' ys rs (by simpa using h) fun j h1 h2 => by
      have := k (j + 1) (by simpa using h1) (by simpa using h2)
      simpa using this)
theorem elts_pk : ∀ {ys rs : List Vd}, Elts ys rs → ∀ r ∈ rs, ∃ y ∈ ys, r.pk.length = y.pk.length
  | _, _, .nil, r, hr => by cases hr
  | _, _, .cons (y := y) h hs, r, hr => by
    rcases List.mem_cons.1 hr with rfl | hr
    · exact ⟨y, by simp, h.2.2.1.length_eq⟩
    · obtain ⟨z, hz, e⟩ := elts_pk hs r hr
      exact ⟨z, List.mem_cons_of_mem _ hz, e⟩
theorem elts_same : ∀ {rs : List Vd}, (∀ r ∈ rs, RisingS r.pk) → Elts rs rs
  | [], _ => .nil
  | r :: rs, h => .cons ⟨rfl, rfl, List.Perm.refl _, h r (by simp)⟩ (elts_same fun z hz => h z (List.mem_cons_of_mem _ hz))
theorem elts_rising {ys rs : List Vd} (h : Elts ys rs) (hy : RisingM ys) : RisingM rs := by
  have e := elts_map h
  have key : ∀ l : List Vd, RisingM l ↔ (l.map (·.m)).Pairwise (fun a b => ¬ cmpM b a < 0) := fun l => by
    unfold RisingM
    rw [List.pairwise_map]
  rw [key] at hy ⊢
  rw [e]
  exact hy

theorem frontL_length (ps : List Str) : (frontL ps).length = (ps.map fun p => p.length + 1).sum := by
  induction ps with
  | nil => rfl
  | cons p ps ih =>
    have e : frontL (p :: ps) = (p ++ [10]) ++ frontL ps := by simp [frontL]
    rw [e, List.length_append, ih, List.map_cons, List.sum_cons]
    simp
theorem frontL_perm {a b : List Str} (h : a.Perm b) : (frontL a).length = (frontL b).length := by
  rw [frontL_length, frontL_length]
  exact (h.map _).sum_nat
theorem elt_text {y r : Vd} (h : EltD y r) : (vdT r).length = (vdT y).length := by
  obtain ⟨h1, h2, h3, _⟩ := h
  unfold vdT vdLs
  rw [h1, h2]
  exact frontL_perm ((h3.append_left _).cons _)
theorem elts_text : ∀ {ys rs : List Vd}, Elts ys rs → (vtextL rs).length = (vtextL ys).length
  | _, _, .nil => rfl
  | _, _, .cons h hs => by rw [vtext_cons, vtext_cons, List.length_append, List.length_append, elt_text h, elts_text hs]
theorem vtext_perm {a b : List Vd} (h : a.Perm b) : (vtextL a).length = (vtextL b).length := frontL_perm (h.flatMap_right _)

theorem VSort.text {l rs : List Vd} (h : VSort l rs) : (vtextL rs).length = (vtextL l).length := by
  obtain ⟨ys, h1, _, h3⟩ := h
  rw [elts_text h3, vtext_perm h1]
theorem VSort.len {l rs : List Vd} (h : VSort l rs) : rs.length = l.length := by
  obtain ⟨ys, h1, _, h3⟩ := h
  rw [elts_len h3, h1.length_eq]
theorem VSort.good {l rs : List Vd} (h : VSort l rs) (hl : Vends l) : Vends rs := by
  obtain ⟨ys, h1, _, h3⟩ := h
  refine ⟨fun r hr => (elts_good h3 (fun y hy => hl.1 y (h1.mem_iff.1 hy)) r hr).1, ?_⟩
  rw [elts_map h3]
  exact ((h1.map _).nodup_iff).2 hl.2
theorem elts_rise : ∀ {ys rs : List Vd}, Elts ys rs → ∀ r ∈ rs, RisingS r.pk
  | _, _, .nil, r, hr => by cases hr
  | _, _, .cons h hs, r, hr => by
    rcases List.mem_cons.1 hr with rfl | hr
    · exact h.2.2.2
    · exact elts_rise hs r hr
theorem VSort.again {l rs : List Vd} (h : VSort l rs) : VSort rs rs := by
  obtain ⟨ys, _, h2, h3⟩ := h
  exact ⟨rs, List.Perm.refl _, elts_rising h3 h2, elts_same (elts_rise h3)⟩

/-- What FormatVendor answers. -/
def VFOut (l : List Vd) (s : Str) (e : Int) : Prop :=
  (vendE [] l ≠ 0 ∧ e = vendE [] l ∧ s = []) ∨ (vendE [] l = 0 ∧ ∃ rs, VSort l rs ∧ ((65536 < (vtextL rs).length ∧ e = 13 ∧ s = []) ∨ ((vtextL rs).length ≤ 65536 ∧ e = 0 ∧ s = vtextL rs)))
theorem VFOut.one {l : List Vd} {s t : Str} {e f : Int} (h : VFOut l s e) (k : VFOut l t f) : s = t ∧ e = f := by
  rcases h with ⟨h1, rfl, rfl⟩ | ⟨h1, rs, h2, h3⟩ <;> rcases k with ⟨k1, rfl, rfl⟩ | ⟨k1, ss, k2, k3⟩
  · exact ⟨rfl, rfl⟩
  · exact absurd k1 h1
  · exact absurd h1 k1
  · have hs := VSort.one (vends_e.1 h1).2 h2 k2
    subst hs
    rcases h3 with ⟨a1, rfl, rfl⟩ | ⟨a1, rfl, rfl⟩ <;> rcases k3 with ⟨b1, rfl, rfl⟩ | ⟨b1, rfl, rfl⟩
    · exact ⟨rfl, rfl⟩
    · omega
    · omega
    · exact ⟨rfl, rfl⟩

/-! ### Read out of what was written -/

theorem full2 {ps : List Str} (h : fullB 2 ps = true) : ∃ a b, ps = [a, b] := by
  unfold fullB at h
  rw [Bool.and_eq_true, decide_eq_true_eq] at h
  match ps, h.1 with
  | [a, b], _ => exact ⟨a, b, rfl⟩
theorem head_is {l : Str} {m : Md} (h : modL l = some m) : headT m = l := by
  unfold modL at h
  split at h
  · rename_i hf
    obtain ⟨a, b, e⟩ := full2 hf.2
    rw [e] at h
    simp only [List.getD_cons_zero, List.getD_cons_succ, Option.some.injEq] at h
    have hl := glue_pieces 32 (Lib.trimPrefix l [35, 32])
    rw [e] at hl
    rw [prefix_split hf.1, ← hl, ← h]
    simp [headT, glue]
  · cases h
theorem head_back {m : Md} (h : checkR m.1 m.2 = 0) : modL (headT m) = some m := by
  have hp := clean_path h
  obtain ⟨hv, _⟩ := clean_ver h
  have e : headT m = [35, 32] ++ (m.1 ++ 32 :: m.2) := by simp [headT]
  have h1 : Lib.hasPrefix (headT m) [35, 32] = true := by rw [e]; simp [Lib.hasPrefix, List.isPrefixOf]
  have h2 : Lib.trimPrefix (headT m) [35, 32] = m.1 ++ 32 :: m.2 := by
    unfold Lib.trimPrefix
    rw [if_pos h1, e]
    rfl
  have h3 : pieces 32 (m.1 ++ 32 :: m.2) = [m.1, m.2] := by rw [pieces_join, pieces_one _ _ hp.sp, pieces_one _ _ hv.sp]; rfl
  have h4 : fullB 2 [m.1, m.2] = true := by
    unfold fullB
    have c0 : [m.1, m.2].contains [] = false := by
      rw [Bool.eq_false_iff]
      intro hc
      rw [List.contains_iff_mem] at hc
      simp only [List.mem_cons, List.not_mem_nil, or_false] at hc
      rcases hc with e | e
      · exact hp.ne e.symm
      · exact hv.ne e.symm
    rw [c0]
    rfl
  unfold modL
  rw [h2, h3, if_pos ⟨h1, h4⟩]
  rfl
theorem pk_none {l : Str} (h : Lib.hasPrefix l [35] = false) : modL l = none := by
  unfold modL
  rw [if_neg]
  rintro ⟨h1, _⟩
  rw [prefix_split h1] at h
  simp [Lib.hasPrefix, List.isPrefixOf] at h

/-- A state's modules are those of its list. -/
structure VSt (ms : List Md) (l : List Vd) : Prop where
  m : ∀ a, a ∈ ms ↔ a ∈ l.map (·.m)
  g : Vends l

theorem VSt.new {ms : List Md} {l : List Vd} {a : Md} (h : VSt ms l) (hc : checkR a.1 a.2 = 0) (hn : a ∉ ms) : VSt (a :: ms) (l ++ [⟨a, false, []⟩]) := by
  refine ⟨fun b => by simp [h.m b, or_comm], fun y hy => ?_, ?_⟩
  · rcases List.mem_append.1 hy with hy | hy
    · exact h.g.1 y hy
    · rw [List.mem_singleton] at hy
      subst hy
      exact ⟨hc, fun q hq => (by cases hq), List.nodup_nil⟩
  · rw [List.map_append]
    refine List.nodup_append.2 ⟨h.g.2, by simp, fun b hb c hc' e => ?_⟩
    simp at hc'
    subst hc'
    subst e
    exact hn ((h.m _).2 hb)
theorem VSt.last {ms : List Md} {xs : List Vd} {y y' : Vd} (h : VSt ms (xs ++ [y])) (hm : y'.m = y.m) (hy : VdGood y') : VSt ms (xs ++ [y']) := by
  have e : (xs ++ [y']).map (·.m) = (xs ++ [y]).map (·.m) := by simp [hm]
  refine ⟨fun a => by rw [e]; exact h.m a, fun z hz => ?_, by rw [e]; exact h.g.2⟩
  rcases List.mem_append.1 hz with hz | hz
  · exact h.g.1 z (List.mem_append_left _ hz)
  · rw [List.mem_singleton] at hz
    subst hz
    exact hy

theorem step_new {ms : List Md} {y : Option Vd} {l : Str} {a : Md} (h : stepV ms y l = .new a) : modL l = some a ∧ modE ms a = 0 := by
  unfold stepV at h
  split at h
  · rename_i m hm
    split at h
    · rename_i h0
      cases h
      exact ⟨hm, h0⟩
    · cases h
  · split at h
    · cases h
    · split at h
      · cases h
      · split at h
        · split at h <;> cases h
        · cases h
theorem step_same {ms : List Md} {y : Option Vd} {l : Str} {y' : Vd} (h : stepV ms y l = .same y') : ∃ y0, y = some y0 ∧ y'.m = y0.m ∧ vdLs y' = vdLs y0 ++ [l] ∧ (VdGood y0 → VdGood y') := by
  unfold stepV at h
  split at h
  · split at h <;> cases h
  · split at h
    · cases h
    · rename_i y0
      refine ⟨y0, rfl, ?_⟩
      split at h
      · rename_i h1
        cases h
        obtain ⟨rfl, hx, hp⟩ := h1
        refine ⟨rfl, ?_, fun g => ⟨g.c, g.p, g.n⟩⟩
        unfold vdLs
        simp [hx, hp]
      · split at h
        · split at h
          · rename_i h0
            cases h
            obtain ⟨h3, h4⟩ := imp_zero.1 h0
            refine ⟨rfl, ?_, fun g => ⟨g.c, fun q hq => ?_, ?_⟩⟩
            · unfold vdLs; simp
            · rcases List.mem_append.1 hq with hq | hq
              · exact g.p q hq
              · rw [List.mem_singleton] at hq; subst hq; exact h3
            · refine List.nodup_append.2 ⟨g.n, by simp, fun b hb c hc e => ?_⟩
              rw [List.mem_singleton] at hc
              subst hc
              subst e
              exact h4 (by simpa using hb)
          · cases h
        · cases h

theorem vend_zero : ∀ (ls : List Str) (ms : List Md) (xs : List Vd) (y : Option Vd) (k : Nat), ls ≠ [] → VSt ms (xs ++ y.toList) → (vndF ms xs y k ls).2.2 = 0 → (vndF ms xs y k ls).2.1 = 0 ∧ Vends (vndF ms xs y k ls).1 ∧ ∃ ls', ls = ls' ++ [[]] ∧ (vndF ms xs y k ls).1.flatMap vdLs = (xs ++ y.toList).flatMap vdLs ++ ls'
  | [], _, _, _, _, h, _, _ => absurd rfl h
  | [l], ms, xs, y, k, _, hst, h => by
    unfold vndF at h ⊢
    by_cases hl : l = []
    · rw [if_pos hl]
      exact ⟨rfl, hst.g, [], by rw [hl]; rfl, by simp⟩
    · rw [if_neg hl] at h
      cases hs : stepV ms y l with
      | bad e => rw [hs] at h; exact absurd h (stepV_ne hs)
      | new a => rw [hs] at h; simp at h
      | same y' => rw [hs] at h; simp at h
  | l :: m :: ls, ms, xs, y, k, _, hst, h => by
    cases hs : stepV ms y l with
    | bad e =>
      unfold vndF at h
      rw [hs] at h
      exact absurd h (stepV_ne hs)
    | new a =>
      have e1 : vndF ms xs y k (l :: m :: ls) = vndF (a :: ms) (xs ++ y.toList) (some ⟨a, false, []⟩) (k + 1) (m :: ls) := by conv => lhs; unfold vndF; rw [hs]
      rw [e1] at h ⊢
      obtain ⟨ha, h0⟩ := step_new hs
      obtain ⟨hc, hn⟩ := mod_zero.1 h0
      obtain ⟨h1, h2, ls', h3, h4⟩ := vend_zero (m :: ls) (a :: ms) (xs ++ y.toList) (some ⟨a, false, []⟩) (k + 1) (by simp) (hst.new hc hn) h
      refine ⟨h1, h2, l :: ls', by rw [h3]; rfl, ?_⟩
      rw [h4, ← head_is ha]
      simp [vdLs]
    | same y' =>
      have e1 : vndF ms xs y k (l :: m :: ls) = vndF ms xs (some y') (k + 1) (m :: ls) := by conv => lhs; unfold vndF; rw [hs]
      rw [e1] at h ⊢
      obtain ⟨y0, rfl, hm, hv, hg⟩ := step_same hs
      have hst' : VSt ms (xs ++ [y']) := hst.last hm (hg (hst.g.1 y0 (by simp)))
      obtain ⟨h1, h2, ls', h3, h4⟩ := vend_zero (m :: ls) ms xs (some y') (k + 1) (by simp) hst' h
      refine ⟨h1, h2, l :: ls', by rw [h3]; rfl, ?_⟩
      rw [h4]
      simp [hv]

theorem step_pack {ms : List Md} {y : Vd} {l : Str} (h1 : Under y.m.1 l) (h2 : l ∉ y.pk) : stepV ms (some y) l = .same ⟨y.m, y.x, y.pk ++ [l]⟩ := by
  have hm := import_mark h1.1
  have hne : l ≠ [] := (import_pth h1.1).2
  have hx : l ≠ explL := fun e => by rw [e] at hm; exact absurd hm (by decide)
  unfold stepV
  rw [pk_none hm]
  simp only
  rw [if_neg (fun h => hx h.1), if_pos ⟨hne, hm⟩, if_pos (imp_zero.2 ⟨h1, by simpa using h2⟩)]

theorem vend_pks : ∀ (qs : List Str) (ms : List Md) (xs : List Vd) (y : Vd) (k : Nat) (p : Str) (ps : List Str), VdGood ⟨y.m, y.x, y.pk ++ qs⟩ → ∃ k', vndF ms xs (some y) k (qs ++ p :: ps) = vndF ms xs (some ⟨y.m, y.x, y.pk ++ qs⟩) k' (p :: ps)
  | [], ms, xs, y, k, p, ps, _ => ⟨k, by simp⟩
  | q :: qs, ms, xs, y, k, p, ps, h => by
    have hq : Under y.m.1 q := h.p q (by simp)
    have hn : q ∉ y.pk := fun hq2 => by
      have := (List.nodup_append.1 h.n).2.2 q hq2 q (by simp)
      exact this rfl
    have hs := step_pack (ms := ms) (y := y) hq hn
    obtain ⟨m, ls, hm⟩ : ∃ m ls, qs ++ p :: ps = m :: ls := by
      cases qs with
      | nil => exact ⟨_, _, rfl⟩
      | cons a qs => exact ⟨_, _, rfl⟩
    obtain ⟨k', hk⟩ := vend_pks qs ms xs ⟨y.m, y.x, y.pk ++ [q]⟩ (k + 1) p ps (by simpa using h)
    refine ⟨k', ?_⟩
    rw [List.cons_append, hm]
    rw [hm] at hk
    conv => lhs; unfold vndF
    rw [hs]
    simp only
    rw [hk]
    simp

theorem vend_one {ms : List Md} {xs : List Vd} {y : Option Vd} {k : Nat} {z : Vd} {p : Str} {ps : List Str} (hg : VdGood z) (hn : z.m ∉ ms) : ∃ k', vndF ms xs y k (vdLs z ++ p :: ps) = vndF (z.m :: ms) (xs ++ y.toList) (some z) k' (p :: ps) := by
  obtain ⟨m, x, pk⟩ := z
  have hs : stepV ms y (headT m) = .new m := by
    unfold stepV
    rw [head_back hg.c]
    simp only
    rw [if_pos (mod_zero.2 ⟨hg.c, hn⟩)]
  have tail : ∀ l : List Str, ∃ a b, l ++ p :: ps = a :: b := fun l => by
    cases l with
    | nil => exact ⟨_, _, rfl⟩
    | cons a l => exact ⟨_, _, rfl⟩
  have e1 : ∀ l : List Str, vndF ms xs y k ((headT m :: l) ++ p :: ps) = vndF (m :: ms) (xs ++ y.toList) (some ⟨m, false, []⟩) (k + 1) (l ++ p :: ps) := fun l => by
    obtain ⟨a, b, hl⟩ := tail l
    rw [List.cons_append, hl]
    conv => lhs; unfold vndF
    rw [hs]
  unfold vdLs
  rw [e1]
  simp only
  cases x with
  | false =>
    obtain ⟨k', hk⟩ := vend_pks pk (m :: ms) (xs ++ y.toList) ⟨m, false, []⟩ (k + 1) p ps (by simpa using hg)
    exact ⟨k', by simpa using hk⟩
  | true =>
    obtain ⟨k', hk⟩ := vend_pks pk (m :: ms) (xs ++ y.toList) ⟨m, true, []⟩ (k + 2) p ps (by simpa using hg)
    refine ⟨k', ?_⟩
    have hx : stepV (m :: ms) (some ⟨m, false, []⟩) explL = .same ⟨m, true, []⟩ := by
      have hm0 : modL explL = none := by decide
      unfold stepV
      rw [hm0]
      simp
    obtain ⟨a, b, hl⟩ := tail pk
    rw [if_pos rfl, List.append_assoc, List.singleton_append, hl]
    rw [hl] at hk
    conv => lhs; unfold vndF
    rw [hx]
    simpa using hk

theorem vend_some : ∀ (rs : List Vd) (ms : List Md) (xs : List Vd) (y : Option Vd) (k : Nat), (∀ r ∈ rs, VdGood r ∧ r.m ∉ ms) → (rs.map (·.m)).Nodup → vndF ms xs y k (rs.flatMap vdLs ++ [[]]) = ((xs ++ y.toList) ++ rs, 0, 0)
  | [], ms, xs, y, k, _, _ => by simp [vndF]
  | r :: rs, ms, xs, y, k, h, hn => by
    rw [List.map_cons] at hn
    obtain ⟨n1, n2⟩ := List.nodup_cons.1 hn
    obtain ⟨p, ps, hp⟩ : ∃ p ps, rs.flatMap vdLs ++ [[]] = p :: ps := by
      cases he : rs.flatMap vdLs with
      | nil => exact ⟨_, _, rfl⟩
      | cons a b => exact ⟨_, _, rfl⟩
    obtain ⟨k', hk⟩ := vend_one (xs := xs) (y := y) (k := k) (p := p) (ps := ps) (h r (by simp)).1 (h r (by simp)).2
    rw [List.flatMap_cons, List.append_assoc, hp, hk, ← hp, vend_some rs (r.m :: ms) (xs ++ y.toList) (some r) k' (fun z hz => ⟨(h z (List.mem_cons_of_mem _ hz)).1, fun hm => ?_⟩) n2]
    · simp
    · rcases List.mem_cons.1 hm with e | hm
      · exact n1 (by rw [← e]; exact List.mem_map_of_mem hz)
      · exact (h z (List.mem_cons_of_mem _ hz)).2 hm

theorem vd_free {y : Vd} (h : VdGood y) : ∀ p ∈ vdLs y, p.contains 10 = false := by
  intro p hp
  unfold vdLs at hp
  rcases List.mem_cons.1 hp with rfl | hp
  · unfold headT
    simp only [contains_append, (clean_path h.c).nl, (clean_ver h.c).1.nl]
    decide
  · rcases List.mem_append.1 hp with hp | hp
    · split at hp
      · rw [List.mem_singleton] at hp; subst hp; decide
      · cases hp
    · exact (clean_import (h.p p hp).1).nl
theorem pieces_vtext {l : List Vd} (h : ∀ y ∈ l, VdGood y) : pieces 10 (vtextL l) = l.flatMap vdLs ++ [[]] := by
  refine pieces_front _ fun p hp => ?_
  obtain ⟨y, hy, hp⟩ := List.mem_flatMap.1 hp
  exact vd_free (h y hy) p hp

theorem vendF_text {l : List Vd} (h : Vends l) (ht : (vtextL l).length ≤ 65536) : vendF (vtextL l) = (l, 0, 0) := by
  unfold vendF
  rw [if_neg (by omega), read_vend _ _ _ _ _ _ (Nat.le_refl _), pieces_vtext h.1, vend_some l [] [] none 1 (fun r hr => ⟨h.1 r hr, by simp⟩) h.2]
  simp
theorem vendF_zero {t : Str} (h : (vendF t).2.2 = 0) : (vendF t).2.1 = 0 ∧ Vends (vendF t).1 ∧ t = vtextL (vendF t).1 ∧ t.length ≤ 65536 := by
  unfold vendF at h ⊢
  by_cases ht : 65536 < t.length
  · rw [if_pos ht] at h; simp at h
  · rw [if_neg ht] at h ⊢
    rw [read_vend _ _ _ _ _ _ (Nat.le_refl _)] at h ⊢
    obtain ⟨h1, h2, ls', h3, h4⟩ := vend_zero (pieces 10 t) [] [] none 1 (pieces_ne _ _) ⟨fun a => by simp, fun y hy => (by cases hy), by simp⟩ h
    refine ⟨h1, h2, ?_, by omega⟩
    unfold vtextL
    rw [h4]
    simpa using front_inj h3
theorem vnd_bad : ∀ (ls : List Str) (ms : List Md) (xs : List Vd) (y : Option Vd) (k : Nat), (vndF ms xs y k ls).2.2 ≠ 0 → (vndF ms xs y k ls).1 = []
  | [], _, _, _, _, h => absurd rfl h
  | [l], ms, xs, y, k, h => by
    unfold vndF at h ⊢
    split
    · rename_i hl
      rw [if_pos hl] at h
      exact absurd rfl h
    · split <;> rfl
  | l :: m :: ls, ms, xs, y, k, h => by
    unfold vndF at h ⊢
    split
    · rfl
    · rename_i a hs
      rw [hs] at h
      exact vnd_bad (m :: ls) _ _ _ _ h
    · rename_i y' hs
      rw [hs] at h
      exact vnd_bad (m :: ls) _ _ _ _ h
theorem vendF_bad {t : Str} (h : (vendF t).2.2 ≠ 0) : (vendF t).1 = [] := by
  unfold vendF at h ⊢
  split
  · rfl
  · rename_i ht
    rw [if_neg ht] at h
    rw [read_vend _ _ _ _ _ _ (Nat.le_refl _)] at h ⊢
    exact vnd_bad _ _ _ _ _ h

/-- What is printed is read back, and printed again. -/
theorem vprint_back {l ds : List Vd} {s : Str} (h : VFOut l s 0) (hd : VSort (vendF s).1 ds) : (vendF s).2.1 = 0 ∧ (vendF s).2.2 = 0 ∧ ds.length = l.length ∧ ∀ t g, VFOut ds t g → t = s ∧ g = 0 := by
  rcases h with ⟨h1, h2, _⟩ | ⟨h0, rs, hs, h⟩
  · exact absurd h2.symm h1
  · rcases h with ⟨_, h, _⟩ | ⟨hlen, _, rfl⟩
    · cases h
    · have hr := hs.good (vends_e.1 h0)
      rw [vendF_text hr hlen] at hd ⊢
      have e : ds = rs := VSort.one hr.2 hd hs.again
      subst e
      exact ⟨rfl, rfl, hs.len, fun t g hf => hf.one (Or.inr ⟨vends_e.2 hr, ds, hs.again, Or.inr ⟨hlen, rfl, rfl⟩⟩)⟩
/-- What was read is printed. -/
theorem vread_back {t s : Str} {ds : List Vd} {g : Int} (h : (vendF t).2.2 = 0) (hd : VSort (vendF t).1 ds) (hf : VFOut ds s g) : g = 0 ∧ s.length = t.length := by
  obtain ⟨_, h2, h3, h4⟩ := vendF_zero h
  have hg := hd.good h2
  have hl := hd.text
  rw [← h3] at hl
  obtain ⟨a, b⟩ := hf.one (Or.inr ⟨vends_e.2 hg, ds, hd.again, Or.inr ⟨by omega, rfl, rfl⟩⟩)
  rw [a]
  exact ⟨b, hl⟩

end Go.Proofs.YthcafeoamabkgaaGreatDoor
