/-
  The first line that is at fault: the lines ahead of it can be read.
-/
import Derived.Test.YthcafeoamabkgaaGreatDoorVenZ
import Derived.Test.YthcafeoamabkgaaGreatDoorWrtX
namespace Go.Proofs.YthcafeoamabkgaaGreatDoor
open Go.RowKit

/-- The lines of a vendor list. -/
def vndF : List Md → List Vd → Option Vd → Nat → List Str → List Vd × Nat × Int
  | _, xs, y, _, [] => (xs ++ y.toList, 0, 0)
  | ms, xs, y, k, [l] => if l = [] then (xs ++ y.toList, 0, 0) else match stepV ms y l with
    | .bad e => ([], k, e)
    | .new _ => ([], k, 11)
    | .same _ => ([], k, 11)
  | ms, xs, y, k, l :: m :: ls => match stepV ms y l with
    | .bad e => ([], k, e)
    | .new a => vndF (a :: ms) (xs ++ y.toList) (some ⟨a, false, []⟩) (k + 1) (m :: ls)
    | .same y' => vndF ms xs (some y') (k + 1) (m :: ls)

theorem stepV_nil {ms : List Md} {y : Option Vd} : stepV ms y [] = .bad 11 := by
  have hm : modL [] = none := by decide
  unfold stepV
  rw [hm]
  cases y with
  | none => rfl
  | some y => simp [explL]

theorem read_vend : ∀ (f : Nat) (ms : List Md) (xs : List Vd) (y : Option Vd) (k : Nat) (t : Str), t.length ≤ f → readV f ms xs y k t = vndF ms xs y k (pieces 10 t)
  | 0, ms, xs, y, k, t, hf => by
    have ht : t = [] := List.length_eq_zero_iff.1 (by omega)
    subst ht
    rfl
  | f + 1, ms, xs, y, k, t, hf => by
    unfold readV
    by_cases ht : t = []
    · subst ht
      rfl
    · rw [if_neg ht]
      cases hc : t.contains 10 with
      | false =>
        obtain ⟨e1, _⟩ := ahead_none 10 t hc
        rw [pieces_one 10 t hc, e1]
        unfold vndF
        rw [if_neg ht]
        cases hl : stepV ms y t with
        | bad e => rfl
        | new m => simp
        | same y' => simp
      | true =>
        have e1 := ahead_behind 10 t hc
        have hfree := ahead_free 10 t
        have hp : pieces 10 t = ahead 10 t :: pieces 10 (behind 10 t) := by
          conv => lhs; rw [e1]
          rw [pieces_join, pieces_one 10 _ hfree]
          rfl
        have hlt := behind_lt 10 ht
        have ih := fun ms xs y k => read_vend f ms xs y k (behind 10 t) (by omega)
        rw [hp]
        obtain ⟨m, ls, hm⟩ : ∃ m ls, pieces 10 (behind 10 t) = m :: ls := by
          cases h : pieces 10 (behind 10 t) with
          | nil => exact absurd h (pieces_ne _ _)
          | cons m ls => exact ⟨m, ls, rfl⟩
        rw [hm] at ih ⊢
        unfold vndF
        cases hl : stepV ms y (ahead 10 t) with
        | bad e => rfl
        | new a => simp only [if_true]; exact ih _ _ _ _
        | same y' => simp only [if_true]; exact ih _ _ _ _

theorem vnd_front : ∀ (ls : List Str) (ms : List Md) (xs : List Vd) (y : Option Vd) (k : Nat), (vndF ms xs y k ls).2.2 ≠ 0 → k ≤ (vndF ms xs y k ls).2.1 ∧ (vndF ms xs y k (ls.take ((vndF ms xs y k ls).2.1 - k) ++ [[]])).2.2 = 0
  | [], ms, xs, y, k, h => absurd rfl h
  | [l], ms, xs, y, k, h => by
    have e1 : k ≤ (vndF ms xs y k [l]).2.1 ∧ (vndF ms xs y k [l]).2.1 - k = 0 := by
      unfold vndF at h ⊢
      by_cases hl : l = []
      · rw [if_pos hl] at h; exact absurd rfl h
      · rw [if_neg hl]
        cases stepV ms y l <;> simp
    rw [e1.2]
    exact ⟨e1.1, rfl⟩
  | l :: m :: ls, ms, xs, y, k, h => by
    have base : ∀ n, n = k → k ≤ n ∧ (vndF ms xs y k ((l :: m :: ls).take (n - k) ++ [[]])).2.2 = 0 := fun n hn => by
      subst hn
      rw [Nat.sub_self]
      exact ⟨Nat.le_refl _, rfl⟩
    have tail : ∀ j, ∃ p ps, (m :: ls).take j ++ [[]] = p :: ps := fun j => by
      cases j with
      | zero => exact ⟨[], [], rfl⟩
      | succ j => exact ⟨m, ls.take j ++ [[]], rfl⟩
    cases hs : stepV ms y l with
    | bad e =>
      have e1 : vndF ms xs y k (l :: m :: ls) = ([], k, e) := by conv => lhs; unfold vndF; rw [hs]
      rw [e1]
      exact base k rfl
    | new a =>
      have e1 : ∀ p ps, vndF ms xs y k (l :: p :: ps) = vndF (a :: ms) (xs ++ y.toList) (some ⟨a, false, []⟩) (k + 1) (p :: ps) := fun p ps => by conv => lhs; unfold vndF; rw [hs]
      rw [e1] at h ⊢
      obtain ⟨h1, h2⟩ := vnd_front (m :: ls) (a :: ms) (xs ++ y.toList) (some ⟨a, false, []⟩) (k + 1) h
      obtain ⟨n, hn⟩ : ∃ n, (vndF (a :: ms) (xs ++ y.toList) (some ⟨a, false, []⟩) (k + 1) (m :: ls)).2.1 = n := ⟨_, rfl⟩
      rw [hn] at h1 h2 ⊢
      have e2 : n - k = (n - (k + 1)) + 1 := by omega
      refine ⟨by omega, ?_⟩
      rw [e2, List.take_succ_cons, List.cons_append]
      obtain ⟨p, ps, hp⟩ := tail (n - (k + 1))
      rw [hp] at h2 ⊢
      rw [e1]
      exact h2
    | same y' =>
      have e1 : ∀ p ps, vndF ms xs y k (l :: p :: ps) = vndF ms xs (some y') (k + 1) (p :: ps) := fun p ps => by conv => lhs; unfold vndF; rw [hs]
      rw [e1] at h ⊢
      obtain ⟨h1, h2⟩ := vnd_front (m :: ls) ms xs (some y') (k + 1) h
      obtain ⟨n, hn⟩ : ∃ n, (vndF ms xs (some y') (k + 1) (m :: ls)).2.1 = n := ⟨_, rfl⟩
      rw [hn] at h1 h2 ⊢
      have e2 : n - k = (n - (k + 1)) + 1 := by omega
      refine ⟨by omega, ?_⟩
      rw [e2, List.take_succ_cons, List.cons_append]
      obtain ⟨p, ps, hp⟩ := tail (n - (k + 1))
      rw [hp] at h2 ⊢
      rw [e1]
      exact h2

theorem lock_front : ∀ (ls : List Str) (xs : List Ln) (k : Nat), (lockF xs k ls).2.2 ≠ 0 → k ≤ (lockF xs k ls).2.1 ∧ (lockF xs k (ls.take ((lockF xs k ls).2.1 - k) ++ [[]])).2.2 = 0
  | [], xs, k, h => absurd rfl h
  | [l], xs, k, h => by
    have e1 : k ≤ (lockF xs k [l]).2.1 ∧ (lockF xs k [l]).2.1 - k = 0 := by
      unfold lockF at h ⊢
      by_cases hl : l = []
      · rw [if_pos hl] at h; exact absurd rfl h
      · rw [if_neg hl]
        cases lineR l with
        | none => simp
        | some x => simp only; split <;> simp
    rw [e1.2]
    exact ⟨e1.1, rfl⟩
  | l :: m :: ls, xs, k, h => by
    have base : ∀ n, n = k → k ≤ n ∧ (lockF xs k ((l :: m :: ls).take (n - k) ++ [[]])).2.2 = 0 := fun n hn => by
      subst hn
      rw [Nat.sub_self]
      exact ⟨Nat.le_refl _, rfl⟩
    have tail : ∀ j, ∃ p ps, (m :: ls).take j ++ [[]] = p :: ps := fun j => by
      cases j with
      | zero => exact ⟨[], [], rfl⟩
      | succ j => exact ⟨m, ls.take j ++ [[]], rfl⟩
    cases hs : lineR l with
    | none =>
      have e1 : lockF xs k (l :: m :: ls) = ([], k, 11) := by conv => lhs; unfold lockF; rw [hs]
      rw [e1]
      exact base k rfl
    | some x =>
      by_cases h0 : oneE xs x = 0
      · have e1 : ∀ p ps, lockF xs k (l :: p :: ps) = lockF (xs ++ [x]) (k + 1) (p :: ps) := fun p ps => by conv => lhs; unfold lockF; rw [hs]; simp only; rw [if_neg (by simp [h0])]
        rw [e1] at h ⊢
        obtain ⟨h1, h2⟩ := lock_front (m :: ls) (xs ++ [x]) (k + 1) h
        obtain ⟨n, hn⟩ : ∃ n, (lockF (xs ++ [x]) (k + 1) (m :: ls)).2.1 = n := ⟨_, rfl⟩
        rw [hn] at h1 h2 ⊢
        have e2 : n - k = (n - (k + 1)) + 1 := by omega
        refine ⟨by omega, ?_⟩
        rw [e2, List.take_succ_cons, List.cons_append]
        obtain ⟨p, ps, hp⟩ := tail (n - (k + 1))
        rw [hp] at h2 ⊢
        rw [e1]
        exact h2
      · have e1 : lockF xs k (l :: m :: ls) = ([], k, oneE xs x) := by conv => lhs; unfold lockF; rw [hs]; simp only; rw [if_pos h0]
        rw [e1]
        exact base k rfl

theorem lock_num : ∀ (ls : List Str) (xs : List Ln) (k : Nat), (lockF xs k ls).2.1 ≤ k + ls.length
  | [], xs, k => Nat.zero_le _
  | [l], xs, k => by
    unfold lockF
    split
    · exact Nat.zero_le _
    · split
      · exact Nat.le_add_right _ _
      · split <;> exact Nat.le_add_right _ _
  | l :: m :: ls, xs, k => by
    unfold lockF
    split
    · exact Nat.le_add_right _ _
    · split
      · exact Nat.le_add_right _ _
      · rename_i x _ _
        have := lock_num (m :: ls) (xs ++ [x]) (k + 1)
        simp only [List.length_cons] at this ⊢
        omega
theorem vnd_num : ∀ (ls : List Str) (ms : List Md) (xs : List Vd) (y : Option Vd) (k : Nat), (vndF ms xs y k ls).2.1 ≤ k + ls.length
  | [], ms, xs, y, k => Nat.zero_le _
  | [l], ms, xs, y, k => by
    unfold vndF
    split
    · exact Nat.zero_le _
    · split <;> exact Nat.le_add_right _ _
  | l :: m :: ls, ms, xs, y, k => by
    unfold vndF
    split
    · exact Nat.le_add_right _ _
    · rename_i a _
      have := vnd_num (m :: ls) (a :: ms) (xs ++ y.toList) (some ⟨a, false, []⟩) (k + 1)
      simp only [List.length_cons] at this ⊢
      omega
    · rename_i y' _
      have := vnd_num (m :: ls) ms xs (some y') (k + 1)
      simp only [List.length_cons] at this ⊢
      omega

/-- Lines, each with its end. -/
def frontL (ps : List Str) : Str := ps.flatMap fun p => p ++ [10]
theorem frontL_snoc (ps : List Str) (p : Str) : frontL (ps ++ [p]) = (frontL ps ++ p) ++ [10] := by simp [frontL]
theorem pieces_front : ∀ (ps : List Str), (∀ p ∈ ps, p.contains 10 = false) → pieces 10 (frontL ps) = ps ++ [[]]
  | [], _ => rfl
  | p :: ps, h => by
    have e : frontL (p :: ps) = p ++ 10 :: frontL ps := by simp [frontL]
    rw [e, pieces_join, pieces_one 10 p (h p (by simp)), pieces_front ps (fun q hq => h q (by simp [hq]))]
    rfl
theorem front_len (ps : List Str) (k : Nat) : (frontL (ps.take k)).length ≤ (frontL ps).length := by
  have e : frontL ps = frontL (ps.take k) ++ frontL (ps.drop k) := by
    unfold frontL
    rw [← List.flatMap_append, List.take_append_drop]
  rw [e, List.length_append]
  omega
theorem front_glue : ∀ (ps : List Str), ps ≠ [] → frontL ps = glue 10 ps ++ [10]
  | [], h => absurd rfl h
  | [p], _ => by simp [frontL, glue]
  | p :: q :: ps, _ => by
    have ih := front_glue (q :: ps) (by simp)
    have e : frontL (p :: q :: ps) = (p ++ [10]) ++ frontL (q :: ps) := by simp [frontL]
    rw [e, ih]
    simp [glue]
theorem front_size (t : Str) (k : Nat) : (frontL ((pieces 10 t).take k)).length ≤ t.length + 1 := by
  have h := front_len (pieces 10 t) k
  rw [front_glue _ (pieces_ne 10 t), glue_pieces, List.length_append] at h
  exact h

theorem POut.num {t : Str} {ys : List Ln} {n : Nat} {e : Int} (h : POut t ys n e) : n ≤ 1 + (pieces 10 t).length := by
  rcases h with ⟨_, _, rfl, _⟩ | ⟨_, _, _, rfl, _⟩
  · exact Nat.zero_le _
  · exact lock_num _ _ _
theorem readV_num (t : Str) : (readV t.length [] [] none 1 t).2.1 ≤ 1 + (pieces 10 t).length := by
  rw [read_vend _ _ _ _ _ _ (Nat.le_refl _)]
  exact vnd_num _ _ _ _ _

/-- What Parse tells of the lines ahead of the one at fault. -/
theorem lock_good {t : Str} {ys zs : List Ln} {n m : Nat} {e f : Int} (ht : t.length ≤ 65536) (h : POut t ys n e) (he : e ≠ 0) (k : POut (frontL ((pieces 10 t).take (n - 1))) zs m f) (hl : (frontL ((pieces 10 t).take (n - 1))).length ≤ 65536) : f = 0 := by
  rcases h with ⟨h, _⟩ | ⟨_, _, _, rfl, rfl⟩
  · omega
  · rcases k with ⟨k, _⟩ | ⟨_, _, _, _, rfl⟩
    · omega
    · have := (lock_front _ _ _ he).2
      rw [pieces_front _ (fun p hp => pieces_free 10 t p (List.mem_of_mem_take hp))]
      exact this

theorem vend_good {t : Str} (_ht : t.length ≤ 65536) (he : (readV t.length [] [] none 1 t).2.2 ≠ 0) : (readV (frontL ((pieces 10 t).take ((readV t.length [] [] none 1 t).2.1 - 1))).length [] [] none 1 (frontL ((pieces 10 t).take ((readV t.length [] [] none 1 t).2.1 - 1)))).2.2 = 0 := by
  rw [read_vend _ _ _ _ _ _ (Nat.le_refl _)] at he
  rw [read_vend _ _ _ _ _ t (Nat.le_refl _), read_vend _ _ _ _ _ _ (Nat.le_refl _), pieces_front _ (fun p hp => pieces_free 10 t p (List.mem_of_mem_take hp))]
  exact (vnd_front _ _ _ _ _ he).2

end Go.Proofs.YthcafeoamabkgaaGreatDoor
