/-
  Locks as plain data: what both Parses and both Formats answer.
-/
import Derived.Test.YthcafeoamabkgaaGreatDoorFrsX
import Derived.Test.YthcafeoamabkgaaGreatDoorFewX
import Derived.Test.YthcafeoamabkgaaGreatDoorMergQ
import Derived.Test.YthcafeoamabkgaaGreatDoorPure5
namespace Go.Proofs.YthcafeoamabkgaaGreatDoor
open Go.RowKit

/-- A line's text. -/
def verT (x : Ln) : Str := if x.k = 1 then x.v ++ gmL else x.v
def lineT (x : Ln) : Str := ((((x.p ++ [32]) ++ verT x) ++ [32]) ++ x.s) ++ [10]

set_option maxHeartbeats 1000000 in
theorem writeLine_any {x : Ln} (h1 : x.p.length ≤ 1099511627776) (h2 : x.v.length ≤ 1099511627776) (h3 : x.s.length ≤ 1099511627776) (w : World) : Calls Tryz.prog 49 #[lnV x] w fun e w' => e = .returned (.string (ba (lineT x))) ∧ Below w.heap.size w w' := by
  obtain ⟨p, v, k, s⟩ := x
  simp only at h1 h2 h3
  obtain ⟨b, hb⟩ : ∃ b, verT ⟨p, v, k, s⟩ = b := ⟨_, rfl⟩
  obtain ⟨t, ht⟩ : ∃ t, lineT ⟨p, v, k, s⟩ = t := ⟨_, rfl⟩
  have HT : Hid (t = ((((p ++ [32]) ++ b) ++ [32]) ++ s) ++ [10]) := hide (by rw [← ht, ← hb]; rfl)
  rw [ht]
  have hbl : b.length ≤ 1099511627783 := by
    rw [← hb]
    unfold verT
    simp only
    split
    · rw [List.length_append]; simp [gmL]; omega
    · omega
  have z1 := ba_size p
  have z2 := ba_size v
  have z3 := ba_size s
  have z4 := ba_size b
  have y1 : (ba (p ++ [32])).size = p.length + 1 := by rw [ba_size]; simp
  have y2 : (ba ((p ++ [32]) ++ b)).size = p.length + 1 + b.length := by rw [ba_size]; simp; omega
  have y3 : (ba (((p ++ [32]) ++ b) ++ [32])).size = p.length + 1 + b.length + 1 := by rw [ba_size]; simp; omega
  have y4 : (ba ((((p ++ [32]) ++ b) ++ [32]) ++ s)).size = p.length + 1 + b.length + 1 + s.length := by rw [ba_size]; simp; omega
  have c1 : ba p ++ ⟨#[32]⟩ = ba (p ++ [32]) := ba_app p [32]
  have c2 : ba (p ++ [32]) ++ ba b = ba ((p ++ [32]) ++ b) := ba_app _ _
  have c3 : ba ((p ++ [32]) ++ b) ++ ⟨#[32]⟩ = ba (((p ++ [32]) ++ b) ++ [32]) := ba_app _ [32]
  have c4 : ba (((p ++ [32]) ++ b) ++ [32]) ++ ba s = ba ((((p ++ [32]) ++ b) ++ [32]) ++ s) := ba_app _ _
  have c5 : ba ((((p ++ [32]) ++ b) ++ [32]) ++ s) ++ ⟨#[10]⟩ = ba t := by rw [unhide HT]; exact ba_app _ [10]
  clear ht
  by_cases hk : k = 1
  · have c0 : ba v ++ ⟨#[47, 103, 111, 46, 109, 111, 100]⟩ = ba b := by
      rw [← hb]
      unfold verT
      simp only
      rw [if_pos hk]
      exact ba_app v gmL
    subst hk
    clear hb
    generalize hq1 : ba (p ++ [32]) = q1 at *
    generalize hq2 : ba ((p ++ [32]) ++ b) = q2 at *
    generalize hq3 : ba (((p ++ [32]) ++ b) ++ [32]) = q3 at *
    generalize hq4 : ba ((((p ++ [32]) ++ b) ++ [32]) ++ s) = q4 at *
    clear hq1 hq2 hq3 hq4 HT
    go_enter Tryz.func49, Tryz.ntmps49
    go_wp2
    go_ret
    exact ⟨rfl, (Below.refl _ _).alloc (Nat.le_refl _) _⟩
  · have hvb : v = b := by
      rw [← hb]
      unfold verT
      simp only
      rw [if_neg hk]
    subst hvb
    have hk' : (k == 1) = false := by simpa using hk
    clear hb hk
    generalize hq1 : ba (p ++ [32]) = q1 at *
    generalize hq2 : ba ((p ++ [32]) ++ v) = q2 at *
    generalize hq3 : ba (((p ++ [32]) ++ v) ++ [32]) = q3 at *
    generalize hq4 : ba ((((p ++ [32]) ++ v) ++ [32]) ++ s) = q4 at *
    clear hq1 hq2 hq3 hq4 HT
    go_enter Tryz.func49, Tryz.ntmps49
    go_wp2
    go_ret
    exact ⟨rfl, (Below.refl _ _).alloc (Nat.le_refl _) _⟩

end Go.Proofs.YthcafeoamabkgaaGreatDoor

namespace Go.Proofs.YthcafeoamabkgaaGreatDoor
open Go.RowKit

/-- The error of a line whose kind is good, with those ahead. -/
def oneE (xs : List Ln) (x : Ln) : Int :=
  if checkR x.p x.v ≠ 0 then (checkR x.p x.v : Int) else if sumB x.s then (if ∃ y ∈ xs, keyL y = keyL x then 12 else 0) else 16

/-- The entries of lines. -/
def Ents (ks : List En) (xs : List Ln) : Prop := ∀ e, e ∈ ks ↔ ∃ y ∈ xs, enOf y = e

theorem ent_key (x y : Ln) : enOf y = enOf x ↔ keyL y = keyL x := by
  unfold enOf keyL
  simp only [Prod.mk.injEq, and_assoc]

theorem check_one {ks : List En} {xs : List Ln} {x : Ln} (h : Ents ks xs) (hk : x.k = 0 ∨ x.k = 1) : checkE ks x = oneE xs x := by
  unfold checkE oneE
  rw [if_neg (by omega)]
  have e : enOf x ∈ ks ↔ ∃ y ∈ xs, keyL y = keyL x := by
    rw [h]
    exact ⟨fun ⟨y, h1, h2⟩ => ⟨y, h1, (ent_key x y).1 h2⟩, fun ⟨y, h1, h2⟩ => ⟨y, h1, (ent_key x y).2 h2⟩⟩
  by_cases hc : checkR x.p x.v ≠ 0
  · rw [if_pos hc, if_pos hc]
  · rw [if_neg hc, if_neg hc]
    cases sumB x.s with
    | false => rfl
    | true =>
      simp only [if_true]
      by_cases h2 : enOf x ∈ ks
      · rw [if_pos h2, if_pos (e.1 h2)]
      · rw [if_neg h2, if_neg (fun h3 => h2 (e.2 h3))]

theorem ents_nil : Ents [] [] := fun e => by simp
theorem ents_snoc {ks : List En} {xs : List Ln} {x : Ln} (h : Ents ks xs) : Ents (enOf x :: ks) (xs ++ [x]) := by
  intro e
  rw [List.mem_cons, h e]
  constructor
  · rintro (rfl | ⟨y, h1, h2⟩)
    · exact ⟨x, by simp, rfl⟩
    · exact ⟨y, by simp [h1], h2⟩
  · rintro ⟨y, h1, h2⟩
    rcases List.mem_append.1 h1 with h1 | h1
    · exact Or.inr ⟨y, h1, h2⟩
    · simp at h1
      subst h1
      exact Or.inl h2.symm

theorem lineR_kind {l : Str} {x : Ln} (h : lineR l = some x) : x.k = 0 ∨ x.k = 1 := by
  unfold lineR at h
  split at h
  · cases h
    show (if _ then (1 : Int) else 0) = 0 ∨ _
    split
    · exact Or.inr rfl
    · exact Or.inl rfl
  · cases h

/-- The lines of a lock, read on out of the pieces of its text. -/
def lockF : List Ln → Nat → List Str → List Ln × Nat × Int
  | xs, _, [] => (xs, 0, 0)
  | xs, k, [l] => if l = [] then (xs, 0, 0) else match lineR l with
    | none => ([], k, 11)
    | some x => if oneE xs x ≠ 0 then ([], k, oneE xs x) else ([], k, 11)
  | xs, k, l :: m :: ls => match lineR l with
    | none => ([], k, 11)
    | some x => if oneE xs x ≠ 0 then ([], k, oneE xs x) else lockF (xs ++ [x]) (k + 1) (m :: ls)

theorem ahead_free (c : UInt8) (l : Str) : (ahead c l).contains c = false := by
  induction l with
  | nil => rfl
  | cons b l ih =>
    unfold ahead at ih ⊢
    rw [List.takeWhile_cons]
    by_cases h : b = c
    · subst h
      simp
    · have hb : (b != c) = true := by simpa using h
      rw [hb, if_pos rfl, List.contains_cons, ih, Bool.or_false]
      simpa using fun e : c = b => h e.symm

theorem read_lock : ∀ (f : Nat) (ks : List En) (xs : List Ln) (k : Nat) (t : Str), t.length ≤ f → Ents ks xs → readR f ks xs k t = lockF xs k (pieces 10 t)
  | 0, ks, xs, k, t, hf, _ => by
    have ht : t = [] := List.length_eq_zero_iff.1 (by omega)
    subst ht
    rfl
  | f + 1, ks, xs, k, t, hf, hen => by
    unfold readR
    by_cases ht : t = []
    · subst ht
      rfl
    · rw [if_neg ht]
      cases hc : t.contains 10 with
      | false =>
        obtain ⟨e1, _⟩ := ahead_none 10 t hc
        rw [pieces_one 10 t hc, e1]
        unfold lockF
        rw [if_neg ht]
        cases hl : lineR t with
        | none => rfl
        | some x =>
          simp only
          rw [check_one hen (lineR_kind hl)]
          by_cases h0 : oneE xs x = 0
          · simp [h0]
          · simp [h0]
      | true =>
        have e1 := ahead_behind 10 t hc
        have hfree := ahead_free 10 t
        have hp : pieces 10 t = ahead 10 t :: pieces 10 (behind 10 t) := by
          conv => lhs; rw [e1]
          rw [pieces_join, pieces_one 10 _ hfree]
          rfl
        have hlt := behind_lt 10 ht
        have ih := fun ks xs k h => read_lock f ks xs k (behind 10 t) (by omega) h
        rw [hp]
        obtain ⟨m, ls, hm⟩ : ∃ m ls, pieces 10 (behind 10 t) = m :: ls := by
          cases h : pieces 10 (behind 10 t) with
          | nil => exact absurd h (pieces_ne _ _)
          | cons m ls => exact ⟨m, ls, rfl⟩
        rw [hm] at ih ⊢
        unfold lockF
        cases hl : lineR (ahead 10 t) with
        | none => rfl
        | some x =>
          simp only
          have hco := check_one hen (lineR_kind hl)
          by_cases h0 : oneE xs x = 0
          · have hk : checkK ks x = enOf x :: ks := by unfold checkK; rw [hco, if_pos h0]
            rw [hk, hco]
            simp only [h0, not_true_eq_false, if_false, if_true, ne_eq]
            exact ih _ _ _ (ents_snoc hen)
          · rw [hco]
            simp only [h0, not_false_eq_true, if_true, ne_eq]

/-- Keys that are all unlike. -/
def Apart (xs : List Ln) : Prop := xs.Pairwise (fun x y => ¬ keyL x = keyL y)

theorem one_zero {xs : List Ln} {x : Ln} (h : oneE xs x = 0) : ∀ y ∈ xs, ¬ keyL y = keyL x := by
  unfold oneE at h
  split at h
  · rename_i h1
    omega
  · split at h
    · split at h
      · omega
      · rename_i h3
        exact fun y hy e => h3 ⟨y, hy, e⟩
    · omega

theorem apart_snoc {xs : List Ln} {x : Ln} (h : Apart xs) (h0 : ∀ y ∈ xs, ¬ keyL y = keyL x) : Apart (xs ++ [x]) :=
  List.pairwise_append.2 ⟨h, by simp, fun a ha b hb => by simp at hb; subst hb; exact h0 a ha⟩

theorem lock_apart : ∀ (ps : List Str) (xs : List Ln) (k : Nat), Apart xs → Apart (lockF xs k ps).1
  | [], xs, k, h => h
  | [l], xs, k, h => by
    unfold lockF
    split
    · exact h
    · split
      · exact List.Pairwise.nil
      · split <;> exact List.Pairwise.nil
  | l :: m :: ls, xs, k, h => by
    unfold lockF
    split
    · exact List.Pairwise.nil
    · rename_i x _
      split
      · exact List.Pairwise.nil
      · rename_i h0
        exact lock_apart (m :: ls) _ _ (apart_snoc h (one_zero (by simpa using h0)))

theorem sorted_one {l ys zs : List Ln} (h : Apart l) (hy : ys.Perm l) (hz : zs.Perm l) (ry : Rising ys) (rz : Rising zs) : ys = zs := by
  refine rising_unique (hy.trans hz.symm) ry rz ?_
  intro x hx y hy' e
  have hd : ys.Pairwise (fun x y => ¬ keyL x = keyL y) := (hy.pairwise_iff (fun {x y} hxy e => hxy e.symm)).2 h
  obtain ⟨i, hi, rfl⟩ := List.getElem_of_mem hx
  obtain ⟨j, hj, rfl⟩ := List.getElem_of_mem hy'
  have hp := List.pairwise_iff_getElem.1 hd
  rcases Nat.lt_trichotomy i j with hij | hij | hij
  · exact absurd e (hp i j hi hj hij)
  · subst hij; rfl
  · exact absurd e.symm (hp j i hj hi hij)

/-- What Parse answers. -/
def POut (t : Str) (ys : List Ln) (n : Nat) (e : Int) : Prop :=
  (65536 < t.length ∧ ys = [] ∧ n = 0 ∧ e = 13) ∨ (t.length ≤ 65536 ∧ ys.Perm (lockF [] 1 (pieces 10 t)).1 ∧ Rising ys ∧ n = (lockF [] 1 (pieces 10 t)).2.1 ∧ e = (lockF [] 1 (pieces 10 t)).2.2)

theorem POut.one {t : Str} {ys zs : List Ln} {n m : Nat} {e f : Int} (h : POut t ys n e) (k : POut t zs m f) : ys = zs ∧ n = m ∧ e = f := by
  rcases h with ⟨h1, rfl, rfl, rfl⟩ | ⟨h1, h2, h3, rfl, rfl⟩ <;> rcases k with ⟨k1, rfl, rfl, rfl⟩ | ⟨k1, k2, k3, rfl, rfl⟩
  · exact ⟨rfl, rfl, rfl⟩
  · omega
  · omega
  · exact ⟨sorted_one (lock_apart _ _ _ List.Pairwise.nil) h2 k2 h3 k3, rfl, rfl⟩

/-! ### Format -/

/-- The first error of lines, with those ahead. -/
def fmtE : List Ln → List Ln → Int
  | _, [] => 0
  | xs, x :: r => if x.k ≠ 0 ∧ x.k ≠ 1 then 7 else if oneE xs x ≠ 0 then oneE xs x else fmtE (xs ++ [x]) r

/-- The text of lines. -/
def textL : List Ln → Str
  | [] => []
  | x :: r => lineT x ++ textL r
theorem textL_append (l m : List Ln) : textL (l ++ m) = textL l ++ textL m := by
  induction l with
  | nil => rfl
  | cons x l ih => simp [textL, ih]

theorem fmt_apart : ∀ (r xs : List Ln), Apart xs → fmtE xs r = 0 → Apart (xs ++ r)
  | [], xs, h, _ => by simpa using h
  | x :: r, xs, h, h0 => by
    unfold fmtE at h0
    split at h0
    · omega
    · split at h0
      · rename_i h2
        exact absurd h0 h2
      · rename_i h2
        have := fmt_apart r (xs ++ [x]) (apart_snoc h (one_zero (by simpa using h2))) h0
        simpa using this

/-- What Format answers. -/
def FOut (l : List Ln) (s : Str) (e : Int) : Prop :=
  (fmtE [] l ≠ 0 ∧ e = fmtE [] l ∧ s = []) ∨ (fmtE [] l = 0 ∧ ∃ zs : List Ln, zs.Perm l ∧ Rising zs ∧ ((65536 < (textL zs).length ∧ e = 13 ∧ s = []) ∨ ((textL zs).length ≤ 65536 ∧ e = 0 ∧ s = textL zs)))

theorem FOut.one {l : List Ln} {s t : Str} {e f : Int} (h : FOut l s e) (k : FOut l t f) : s = t ∧ e = f := by
  rcases h with ⟨h1, rfl, rfl⟩ | ⟨h1, zs, h2, h3, h4⟩ <;> rcases k with ⟨k1, rfl, rfl⟩ | ⟨k1, ys, k2, k3, k4⟩
  · exact ⟨rfl, rfl⟩
  · exact absurd k1 h1
  · exact absurd h1 k1
  · have hs := sorted_one (by simpa using fmt_apart l [] List.Pairwise.nil h1) h2 k2 h3 k3
    subst hs
    rcases h4 with ⟨a1, rfl, rfl⟩ | ⟨a1, rfl, rfl⟩ <;> rcases k4 with ⟨b1, rfl, rfl⟩ | ⟨b1, rfl, rfl⟩
    · exact ⟨rfl, rfl⟩
    · omega
    · omega
    · exact ⟨rfl, rfl⟩

/-- Looked at line by line. -/
theorem fmt_step {l : List Ln} {i : Nat} (hi : i < l.length) (h : fmtE (l.take i) (l.drop i) = fmtE [] l) :
    fmtE [] l = if l[i].k ≠ 0 ∧ l[i].k ≠ 1 then 7 else if oneE (l.take i) l[i] ≠ 0 then oneE (l.take i) l[i] else fmtE (l.take (i + 1)) (l.drop (i + 1)) := by
  rw [← h, List.drop_eq_getElem_cons hi, List.take_succ_eq_append_getElem hi]
  rfl

end Go.Proofs.YthcafeoamabkgaaGreatDoor
