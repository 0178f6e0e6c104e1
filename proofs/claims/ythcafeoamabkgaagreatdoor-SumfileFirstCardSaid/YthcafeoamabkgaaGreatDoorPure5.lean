/-
  What the statements on majors and on pseudo-versions say, of the plain functions.
-/
import Derived.Test.YthcafeoamabkgaaGreatDoorPure4
namespace Go.Proofs.YthcafeoamabkgaaGreatDoor

/-! ### Majors -/

theorem prefix_one {t : Str} {c : UInt8} (h : Lib.hasPrefix t [c] = true) : t = c :: t.drop 1 := by
  cases t with
  | nil => simp [Lib.hasPrefix] at h
  | cons b l =>
    simp [Lib.hasPrefix, List.isPrefixOf] at h
    simp [h]

theorem majorR_cases (p : Str) : ((majorR p).2 = 0 ∧ (majorR p).1 = p) ∨ (2 ≤ (majorR p).2 ∧ (majorR p).2 ≤ 999999999 ∧ p = (majorR p).1 ++ 47 :: 118 :: Lib.decDigits (majorR p).2 ∧ looksB p = true) := by
  unfold majorR
  cases hl : looksB p with
  | false => exact Or.inl ⟨rfl, rfl⟩
  | true =>
    simp only [if_true]
    unfold looksB at hl
    cases hs : splitLast 47 p with
    | none => rw [hs] at hl; cases hl
    | some x =>
      obtain ⟨f, t⟩ := x
      rw [hs] at hl
      simp only [Bool.and_eq_true] at hl
      simp only
      split
      · rename_i hn
        simp only [Bool.and_eq_true, decide_eq_true_eq] at hn
        refine Or.inr ⟨hn.2, numVal_le hn.1, ?_, trivial⟩
        obtain ⟨e, _⟩ := splitLast_some.1 hs
        rw [decDigits_numVal (plain_numOk hn.1), ← prefix_one hl.1]
        exact e
      · exact Or.inl ⟨rfl, rfl⟩

theorem path_import {p : Str} (h : pathR p = 0) : importR p = 0 := by
  unfold pathR at h
  unfold importR
  split at h
  · cases h
  · rename_i hl
    rw [if_neg hl]
    split at h
    · cases h
    · rename_i he
      have he : elemsB pathB p = true := by
        cases e : elemsB pathB p with
        | true => rfl
        | false => rw [e] at he; simp at he
      have : elemsB importB p = true := by
        unfold elemsB at he ⊢
        rw [List.all_eq_true] at he ⊢
        intro x hx
        have := he x hx
        unfold elemB at this ⊢
        simp only [Bool.and_eq_true] at this ⊢
        refine ⟨⟨⟨this.1.1.1, ?_⟩, this.1.2⟩, this.2⟩
        have h2 := this.1.1.2
        rw [List.all_eq_true] at h2 ⊢
        intro c hc
        unfold importB
        rw [h2 c hc]; rfl
      rw [this]; rfl

/-! ### Texts joined -/

theorem pieces_cons (c b : UInt8) (l : Str) : pieces c (b :: l) = if b = c then [] :: pieces c l else match pieces c l with | [] => [[b]] | p :: ps => (b :: p) :: ps := by rw [pieces]; rfl
theorem pieces_join (c : UInt8) : ∀ (a b : Str), pieces c (a ++ c :: b) = pieces c a ++ pieces c b
  | [], b => by simp [pieces]
  | x :: a, b => by
    have ih := pieces_join c a b
    have hne := pieces_ne c a
    rw [List.cons_append, pieces_cons, pieces_cons, ih]
    by_cases h : x = c
    · simp only [if_pos h]; rfl
    · simp only [if_neg h]
      cases hp : pieces c a with
      | nil => exact absurd hp hne
      | cons p ps => rfl
theorem pieces_one (c : UInt8) (a : Str) (h : a.contains c = false) : pieces c a = [a] := by
  induction a with
  | nil => rfl
  | cons x a ih =>
    simp only [List.contains_cons, Bool.or_eq_false_iff, beq_eq_false_iff_ne, ne_eq] at h
    unfold pieces
    rw [if_neg (fun e => h.1 e.symm), ih h.2]

theorem not_contains {p : UInt8 → Bool} {c : UInt8} {s : Str} (h : s.all p = true) (hc : p c = false) : s.contains c = false := by
  cases e : s.contains c with
  | false => rfl
  | true =>
    rw [List.contains_iff_mem] at e
    rw [List.all_eq_true.1 h c e] at hc; cases hc
theorem dec_free (u : Nat) {c : UInt8} (hc : digitB c = false) : (Lib.decDigits u).contains c = false := not_contains (digits_decDigits u).1.2.1 hc

theorem contains_append (c : UInt8) (a b : Str) : (a ++ b).contains c = (a.contains c || b.contains c) := by
  induction a with
  | nil => simp
  | cons x a ih => simp only [List.cons_append, List.contains_cons, ih, Bool.or_assoc]

/-- What a release reads as, a pre behind it. -/
theorem ahead_release (a b c : Nat) (r : Str) : ahead 45 ((releaseL a b c).drop 1 ++ 45 :: r) = (releaseL a b c).drop 1 ∧ behind 45 ((releaseL a b c).drop 1 ++ 45 :: r) = r := by
  apply ahead_of
  simp only [releaseL, List.cons_append, List.drop_succ_cons, List.drop_zero, contains_append, List.contains_cons, dec_free _ (show digitB 45 = false by decide)]
  decide

theorem pieces_release (a b c : Nat) : pieces 46 ((releaseL a b c).drop 1) = [Lib.decDigits a, Lib.decDigits b, Lib.decDigits c] := by
  have h : ∀ u, pieces 46 (Lib.decDigits u) = [Lib.decDigits u] := fun u => pieces_one 46 _ (dec_free u (by decide))
  have e : (releaseL a b c).drop 1 = Lib.decDigits a ++ 46 :: (Lib.decDigits b ++ 46 :: Lib.decDigits c) := by simp [releaseL]
  rw [e, pieces_join, pieces_join, h, h, h]; rfl

theorem numVal_dec (u : Nat) : numVal (Lib.decDigits u) = u := (digits_decDigits u).2.1

theorem numOk_dec {u : Nat} : numOk (Lib.decDigits u) = true ↔ u ≤ 999999999 := by
  constructor
  · intro h; have := numVal_le h; rwa [numVal_dec] at this
  · exact numOk_decDigits

theorem nums_release (a b c : Nat) : numsOf (pieces 46 ((releaseL a b c).drop 1)) = if a ≤ 999999999 ∧ b ≤ 999999999 ∧ c ≤ 999999999 then some (a, b, c) else none := by
  rw [pieces_release]
  simp only [numsOf, numVal_dec]
  by_cases h : a ≤ 999999999 ∧ b ≤ 999999999 ∧ c ≤ 999999999
  · rw [if_pos h, if_pos]
    simp only [Bool.and_eq_true]
    exact ⟨⟨numOk_dec.2 h.1, numOk_dec.2 h.2.1⟩, numOk_dec.2 h.2.2⟩
  · rw [if_neg h, if_neg]
    intro h'
    simp only [Bool.and_eq_true] at h'
    exact h ⟨numOk_dec.1 h'.1.1, numOk_dec.1 h'.1.2, numOk_dec.1 h'.2⟩

theorem release_cons (a b c : Nat) : releaseL a b c = 118 :: (releaseL a b c).drop 1 := rfl

theorem parse_release_pre {a b c : Nat} {r : Str} (hr : validPreB r = true) (hl : (releaseL a b c ++ 45 :: r).length ≤ 60) : parseV (releaseL a b c ++ 45 :: r) = if a ≤ 999999999 ∧ b ≤ 999999999 ∧ c ≤ 999999999 then some ⟨a, b, c, r⟩ else none := by
  obtain ⟨h1, h2⟩ := ahead_release a b c r
  have hc : ((releaseL a b c).drop 1 ++ 45 :: r).contains 45 = true := by rw [contains_append]; simp
  unfold parseV
  rw [if_pos hl]
  rw [release_cons, List.cons_append]
  simp only [parseR, h1, h2, nums_release, hc, hr]
  by_cases h : a ≤ 999999999 ∧ b ≤ 999999999 ∧ c ≤ 999999999
  · simp [h]
  · simp [h]

theorem release_length {a b c : Nat} (ha : a ≤ 999999999) (hb : b ≤ 999999999) (hc : c ≤ 999999999) : (releaseL a b c).length ≤ 30 := by
  have h1 := decDigits_length ha
  have h2 := decDigits_length hb
  have h3 := decDigits_length hc
  simp [releaseL]; omega

theorem parse_release {a b c : Nat} (ha : a ≤ 999999999) (hb : b ≤ 999999999) (hc : c ≤ 999999999) : parseV (releaseL a b c) = some ⟨a, b, c, []⟩ := by
  have hl := release_length ha hb hc
  have hn : ((releaseL a b c).drop 1).contains 45 = false := by
    simp only [releaseL, List.cons_append, List.drop_succ_cons, List.drop_zero, contains_append, List.contains_cons, dec_free _ (show digitB 45 = false by decide)]
    decide
  obtain ⟨h1, h2⟩ := ahead_none 45 _ hn
  unfold parseV
  rw [if_pos (by omega)]
  rw [release_cons]
  simp only [parseR, h1, h2, nums_release, hn]
  simp [ha, hb, hc]

/-- A version is its release, and its pre behind it. -/
theorem parse_form {v : Str} {x : Ver} (h : parseV v = some x) : x.a ≤ 999999999 ∧ x.b ≤ 999999999 ∧ x.c ≤ 999999999 ∧ v.length ≤ 60 ∧ ((x.pre = [] ∧ v = releaseL x.a x.b x.c) ∨ (validPreB x.pre = true ∧ v = releaseL x.a x.b x.c ++ 45 :: x.pre)) := by
  obtain ⟨hl, rest, rfl, hr⟩ := parseV_some h
  obtain ⟨n1, p1, v1, e1⟩ := parseR_spec hr
  have n2 := n1
  unfold numsOf at n1
  split at n1
  · rename_i x1 x2 x3 hp
    split at n1
    · rename_i hn
      simp only [Bool.and_eq_true] at hn
      simp only [Option.some.injEq, Prod.mk.injEq] at n1
      have l1 := numVal_le hn.1.1
      have l2 := numVal_le hn.1.2
      have l3 := numVal_le hn.2
      rw [n1.1] at l1; rw [n1.2.1] at l2; rw [n1.2.2] at l3
      have ha : ahead 45 rest = (releaseL x.a x.b x.c).drop 1 := by
        apply pieces_inj 46
        apply numsOf_inj n2
        rw [nums_release, if_pos ⟨l1, l2, l3⟩]
      refine ⟨l1, l2, l3, hl, ?_⟩
      cases hc : rest.contains 45 with
      | true =>
        refine Or.inr ⟨v1 hc, ?_⟩
        have := ahead_behind 45 rest hc
        rw [ha, ← p1] at this
        rw [release_cons, List.cons_append, ← this]
      | false =>
        refine Or.inl ⟨e1 hc, ?_⟩
        rw [release_cons, ← ha, (ahead_none 45 rest hc).1]
    · cases n1
  · cases n1

/-! ### Pseudo-versions -/

def stampL (time rev : Str) : Str := time ++ 45 :: rev

theorem timeB_spec {t : Str} (h : timeB t = true) : t.length = 14 ∧ t.all digitB = true := by
  simp only [timeB, digitsB, Bool.and_eq_true, decide_eq_true_eq] at h
  exact ⟨h.1.1.1.1.1.1, h.1.1.1.1.1.2.2⟩
theorem revB_spec {t : Str} (h : revB t = true) : t.length = 12 ∧ t.all hexB = true := by
  simp only [revB, Bool.and_eq_true, decide_eq_true_eq] at h
  exact h

theorem stamp_free {t r : Str} (ht : timeB t = true) (hr : revB r = true) : (stampL t r).contains 46 = false ∧ t.contains 45 = false := by
  have h1 := (timeB_spec ht).2
  have h2 := (revB_spec hr).2
  refine ⟨?_, not_contains h1 (by decide)⟩
  rw [stampL, contains_append, not_contains h1 (by decide), List.contains_cons, not_contains h2 (by decide)]
  decide

theorem stamp_valid {t r : Str} (ht : timeB t = true) (hr : revB r = true) : validIdB (stampL t r) = true := by
  have h1 := (timeB_spec ht).2
  have h2 := (revB_spec hr).2
  have hd : digitsB (stampL t r) = false := by
    unfold digitsB stampL
    rw [List.all_append, List.all_cons]
    have : digitB 45 = false := by decide
    rw [this]; simp
  unfold validIdB
  rw [hd]
  simp only [Bool.false_eq_true, if_false, Bool.and_eq_true, Bool.not_eq_true']
  refine ⟨by simp [stampL], ?_⟩
  have m1 : ∀ c, digitB c = true → identB c = true := fun c h => by simp [identB, h]
  have m2 : ∀ c, hexB c = true → identB c = true := fun c h => by
    simp only [hexB, Bool.or_eq_true, Bool.and_eq_true, decide_eq_true_eq] at h
    simp only [identB, letterB, lowerB, Bool.or_eq_true, Bool.and_eq_true, decide_eq_true_eq]
    rcases h with h | h
    · exact Or.inl (Or.inl h)
    · exact Or.inl (Or.inr (Or.inl ⟨h.1, by omega⟩))
  rw [stampL, List.all_append, List.all_cons, Bool.and_eq_true, Bool.and_eq_true]
  rw [List.all_eq_true] at h1 h2 ⊢
  refine ⟨fun c hc => m1 c (h1 c hc), by decide, ?_⟩
  rw [List.all_eq_true]
  exact fun c hc => m2 c (h2 c hc)

theorem stamp_pieces {t r : Str} (ht : timeB t = true) (hr : revB r = true) : pieces 46 (stampL t r) = [stampL t r] := pieces_one _ _ (stamp_free ht hr).1

def stampOf (pre : Str) : Str := match splitLast 46 pre with | some (_, t) => t | none => pre
def baseR (v : Str) (x : Ver) (stamp : Str) : Option Str :=
  if Lib.trimSuffix x.pre stamp = [] then (if x.b = 0 ∧ x.c = 0 then some [] else none)
  else if Lib.trimSuffix x.pre stamp = [48, 46] then (if x.c = 0 then none else some (releaseL x.a x.b (x.c - 1)))
  else if Lib.hasSuffix v (46 :: 48 :: 46 :: stamp) then some (Lib.trimSuffix v (46 :: 48 :: 46 :: stamp)) else none
/-- What Parts gives of whatever text, as a version. -/
def verOf (v : Str) : Ver := (parseV v).getD ⟨0, 0, 0, []⟩
def splitPR (v : Str) : Str × Str × Str × Bool :=
  if !timeB (ahead 45 (stampOf (verOf v).pre)) || !revB (behind 45 (stampOf (verOf v).pre)) then ([], [], [], false)
  else match baseR v (verOf v) (stampOf (verOf v).pre) with
    | none => ([], [], [], false)
    | some b => (b, ahead 45 (stampOf (verOf v).pre), behind 45 (stampOf (verOf v).pre), true)

theorem trim_append (a b : Str) : Lib.trimSuffix (a ++ b) b = a ∧ Lib.hasSuffix (a ++ b) b = true := by
  have h : Lib.hasSuffix (a ++ b) b = true := by
    unfold Lib.hasSuffix
    rw [List.isSuffixOf_iff_suffix]
    exact List.suffix_append a b
  refine ⟨?_, h⟩
  unfold Lib.trimSuffix
  rw [if_pos h]
  simp

theorem stampOf_join (a b : Str) (h : b.contains 46 = false) : stampOf (a ++ 46 :: b) = b := by
  unfold stampOf
  rw [(splitLast_some (c := 46)).2 ⟨rfl, h⟩]
theorem stampOf_one (b : Str) (h : b.contains 46 = false) : stampOf b = b := by
  unfold stampOf
  rw [splitLast_none.2 h]

theorem orI_pos {a b : Int} (h : a = 0) : orI a b = b := by unfold orI; rw [if_pos h]

theorem cmpList_longer {f : Str → Str → Int} (hf : Orders f) : ∀ (l : List Str) (x : Str) (m : List Str), cmpList f (l ++ x :: m) l = 1
  | [], _, _ => rfl
  | a :: l, x, m => by
    simp only [List.cons_append, cmpList]
    rw [orI_pos (hf.self a)]
    exact cmpList_longer hf l x m

theorem cmpNat_self (a : Nat) : cmpNat a a = 0 := orders_nat.self a

theorem below_next {x : Ver} (h : x.pre ≠ []) : cmpVer x ⟨x.a, x.b, x.c, []⟩ < 0 := by
  unfold cmpVer
  simp only [cmpNat_self]
  rw [orI_pos (by rfl)]
  unfold cmpPres
  rw [if_neg h, if_neg h, if_pos rfl]
  decide

theorem cmpV_of {a b : Str} {x y : Ver} (ha : parseV a = some x) (hb : parseV b = some y) : cmpV a b = cmpVer x y := by
  unfold cmpV; rw [ha, hb]

/-- What a made pseudo-version is: its parts, and what it is taken apart into. -/
theorem pseudo_holds {major : Int} {base time rev : Str} (h : (pseudoR major base time rev).2 = 0) :
    ∃ x, parseV (pseudoR major base time rev).1 = some x ∧ (x.a : Int) = major ∧ splitPR (pseudoR major base time rev).1 = (base, time, rev, true) ∧
      (base = [] ∨ 0 < cmpV (pseudoR major base time rev).1 base) ∧ cmpV (pseudoR major base time rev).1 (releaseL x.a x.b x.c) < 0 := by
  unfold pseudoR at h ⊢
  split at h
  · cases h
  · rename_i hm
    rw [if_neg hm]
    split at h
    · cases h
    · rename_i htr
      rw [if_neg htr]
      have ht : timeB time = true := by
        cases e : timeB time with
        | true => rfl
        | false => rw [e] at htr; simp at htr
      have hr : revB rev = true := by
        cases e : revB rev with
        | true => rfl
        | false => rw [e] at htr; simp at htr
      obtain ⟨f1, f2⟩ := stamp_free ht hr
      obtain ⟨a1, a2⟩ := ahead_of 45 time rev f2
      have sv := stamp_valid ht hr
      have sp := stamp_pieces ht hr
      have hs : ∀ f : Str, f ++ time ++ 45 :: rev = f ++ stampL time rev := fun f => by simp [stampL]
      have hne : stampL time rev ≠ [] := by simp [stampL]
      cases hf : frontR major.toNat base with
      | none => rw [hf] at h; cases h
      | some f =>
        rw [hf] at h
        simp only [hs] at h ⊢
        cases hv : parseV (f ++ stampL time rev) with
        | none => rw [hv] at h; cases h
        | some x =>
          simp only [Option.isSome_some, if_true]
          unfold frontR at hf
          have nx : x.pre ≠ [] → cmpV (f ++ stampL time rev) (releaseL x.a x.b x.c) < 0 := fun hp => by
            obtain ⟨l1, l2, l3, _, _⟩ := parse_form hv
            rw [cmpV_of hv (parse_release l1 l2 l3)]
            exact below_next hp
          split at hf
          · -- without a base
            rename_i hb
            injection hf with hf
            have hvp : validPreB (stampL time rev) = true := by unfold validPreB; rw [sp]; simp [sv]
            have e : f ++ stampL time rev = releaseL major.toNat 0 0 ++ 45 :: stampL time rev := by rw [← hf]; simp
            have hl := (parseV_some hv).1
            have hp := hv
            rw [e, parse_release_pre hvp (by rw [← e]; exact hl)] at hp
            split at hp
            · injection hp with hp
              refine ⟨x, hv, ?_, ?_, Or.inl hb, nx (by rw [← hp]; exact hne)⟩
              · rw [← hp]; simp only; omega
              · unfold splitPR
                have ev : verOf (f ++ stampL time rev) = x := by unfold verOf; rw [hv]; rfl
                have es : stampOf x.pre = stampL time rev := by rw [← hp]; exact stampOf_one _ f1
                rw [ev, es]
                simp only [stampL, a1, a2, ht, hr]
                have eb : baseR (f ++ (time ++ 45 :: rev)) x (time ++ 45 :: rev) = some [] := by
                  unfold baseR
                  have := (trim_append [] (time ++ 45 :: rev)).1
                  rw [List.nil_append] at this
                  rw [← hp]
                  simp only [stampL]
                  rw [if_pos this, if_pos (by simp)]
                rw [eb, hb]; rfl
            · cases hp
          · -- of a base
            rename_i hb
            cases hpb : parseV base with
            | none => rw [hpb] at hf; cases hf
            | some y =>
              rw [hpb] at hf
              simp only at hf
              obtain ⟨l1, l2, l3, l4, l5⟩ := parse_form hpb
              split at hf
              · rename_i hya
                split at hf
                · -- with a pre
                  rename_i hpre
                  injection hf with hf
                  have l5 : validPreB y.pre = true ∧ base = releaseL y.a y.b y.c ++ 45 :: y.pre := by
                    rcases l5 with l5 | l5
                    · exact absurd l5.1 hpre
                    · exact l5
                  have hq : pieces 46 (y.pre ++ 46 :: 48 :: 46 :: stampL time rev) = pieces 46 y.pre ++ [[48], stampL time rev] := by
                    have h2 := pieces_join 46 [48] (stampL time rev)
                    rw [sp] at h2
                    rw [pieces_join, show (48 :: 46 :: stampL time rev : Str) = [48] ++ 46 :: stampL time rev from rfl, h2]
                    rfl
                  have hvp : validPreB (y.pre ++ 46 :: 48 :: 46 :: stampL time rev) = true := by
                    have := l5.1
                    unfold validPreB at this ⊢
                    rw [hq, List.all_append, this]
                    simp only [List.all_cons, List.all_nil, sv, Bool.and_true, Bool.true_and]
                    decide
                  have e : f ++ stampL time rev = releaseL y.a y.b y.c ++ 45 :: (y.pre ++ 46 :: 48 :: 46 :: stampL time rev) := by rw [← hf, l5.2]; simp
                  have hl := (parseV_some hv).1
                  have hp := hv
                  rw [e, parse_release_pre hvp (by rw [← e]; exact hl), if_pos ⟨l1, l2, l3⟩] at hp
                  injection hp with hp
                  refine ⟨x, hv, ?_, ?_, Or.inr ?_, nx (by rw [← hp]; simp)⟩
                  · rw [← hp]; simp only; omega
                  · unfold splitPR
                    have ev : verOf (f ++ stampL time rev) = x := by unfold verOf; rw [hv]; rfl
                    have es : stampOf x.pre = stampL time rev := by
                      rw [← hp]
                      have := stampOf_join (y.pre ++ [46, 48]) (stampL time rev) f1
                      simpa using this
                    rw [ev, es]
                    simp only [stampL, a1, a2, ht, hr]
                    have eb : baseR (f ++ (time ++ 45 :: rev)) x (time ++ 45 :: rev) = some base := by
                      unfold baseR
                      have h1 := (trim_append (y.pre ++ [46, 48, 46]) (time ++ 45 :: rev)).1
                      have e1 : x.pre = (y.pre ++ [46, 48, 46]) ++ (time ++ 45 :: rev) := by rw [← hp]; simp [stampL]
                      have e2 : f ++ (time ++ 45 :: rev) = base ++ (46 :: 48 :: 46 :: (time ++ 45 :: rev)) := by rw [← hf]; simp
                      obtain ⟨t1, t2⟩ := trim_append base (46 :: 48 :: 46 :: (time ++ 45 :: rev))
                      rw [e1, h1, if_neg (by simp), if_neg ?_, e2, t2, t1]
                      · rfl
                      · intro hx
                        have := congrArg List.length hx
                        simp only [List.length_append, List.length_cons, List.length_nil] at this
                        omega
                    rw [eb]; rfl
                  · rw [cmpV_of hv hpb, ← hp]
                    unfold cmpVer
                    simp only [cmpNat_self]
                    rw [orI_pos (by rfl)]
                    unfold cmpPres
                    rw [if_neg ?_, if_neg (by simp), if_neg hpre, hq, cmpList_longer orders_ids]
                    · decide
                    · intro hx
                      have := congrArg List.length hx
                      simp only [List.length_append, List.length_cons] at this
                      omega
                · -- without a pre
                  rename_i hpre
                  have hpre : y.pre = [] := by simpa using hpre
                  injection hf with hf
                  have l5 : base = releaseL y.a y.b y.c := by
                    rcases l5 with l5 | l5
                    · exact l5.2
                    · exact absurd hpre (validPre_ne l5.1)
                  have hq : pieces 46 (48 :: 46 :: stampL time rev) = [[48], stampL time rev] := by
                    have h2 := pieces_join 46 [48] (stampL time rev)
                    rw [sp] at h2
                    exact h2
                  have hvp : validPreB (48 :: 46 :: stampL time rev) = true := by
                    unfold validPreB
                    rw [hq]
                    simp only [List.all_cons, List.all_nil, sv, Bool.and_true]
                    decide
                  have e : f ++ stampL time rev = releaseL major.toNat y.b (y.c + 1) ++ 45 :: (48 :: 46 :: stampL time rev) := by rw [← hf]; simp
                  have hl := (parseV_some hv).1
                  have hp := hv
                  rw [e, parse_release_pre hvp (by rw [← e]; exact hl)] at hp
                  split at hp
                  · injection hp with hp
                    refine ⟨x, hv, ?_, ?_, Or.inr ?_, nx (by rw [← hp]; simp)⟩
                    · rw [← hp]; simp only; omega
                    · unfold splitPR
                      have ev : verOf (f ++ stampL time rev) = x := by unfold verOf; rw [hv]; rfl
                      have es : stampOf x.pre = stampL time rev := by
                        rw [← hp]
                        exact stampOf_join [48] (stampL time rev) f1
                      rw [ev, es]
                      simp only [stampL, a1, a2, ht, hr]
                      have eb : baseR (f ++ (time ++ 45 :: rev)) x (time ++ 45 :: rev) = some base := by
                        unfold baseR
                        have h1 := (trim_append [48, 46] (time ++ 45 :: rev)).1
                        have e1 : x.pre = [48, 46] ++ (time ++ 45 :: rev) := by rw [← hp]; simp [stampL]
                        rw [e1, h1, if_neg (by simp), if_pos rfl, ← hp, if_neg (by simp)]
                        simp only [Nat.add_sub_cancel]
                        rw [l5, ← hya]
                      rw [eb]; rfl
                    · rw [cmpV_of hv hpb, ← hp]
                      unfold cmpVer
                      simp only [hya, cmpNat_self]
                      have : cmpNat (y.c + 1) y.c = 1 := by unfold cmpNat; rw [if_neg (by omega), if_pos (by omega)]
                      rw [this]
                      simp [orI]
                  · cases hp
              · cases hf

end Go.Proofs.YthcafeoamabkgaaGreatDoor
