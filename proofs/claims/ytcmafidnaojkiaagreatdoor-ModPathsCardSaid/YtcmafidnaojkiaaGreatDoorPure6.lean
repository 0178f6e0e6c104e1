/-
  A pseudo-version taken apart by its last bytes is the same as by its last dot.
-/
import Derived.Test.YtcmafidnaojkiaaGreatDoorPsC
namespace Go.Proofs.YtcmafidnaojkiaaGreatDoor

/-- The reference's way: the last 27 bytes. -/
def tailOf (pre : Str) : Str := pre.drop (pre.length - 27)
def frontOf (pre : Str) : Str := pre.take (pre.length - 27)
def tailOk (pre : Str) : Bool := decide (27 ≤ pre.length) && decide ((tailOf pre).getD 14 0 = 45) && timeB ((tailOf pre).take 14) && revB ((tailOf pre).drop 15)
def baseT (v : Str) (x : Ver) : Option Str :=
  if frontOf x.pre = [] then (if x.b = 0 ∧ x.c = 0 then some [] else none)
  else if frontOf x.pre = [48, 46] then (if x.c = 0 then none else some (releaseL x.a x.b (x.c - 1)))
  else if Lib.hasSuffix (frontOf x.pre) [46, 48, 46] then some (v.take (v.length - 30)) else none
def splitT (v : Str) : Str × Str × Str × Bool :=
  match parseV v with
  | none => ([], [], [], false)
  | some x => if tailOk x.pre then (match baseT v x with | none => ([], [], [], false) | some b => (b, (tailOf x.pre).take 14, (tailOf x.pre).drop 15, true)) else ([], [], [], false)

theorem tail_stamp {pre : Str} (h : tailOk pre = true) : ∃ t r, tailOf pre = stampL t r ∧ timeB t = true ∧ revB r = true ∧ (tailOf pre).take 14 = t ∧ (tailOf pre).drop 15 = r ∧ pre = frontOf pre ++ stampL t r := by
  simp only [tailOk, Bool.and_eq_true, decide_eq_true_eq] at h
  obtain ⟨⟨⟨h27, h45⟩, ht⟩, hr⟩ := h
  have hl : (tailOf pre).length = 27 := by simp [tailOf]; omega
  have e : tailOf pre = stampL ((tailOf pre).take 14) ((tailOf pre).drop 15) := by
    unfold stampL
    have e1 : (tailOf pre).drop 14 = 45 :: (tailOf pre).drop 15 := by
      rw [List.drop_eq_getElem_cons (by omega)]
      congr 1
      have : (tailOf pre).getD 14 0 = (tailOf pre)[14] := by simp [List.getD, hl]
      rw [← this]; exact h45
    rw [← e1, List.take_append_drop]
  refine ⟨_, _, e, ht, hr, rfl, rfl, ?_⟩
  rw [← e]; exact (List.take_append_drop _ _).symm

/-- What stands behind the last dot, where the end has none. -/
theorem stampOf_append (f s : Str) (h : s.contains 46 = false) : stampOf (f ++ s) = stampOf f ++ s ∨ (f = [] ∧ stampOf (f ++ s) = s) := by
  unfold stampOf
  cases hf : splitLast 46 f with
  | none =>
    have hn : (f ++ s).contains 46 = false := by rw [contains_append, splitLast_none.1 hf, h]; rfl
    rw [splitLast_none.2 hn]
    exact Or.inl rfl
  | some x =>
    obtain ⟨a, b⟩ := x
    obtain ⟨e, hb⟩ := splitLast_some.1 hf
    have : splitLast 46 (f ++ s) = some (a, b ++ s) := by
      apply splitLast_some.2
      refine ⟨by rw [e]; simp, by rw [contains_append, hb, h]; rfl⟩
    rw [this]
    exact Or.inl rfl

theorem stamp_parts {t r : Str} (ht : timeB t = true) (hr : revB r = true) : ahead 45 (stampL t r) = t ∧ behind 45 (stampL t r) = r := ahead_of 45 t r (stamp_free ht hr).2

/-- Where a longer text ends with a time and a revision, it is none itself. -/
theorem longer_bad {s t r : Str} (hs : s ≠ []) (ht : timeB t = true) (hr : revB r = true) : (!timeB (ahead 45 (s ++ stampL t r)) || !revB (behind 45 (s ++ stampL t r))) = true := by
  cases hc : s.contains 45 with
  | false =>
    have e : s ++ stampL t r = (s ++ t) ++ 45 :: r := by simp [stampL]
    have hf : (s ++ t).contains 45 = false := by rw [contains_append, hc, (stamp_free ht hr).2]; rfl
    rw [e, (ahead_of 45 _ r hf).1]
    have : timeB (s ++ t) = false := by
      cases hb : timeB (s ++ t) with
      | false => rfl
      | true =>
        have h1 := (timeB_spec hb).1
        have h2 := (timeB_spec ht).1
        have := List.length_pos_iff.2 hs
        simp at h1; omega
    rw [this]; rfl
  | true =>
    have e := ahead_behind 45 s hc
    have e2 : s ++ stampL t r = ahead 45 s ++ 45 :: (behind 45 s ++ stampL t r) := by
      have := congrArg (fun z => z ++ stampL t r) e
      simp only [List.append_assoc, List.cons_append] at this
      exact this
    rw [e2, (ahead_of 45 _ _ (not_mem_ahead 45 s)).2]
    have : revB (behind 45 s ++ stampL t r) = false := by
      cases hb : revB (behind 45 s ++ stampL t r) with
      | false => rfl
      | true =>
        have h1 := (revB_spec hb).1
        have h2 := (timeB_spec ht).1
        simp [stampL] at h1; omega
    rw [this]; simp

theorem stamp_suffix (p : Str) : ∃ u, p = u ++ stampOf p := by
  unfold stampOf
  cases h : splitLast 46 p with
  | none => exact ⟨[], rfl⟩
  | some x =>
    obtain ⟨a, b⟩ := x
    obtain ⟨e, _⟩ := splitLast_some.1 h
    exact ⟨a ++ [46], by rw [e]; simp⟩
theorem dot_end {f : Str} (h : ∃ u, f = u ++ [46]) : stampOf f = [] := by
  obtain ⟨u, rfl⟩ := h
  exact stampOf_join u [] rfl
theorem end_dot {f : Str} (hf : f ≠ []) (h : stampOf f = []) : ∃ u, f = u ++ [46] := by
  unfold stampOf at h
  cases hs : splitLast 46 f with
  | none => rw [hs] at h; exact absurd h hf
  | some x =>
    obtain ⟨a, b⟩ := x
    rw [hs] at h
    obtain ⟨e, _⟩ := splitLast_some.1 hs
    simp only at h
    exact ⟨a, by rw [e, h]⟩
theorem suffix_iff {a b : Str} : Lib.hasSuffix a b = true ↔ ∃ u, a = u ++ b := by
  unfold Lib.hasSuffix
  rw [List.isSuffixOf_iff_suffix]
  exact ⟨fun ⟨u, h⟩ => ⟨u, h.symm⟩, fun ⟨u, h⟩ => ⟨u, h.symm⟩⟩
theorem suffix_cancel (a b s : Str) : Lib.hasSuffix (a ++ s) (b ++ s) = Lib.hasSuffix a b := by
  rw [Bool.eq_iff_iff, suffix_iff, suffix_iff]
  constructor
  · rintro ⟨u, h⟩
    rw [← List.append_assoc] at h
    exact ⟨u, List.append_cancel_right h⟩
  · rintro ⟨u, h⟩
    exact ⟨u, by rw [h, List.append_assoc]⟩
/-- Behind a minus sign the end is told by what follows it. -/
theorem suffix_behind (R F : Str) (hF : F ≠ []) : Lib.hasSuffix (R ++ 45 :: F) [46, 48, 46] = Lib.hasSuffix F [46, 48, 46] := by
  rw [Bool.eq_iff_iff, suffix_iff, suffix_iff]
  constructor
  · rintro ⟨u, h⟩
    by_cases h3 : 3 ≤ F.length
    · refine ⟨F.take (F.length - 3), ?_⟩
      have e : (R ++ 45 :: F).drop ((R ++ 45 :: F).length - 3) = [46, 48, 46] := by rw [h]; simp
      have e2 : (R ++ 45 :: F).drop ((R ++ 45 :: F).length - 3) = F.drop (F.length - 3) := by
        have e3 : R ++ 45 :: F = (R ++ [45]) ++ F := by simp
        rw [e3, List.drop_append]
        have e4 : (R ++ [45]).drop (((R ++ [45]) ++ F).length - 3) = [] := List.drop_eq_nil_of_le (by simp; omega)
        rw [e4, List.nil_append]
        congr 1
        simp; omega
      rw [e2] at e
      rw [← e, List.take_append_drop]
    · exfalso
      have e : (R ++ 45 :: F).drop ((R ++ 45 :: F).length - (F.length + 1)) = [46, 48, 46].drop (3 - (F.length + 1)) := by
        rw [h]
        have : (u ++ [46, 48, 46]).length = (R ++ 45 :: F).length := by rw [h]
        rw [List.drop_append]
        have e4 : u.drop ((u ++ [46, 48, 46]).length - (F.length + 1)) = [] := List.drop_eq_nil_of_le (by simp; omega)
        rw [e4, List.nil_append]
        congr 1
        simp; omega
      have e2 : (R ++ 45 :: F).drop ((R ++ 45 :: F).length - (F.length + 1)) = 45 :: F := by simp
      rw [e2] at e
      match F, hF, h3 with
      | [a], _, _ => simp at e
      | [a, b], _, _ => simp at e
      | a :: b :: c :: t, _, h => simp at h
  · rintro ⟨u, h⟩
    exact ⟨R ++ 45 :: u, by rw [h]; simp⟩

theorem stamp_len {t r : Str} (ht : timeB t = true) (hr : revB r = true) : (stampL t r).length = 27 := by
  have h1 := (timeB_spec ht).1
  have h2 := (revB_spec hr).1
  simp [stampL]; omega
theorem tail_of {u t r : Str} (ht : timeB t = true) (hr : revB r = true) : tailOk (u ++ stampL t r) = true := by
  have hl := stamp_len ht hr
  have e : tailOf (u ++ stampL t r) = stampL t r := by
    unfold tailOf
    rw [List.length_append, hl, Nat.add_sub_cancel]; simp
  unfold tailOk
  have h1 := (timeB_spec ht).1
  have e1 : (stampL t r).take 14 = t := by rw [← h1]; simp [stampL]
  have e2 : (stampL t r).drop 15 = r := by
    have : 15 = t.length + 1 := by omega
    rw [this]; unfold stampL; rw [List.drop_append]; simp
  have e3 : (stampL t r).getD 14 0 = 45 := by
    unfold stampL
    have : 14 = t.length := h1.symm
    rw [this]; simp [List.getD]
  rw [e, e1, e2, e3, ht, hr]
  simp; omega

theorem split_same (v : Str) : splitPR v = splitT v := by
  unfold splitT
  cases hv : parseV v with
  | none =>
    unfold splitPR
    have e : verOf v = ⟨0, 0, 0, []⟩ := by unfold verOf; rw [hv]; rfl
    rw [e]
    simp only
    rw [show timeB (ahead 45 (stampOf ([] : Str))) = false from by decide]; rfl
  | some x =>
    have e : verOf v = x := by unfold verOf; rw [hv]; rfl
    unfold splitPR
    rw [e]
    simp only
    cases htk : tailOk x.pre with
    | false =>
      cases hb : (!timeB (ahead 45 (stampOf x.pre)) || !revB (behind 45 (stampOf x.pre))) with
      | true => rfl
      | false =>
        exfalso
        simp only [Bool.or_eq_false_iff, Bool.not_eq_false'] at hb
        obtain ⟨u, hu⟩ := stamp_suffix x.pre
        have hc : (stampOf x.pre).contains 45 = true := by
          cases hc : (stampOf x.pre).contains 45 with
          | true => rfl
          | false =>
            have := (ahead_none 45 _ hc).2
            rw [this] at hb
            have := (revB_spec hb.2).1
            simp at this
        have es := ahead_behind 45 _ hc
        have := tail_of (u := u) hb.1 hb.2
        unfold stampL at this
        rw [← es, ← hu, htk] at this
        cases this
    | true =>
      obtain ⟨t, r, e1, ht, hr, e2, e3, e4⟩ := tail_stamp htk
      rw [e2, e3]
      obtain ⟨F, hF⟩ : ∃ F, frontOf x.pre = F := ⟨_, rfl⟩
      rw [hF] at e4
      obtain ⟨sp1, sp2⟩ := stamp_parts ht hr
      have hfr := (stamp_free ht hr).1
      have hvf : v = releaseL x.a x.b x.c ++ 45 :: x.pre := by
        obtain ⟨_, _, _, _, h5⟩ := parse_form hv
        rcases h5 with h5 | h5
        · exfalso
          rw [h5.1] at e4
          have := congrArg List.length e4
          have hl := stamp_len ht hr
          simp [hl] at this
        · exact h5.2
      by_cases h0 : F = []
      · have es : stampOf x.pre = stampL t r := by rw [e4, h0, List.nil_append]; exact stampOf_one _ hfr
        have eb : baseR v x (stampL t r) = baseT v x := by
          unfold baseR baseT
          have : Lib.trimSuffix x.pre (stampL t r) = [] := by rw [e4, h0]; exact (trim_append [] _).1
          rw [this, hF, if_pos rfl, if_pos h0]
        rw [es, sp1, sp2, ht, hr, eb]; rfl
      · by_cases hd : stampOf F = []
        · have es : stampOf x.pre = stampL t r := by
            rw [e4]
            rcases stampOf_append F (stampL t r) hfr with h | h
            · rw [h, hd]; rfl
            · exact absurd h.1 h0
          have et : Lib.trimSuffix x.pre (stampL t r) = F := by rw [e4]; exact (trim_append F _).1
          have eb : baseR v x (stampL t r) = baseT v x := by
            unfold baseR baseT
            rw [et, hF, if_neg h0, if_neg h0]
            by_cases h2 : F = [48, 46]
            · rw [if_pos h2, if_pos h2]
            · rw [if_neg h2, if_neg h2]
              have hs : Lib.hasSuffix v (46 :: 48 :: 46 :: stampL t r) = Lib.hasSuffix F [46, 48, 46] := by
                have ev : v = (releaseL x.a x.b x.c ++ 45 :: F) ++ stampL t r := by rw [hvf, e4]; simp
                rw [ev]
                have := suffix_cancel (releaseL x.a x.b x.c ++ 45 :: F) [46, 48, 46] (stampL t r)
                rw [show ([46, 48, 46] : Str) ++ stampL t r = 46 :: 48 :: 46 :: stampL t r from rfl] at this
                rw [this, suffix_behind _ _ h0]
              rw [hs]
              cases hq : Lib.hasSuffix F [46, 48, 46] with
              | false => rfl
              | true =>
                simp only [if_true]
                unfold Lib.trimSuffix
                rw [hs, hq]
                have hl := stamp_len ht hr
                simp [hl]
          rw [es, sp1, sp2, ht, hr, eb]; rfl
        · have es : stampOf x.pre = stampOf F ++ stampL t r := by
            rw [e4]
            rcases stampOf_append F (stampL t r) hfr with h | h
            · exact h
            · exact absurd h.1 h0
          have eb : baseT v x = none := by
            unfold baseT
            rw [hF, if_neg h0]
            have h2 : ¬ F = [48, 46] := fun h => hd (dot_end ⟨[48], h⟩)
            rw [if_neg h2]
            cases hq : Lib.hasSuffix F [46, 48, 46] with
            | false => rfl
            | true =>
              obtain ⟨u, hu⟩ := suffix_iff.1 hq
              exact absurd (dot_end ⟨u ++ [46, 48], by rw [hu]; simp⟩) hd
          rw [es, longer_bad hd ht hr, eb]; rfl

end Go.Proofs.YtcmafidnaojkiaaGreatDoor
