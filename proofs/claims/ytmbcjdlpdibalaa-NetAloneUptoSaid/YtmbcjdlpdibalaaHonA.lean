/-
  NetHonest: what New's state says; what is handed in, behind a call.
-/
import Derived.Test.YtmbcjdlpdibalaaFew
namespace Go.Proofs.Ytmbcjdlpdibalaa
open Go.RowKit Go.WideMaps Go.Maps Go.MuLone

theorem runP_facts {ps : List Pg} {s0 s : St} (h : run stepP ps s0 = .ok s) :
    (∀ v l, s0.pg v = some l → s.pg v = some l) ∧ (∀ p ∈ ps, s.pg p.1 = some p.2) ∧ s.ft = s0.ft ∧ s.aq = s0.aq ∧ s.n = s0.n + ps.length := by
  induction ps generalizing s0 with
  | nil => cases h; exact ⟨fun _ _ h => h, fun p hp => (by cases hp), rfl, rfl, rfl⟩
  | cons p ps ih =>
    simp only [run] at h
    cases hst : stepP s0 p with
    | error e => rw [hst] at h; cases h
    | ok s1 =>
      rw [hst] at h
      obtain ⟨i1, i2, i3, i4, i5⟩ := ih h
      unfold stepP at hst
      cases hpg : s0.pg p.1 with
      | some x => rw [hpg] at hst; cases hst
      | none =>
        rw [hpg] at hst
        simp only at hst
        split at hst
        · cases hst
          refine ⟨fun v l hv => i1 v l ?_, fun q hq => ?_, i3, i4, ?_⟩
          · by_cases e : v = p.1
            · rw [e, hpg] at hv; cases hv
            · simp [setS, e, hv]
          · rcases List.mem_cons.1 hq with rfl | hq
            · exact i1 _ _ (by simp [setS])
            · exact i2 q hq
          · rw [i5]; show s0.n + 1 + ps.length = _; simp; omega
        · cases hst

theorem runF_facts {fs : List Fa} {s0 s : St} (h : run stepF fs s0 = .ok s) :
    s.pg = s0.pg ∧ s.aq = s0.aq ∧ s.n = s0.n + fs.length ∧ ∀ u k, s.ft u k ≠ none → s0.ft u k ≠ none ∨ ∃ f ∈ fs, f.u = u ∧ f.k = k := by
  induction fs generalizing s0 with
  | nil => cases h; exact ⟨rfl, rfl, rfl, fun _ _ h => Or.inl h⟩
  | cons f fs ih =>
    simp only [run] at h
    cases hst : stepF s0 f with
    | error e => rw [hst] at h; cases h
    | ok s1 =>
      rw [hst] at h
      obtain ⟨i1, i2, i3, i4⟩ := ih h
      have hn := stepF_n hst
      obtain ⟨e, he⟩ : ∃ e, s1 = addS s0 f.u f.k e := by
        unfold stepF at hst
        repeat' split at hst
        all_goals cases hst
        exact ⟨_, rfl⟩
      refine ⟨by rw [i1, he]; rfl, by rw [i2, he]; rfl, by rw [i3, hn]; simp; omega, fun u k hu => ?_⟩
      rcases i4 u k hu with h1 | ⟨g, hg, h1⟩
      · by_cases hq : u = f.u ∧ k = f.k
        · exact Or.inr ⟨f, List.mem_cons_self, hq.1.symm, hq.2.symm⟩
        · refine Or.inl ?_
          rw [he] at h1
          simpa [addS, hq] using h1
      · exact Or.inr ⟨g, List.mem_cons_of_mem _ hg, h1⟩

theorem new_facts {ps : List Pg} {fs : List Fa} {s : St} (h : newR ps fs = .ok s) :
    (∀ p ∈ ps, s.pg p.1 = some p.2) ∧ (∀ u, s.aq u = 0) ∧ s.n = ps.length + fs.length ∧ ∀ u k, s.ft u k ≠ none → ∃ f ∈ fs, f.u = u ∧ f.k = k := by
  unfold newR at h
  cases hr : run stepP ps emptyS with
  | error e => rw [hr] at h; cases h
  | ok s1 =>
    rw [hr] at h
    obtain ⟨_, a2, a3, a4, a5⟩ := runP_facts hr
    obtain ⟨b1, b2, b3, b4⟩ := runF_facts h
    refine ⟨fun p hp => by rw [b1]; exact a2 p hp, fun u => by rw [b2, a4]; rfl, by rw [b3, a5]; show 0 + ps.length + _ = _; omega, fun u k hu => ?_⟩
    rcases b4 u k hu with h1 | h1
    · rw [a3] at h1; exact absurd rfl h1
    · exact h1

def hitB (fs : List Fa) (u : ByteArray) (k : Int) : Bool := fs.any fun f => decide (f.u = u) && decide (f.k = k)

theorem hit_next {fs : List Fa} {u : ByteArray} {k : Int} {j : Nat} (hj : j < fs.length) : hitB (fs.take (j + 1)) u k = (hitB (fs.take j) u k || (decide (fs[j].u = u) && decide (fs[j].k = k))) := by
  unfold hitB
  rw [List.take_succ_eq_append_getElem hj, List.any_append]
  simp

theorem hit_not {fs : List Fa} {u : ByteArray} {k : Int} {s : St} (h : hitB fs u k = false) (hs : s.ft u k ≠ none → ∃ f ∈ fs, f.u = u ∧ f.k = k) : s.ft u k = none := by
  cases hf : s.ft u k with
  | none => rfl
  | some e =>
    obtain ⟨f, hm, h1, h2⟩ := hs (by rw [hf]; simp)
    have : hitB fs u k = true := List.any_eq_true.2 ⟨f, hm, by simp [h1, h2]⟩
    rw [h] at this
    cases this

theorem PgsAt.below {w w' : World} {a : Option Addr} {n : Nat} {ps : List Pg} (h : PgsAt w a n ps) (hb : Below w.heap.size w w') : PgsAt w' a n ps := by
  refine ⟨h.len, ?_⟩
  rcases h.els with h0 | ⟨b, o, ha, he⟩
  · exact Or.inl h0
  · refine Or.inr ⟨b, o, ha, fun k hk => ?_⟩
    obtain ⟨h1, h2, h3, a', n', c', h4, h5, h6, h7⟩ := he k hk
    have hlt := lt_of_cell h1
    simp only at hlt
    have hc1 := hb.cell (p := ⟨b, o + k * 2 + 1, none⟩) hlt
    exact ⟨(hb.cell (p := ⟨b, o + k * 2, none⟩) hlt).trans h1, h2, fun x y z hq => h3 x y z (hc1.symm.trans hq), a', n', c', hc1.trans h4, bytes_below h5 hb, h6, fun ad e h0 => Nat.lt_of_lt_of_le (h7 ad e h0) hb.size⟩

theorem FasAt.below {w w' : World} {a : Option Addr} {n : Nat} {fs : List Fa} (h : FasAt w a n fs) (hb : Below w.heap.size w w') : FasAt w' a n fs := by
  refine ⟨h.len, ?_⟩
  rcases h.els with h0 | ⟨b, o, ha, he⟩
  · exact Or.inl h0
  · refine Or.inr ⟨b, o, ha, fun k hk => ?_⟩
    obtain ⟨h1, h2, ⟨y1, y2, y3⟩, hw, a', n', c', h4, h5, h6, h7⟩ := he k hk
    have hlt := lt_of_cell h1
    simp only at hlt
    exact ⟨(hb.cell (p := ⟨b, o + k * 5, none⟩) hlt).trans h1, h2, ⟨(hb.cell (p := ⟨b, o + k * 5 + 1, none⟩) hlt).trans y1, (hb.cell (p := ⟨b, o + k * 5 + 2, none⟩) hlt).trans y2, (hb.cell (p := ⟨b, o + k * 5 + 3, none⟩) hlt).trans y3⟩, hw, a', n', c', (hb.cell (p := ⟨b, o + k * 5 + 4, none⟩) hlt).trans h4, bytes_below h5 hb, h6, fun ad e h0 => Nat.lt_of_lt_of_le (h7 ad e h0) hb.size⟩

theorem mod_bounds {x : Int} {n : Nat} (h1 : 1 ≤ n) (h2 : n ≤ 100) : ∃ N : Nat, (wrap64 (x.tmod (n : Int) + (n : Int))).tmod (n : Int) = (N : Int) ∧ N < n := by
  have t1 : x.tmod (n : Int) < n ∧ -(n : Int) < x.tmod n := by
    refine ⟨Int.tmod_lt_of_pos _ (by omega), ?_⟩
    have := Int.tmod_lt_of_pos (-x) (b := (n : Int)) (by omega)
    rw [Int.neg_tmod] at this; omega
  have e1 : wrap64 (x.tmod n + n) = x.tmod n + n := IntWalk.wrap64_in _ ⟨by omega, by omega⟩
  rw [e1]
  have t2 : 0 ≤ (x.tmod n + n).tmod n ∧ (x.tmod n + n).tmod n < n := ⟨Int.tmod_nonneg _ (by omega), Int.tmod_lt_of_pos _ (by omega)⟩
  exact ⟨((x.tmod n + n).tmod n).toNat, by omega, by omega⟩

end Go.Proofs.Ytmbcjdlpdibalaa
