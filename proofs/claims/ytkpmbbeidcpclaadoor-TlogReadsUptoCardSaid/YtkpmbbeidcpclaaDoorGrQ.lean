/-
  Two lists of records, one behind the other.
-/
import Derived.Test.YtkpmbbeidcpclaaDoorSpanQ
import Derived.Test.YtkpmbbeidcpclaaDoorSubP
import Derived.Test.YtkpmbbeidcpclaaDoorLogQ
namespace Go.Proofs.YtkpmbbeidcpclaaDoor
open Go.RowKit

theorem mth_fuel : ∀ (k : Nat) (l : List Bs), l.length ≤ k → l.length ≤ 1048576 → mth (k + 1) l = mth k l
  | 0, l, h, _ => by
    have : l = [] := List.length_eq_zero_iff.1 (by omega)
    subst this
    rfl
  | k + 1, l, h, hb => by
    by_cases h2 : 2 ≤ l.length
    · obtain ⟨g1, g2, _, _⟩ := half_is h2 hb
      have hp : 1 ≤ half l.length := by unfold half; exact Nat.one_le_two_pow
      rw [mth_two (f := k + 1) h2, mth_two (f := k) h2, mth_fuel k (l.take (half l.length)) (by rw [List.length_take]; omega) (by rw [List.length_take]; omega), mth_fuel k (l.drop (half l.length)) (by rw [List.length_drop]; omega) (by rw [List.length_drop]; omega)]
    · show (if l.length = 0 then _ else _) = (if l.length = 0 then _ else _)
      by_cases h0 : l.length = 0
      · rw [if_pos h0, if_pos h0]
      · rw [if_neg h0, if_neg h0, if_pos (by omega), if_pos (by omega)]

/-- Between two powers the same half. -/
theorem half_same {m n : Nat} (h1 : half n < m) (h2 : m ≤ n) (hn : 2 ≤ n) (hb : n ≤ 1048576) : half m = half n := by
  obtain ⟨g1, g2, _, _⟩ := half_is hn hb
  have hp : 1 ≤ half n := by unfold half; exact Nat.one_le_two_pow
  obtain ⟨k1, k2, _, _⟩ := half_is (n := m) (by omega) (by omega)
  unfold half at h1 g1 g2 k1 k2 ⊢
  congr 1
  exact pow_unique (n := m) k1 k2 (by omega) (by omega)

theorem roots_sub : ∀ (k m : Nat) (l : List Bs) (wh : Bool) (old : Bs), 1 ≤ m → m ≤ l.length → l.length ≤ k → l.length ≤ 1048576 → (wh = true → old = mth k (l.take m)) → rootsP (subP k m l wh).reverse m l.length wh old = (mth k (l.take m), mth k l, true)
  | 0, m, l, wh, old, h1, h2, h3, _, _ => by omega
  | k + 1, m, l, wh, old, h1, h2, h3, hb, ho => by
    by_cases hm : m = l.length
    · have ht : l.take m = l := List.take_of_length_le (by omega)
      have hs : subP (k + 1) m l wh = if wh = true then [] else [mth (k + 1) l] := by
        show (if m = l.length then _ else _) = _
        rw [if_pos hm]
      rw [hs, ht]
      cases wh with
      | true =>
        have e := ho rfl
        rw [ht] at e
        show (if m = l.length then (if true = true then (old, old, true) else ([], [], false)) else ([], [], false)) = _
        rw [if_pos hm, if_pos rfl, e]
      | false =>
        show (if m = l.length then (if false = true then (old, old, false) else (mth (k + 1) l, mth (k + 1) l, decide (([] : List Bs).length = 0))) else _) = _
        rw [if_pos hm, if_neg (by decide)]
        rfl
    · have hn2 : 2 ≤ l.length := by omega
      obtain ⟨g1, g2, _, _⟩ := half_is hn2 hb
      have hp : 1 ≤ half l.length := by unfold half; exact Nat.one_le_two_pow
      obtain ⟨h, hh⟩ : ∃ h, half l.length = h := ⟨_, rfl⟩
      rw [subP_ne hm, mth_two (f := k) hn2, hh]
      rw [hh] at g1 g2 hp
      have l1 : (l.take h).length = h := by rw [List.length_take]; omega
      have l2 : (l.drop h).length = l.length - h := by rw [List.length_drop]
      by_cases hlt : m ≤ h
      · rw [if_pos hlt, List.reverse_append, List.reverse_singleton, List.singleton_append, rootsP_cons_ne hm, hh, if_pos hlt]
        have tt : (l.take h).take m = l.take m := by rw [List.take_take, Nat.min_eq_left hlt]
        have ih := roots_sub k m (l.take h) wh old h1 (by omega) (by omega) (by omega) (fun e => by
          rw [tt, ho e]
          exact mth_fuel k _ (by rw [List.length_take]; omega) (by rw [List.length_take]; omega))
        rw [l1, tt] at ih
        rw [ih, mth_fuel k (l.take m) (by rw [List.length_take]; omega) (by rw [List.length_take]; omega)]
      · rw [if_neg hlt, List.reverse_append, List.reverse_singleton, List.singleton_append, rootsP_cons_ne hm, hh, if_neg hlt]
        have ih := roots_sub k (m - h) (l.drop h) false old (by omega) (by omega) (by omega) (by omega) (fun e => by cases e)
        rw [l2] at ih
        rw [ih]
        have lm : (l.take m).length = m := by rw [List.length_take]; omega
        have hs := half_same (m := m) (n := l.length) (by omega) h2 hn2 hb
        rw [mth_two (f := k) (l := l.take m) (by omega), lm, hs, hh]
        have t1 : (l.take m).take h = l.take h := by rw [List.take_take, Nat.min_eq_left (by omega)]
        have t2 : (l.take m).drop h = (l.drop h).take (m - h) := by rw [List.drop_take]
        rw [t1, t2]

end Go.Proofs.YtkpmbbeidcpclaaDoor

namespace Go.Proofs.YtkpmbbeidcpclaaDoor
open Go.RowKit

/-- The values of a list of slices. -/
theorem PAt.vals {w : World} {B O : Nat} {ps : List Bs} (h : ps = [] ∨ ∀ k (hk : k < ps.length), ∃ x c, w.cell? ⟨B, O + k, none⟩ = some (.slice x ps[k].length c) ∧ BAt w x ps[k]) :
    ∃ us : List Value, us.length = ps.length ∧ (∀ u ∈ us, u.oneCell' = true) ∧ (∀ (j : Nat) (u : Value), us[j]? = some u → w.cell? ⟨B, O + j, none⟩ = some u) ∧ ∀ k (hk : k < ps.length), ∃ x d, us[k]? = some (.slice x ps[k].length d) ∧ BAt w x ps[k] := by
  rcases h with rfl | h
  · exact ⟨[], rfl, (fun u hu => by cases hu), (fun j u hj => by simp at hj), (fun k hk => by simp at hk)⟩
  · have hc : ∀ k : Fin ps.length, ∃ u : Value, w.cell? ⟨B, O + k.1, none⟩ = some u ∧ ∃ x d, u = .slice x (ps[k.1]'k.2).length d ∧ BAt w x (ps[k.1]'k.2) := fun k => by
      obtain ⟨x, c, h1, h2⟩ := h k.1 k.2
      exact ⟨_, h1, x, c, rfl, h2⟩
    refine ⟨List.ofFn fun k => Classical.choose (hc k), by simp, fun u hu => ?_, fun j u hj => ?_, fun k hk => ?_⟩
    · obtain ⟨k, hk⟩ := (List.mem_ofFn ..).1 hu
      obtain ⟨_, x, d, e, _⟩ := Classical.choose_spec (hc k)
      rw [← hk, e]; rfl
    · have hjl : j < ps.length := by
        apply Classical.byContradiction; intro hn
        rw [List.getElem?_eq_none (by simp; omega)] at hj; cases hj
      rw [List.getElem?_ofFn] at hj
      simp only [hjl, dite_true, Option.some.injEq] at hj
      rw [← hj]
      exact (Classical.choose_spec (hc ⟨j, hjl⟩)).1
    · obtain ⟨_, x, d, e, hb⟩ := Classical.choose_spec (hc ⟨k, hk⟩)
      refine ⟨x, d, ?_, hb⟩
      rw [List.getElem?_ofFn]
      simp only [hk, dite_true]
      rw [e]

theorem append_nothing {B : Nat} {w : World} {v : Value} {n c : Nat} {xs : List Value} {i : TypeInfo} (ty : TypeId) (hi : Tryd.prog.info? 29 = some i) (hown : w.ownsRow B 29 1 v n xs) : (Builtin.append_ #[22, 22] ty #[v, .slice none 0 c]).run Tryd.prog w = .ok v w := by
  rcases hown.2 with ⟨rfl, rfl⟩ | ⟨g, cap, cur, rfl, _, _, hnc, _⟩
  · simp [Builtin.append_, run_underlying Tryd.underlying22, sizeOf, typeInfo, hi, Builtin.lenOf, Builtin.firstCells]
  · simp [Builtin.append_, run_underlying Tryd.underlying22, sizeOf, typeInfo, hi, Builtin.lenOf, Builtin.firstCells, hnc, storeCells]

/-- append of a list of slices onto a row of slices; the bytes lie in memory that was there before. -/
theorem app_slices {w0 w : World} {v : Value} {us : List Value} {b : Option Addr} {K d : Nat} {qs : List Bs} (ho : w.ownsRow w0.heap.size 29 1 v us.length us) (hb0 : Below w0.heap.size w0 w) (hK : qs.length = K) (hq : PAt w0 b qs) (hl : us.length + K ≤ 1000000) :
    ∃ v' w' ns, (Builtin.append_ #[22, 22] 22 #[v, .slice b K d]).run Tryd.prog w = .ok v' w' ∧ w'.ownsRow w0.heap.size 29 1 v' (us ++ ns).length (us ++ ns) ∧ ns.length = K ∧ (∀ k (hk : k < qs.length), ∃ x d, ns[k]? = some (.slice x qs[k].length d) ∧ BAt w0 x qs[k]) ∧ Below w0.heap.size w0 w' := by
  obtain ⟨i0, hi, hz0, hz1, hz2⟩ := info_parts info29
  cases b with
  | none =>
    have hq0 : qs = [] := by
      rcases hq.els with h | ⟨B, O, e, _⟩
      · exact h
      · cases e
    subst hq0
    simp at hK
    subst hK
    exact ⟨v, w, [], append_nothing 22 hi ho, by rw [List.append_nil]; exact ho, rfl, fun k hk => by simp at hk, hb0⟩
  | some ad =>
    obtain ⟨B, O, hB⟩ : ∃ B O, qs = [] ∨ (ad = ⟨B, O, none⟩ ∧ ∀ k (hk : k < qs.length), ∃ x c, w0.cell? ⟨B, O + k, none⟩ = some (.slice x qs[k].length c) ∧ BAt w0 x qs[k]) := by
      rcases hq.els with h | ⟨B, O, e, he⟩
      · exact ⟨0, 0, Or.inl h⟩
      · cases e; exact ⟨B, O, Or.inr ⟨rfl, he⟩⟩
    obtain ⟨ns, hn1, hn2, hn3, hn4⟩ := PAt.vals (w := w0) (B := B) (O := O) (ps := qs) (hB.imp id (fun h => h.2))
    have hnk : ns.length = K := by rw [hn1, hK]
    obtain ⟨v', w', r1, r2, r3, _, _⟩ := run_append_own_at (P := Tryd.prog) w w0.heap.size 22 22 29 i0 _ 1 24 Tryd.underlying22 hi hz0 hz1 hz2 rfl (by decide) v us.length us ho ad K d ns (by omega) (fun j u hj => by
      rcases hB with h0 | ⟨rfl, _⟩
      · have : ns.length = 0 := by rw [hn1, h0]; rfl
        rw [List.getElem?_eq_none (by omega)] at hj; cases hj
      · rw [WideShapes.add_plain]
        have := hn3 j u hj
        exact (hb0.cell (lt_of_cell this)).trans this) hn2 (by unfold maxLen; omega) (by omega) hb0.size
    refine ⟨v', w', ns, r1, by rw [List.length_append, hnk]; exact r2, hnk, hn4, ?_⟩
    exact hb0.trans ⟨r3.os, r3.tape, r3.output, r3.size, fun k hk => r3.block k (Nat.lt_of_lt_of_le hk hb0.size) (fun e => by
      obtain ⟨hx, _⟩ := row29 ho e.symm
      omega)⟩

/-- Both appended to a new list. -/
theorem join_lists {w : World} {a b : Option Addr} {N K c d : Nat} {ps qs : List Bs} (hN : ps.length = N) (hK : qs.length = K) (hb : N + K ≤ 1000) (hp : PAt w a ps) (hq : PAt w b qs) (h1 : 1 ≤ N) :
    ∃ W1 v2 w2 a3 c3 w3, w.alloc (.cells #[] 29) = W1 ∧ (Builtin.append_ #[22, 22] 22 #[.slice (some ⟨w.heap.size, 0, none⟩) 0 0, .slice a N c]).run Tryd.prog W1 = .ok v2 w2 ∧ (Builtin.append_ #[22, 22] 22 #[v2, .slice b K d]).run Tryd.prog w2 = .ok (.slice a3 (N + K) c3) w3 ∧ Below w.heap.size w w3 ∧ PAt w3 a3 (ps ++ qs) := by
  have b1 : Below w.heap.size w (w.alloc (.cells #[] 29)) := (Below.refl _ _).alloc (Nat.le_refl _) _
  have ho : (w.alloc (.cells #[] 29)).ownsRow w.heap.size 29 1 (.slice (some ⟨w.heap.size, 0, none⟩) 0 0) ([] : List Value).length [] := ⟨rfl, Or.inr ⟨w.heap.size, 0, #[], rfl, Nat.le_refl _, Blk.new w #[] 29, Nat.le_refl _, by unfold maxLen; omega, rfl, rfl⟩⟩
  obtain ⟨v2, w2, n1, r1, o2, l1, e1, b2⟩ := app_slices (d := c) ho b1 hN hp (by simp; omega)
  rw [List.nil_append] at o2
  obtain ⟨v3, w3, n2, r2, o3, l2, e2, b3⟩ := app_slices (d := d) o2 b2 hK hq (by omega)
  rw [List.length_append, l1, l2] at o3
  rcases o3.2 with ⟨_, hz⟩ | ⟨g, cap, cur, rfl, hg, hh, g1, _, g3, g4⟩
  · omega
  · refine ⟨_, v2, w2, _, cap, w3, rfl, r1, r2, b3, ⟨Or.inr ⟨g, 0, rfl, fun k hk => ?_⟩⟩⟩
    rw [List.length_append] at hk
    have hcell : w3.cell? ⟨g, 0 + k, none⟩ = (n1 ++ n2)[k]? := by
      have hc : w3.cell? ⟨g, 0 + k, none⟩ = cur[0 + k]? := Lib.cell_of_heap hh _
      rw [hc, Nat.zero_add, ← g4, List.getElem?_take, if_pos (by omega), Array.getElem?_toList]
    by_cases hkp : k < ps.length
    · obtain ⟨x, d', e, hbt⟩ := e1 k hkp
      rw [List.getElem_append_left hkp]
      exact ⟨x, d', by rw [hcell, List.getElem?_append_left (by omega)]; exact e, hbt.low b3⟩
    · obtain ⟨x, d', e, hbt⟩ := e2 (k - ps.length) (by omega)
      rw [List.getElem_append_right (by omega)]
      refine ⟨x, d', ?_, hbt.low b3⟩
      have hn1p : n1.length = ps.length := by omega
      rw [hcell, List.getElem?_append_right (by omega), hn1p]
      exact e

end Go.Proofs.YtkpmbbeidcpclaaDoor
