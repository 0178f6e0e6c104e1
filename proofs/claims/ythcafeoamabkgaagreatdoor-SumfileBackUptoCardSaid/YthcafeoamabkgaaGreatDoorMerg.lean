/-
  Merge.
-/
import Derived.Test.YthcafeoamabkgaaGreatDoorComq
import Derived.Shelf.SlSortCmp.QuietGrown
namespace Go.Proofs.YthcafeoamabkgaaGreatDoor
open Go.RowKit Go.Lib

/-- What Merge answers. -/
def MergeSaid (w : World) (l : List Ln) (e : Ending) (w' : World) : Prop :=
  (Clash l ∧ e = .returned (.tuple #[.slice none 0 0, .int .i64 28]) ∧ Below w.heap.size w w') ∨ (¬ Clash l ∧ ∃ v zs, e = .returned (.tuple #[v, .int .i64 0]) ∧ Lines w.heap.size w' v zs ∧ Once l zs ∧ zs.length ≤ l.length ∧ Below w.heap.size w w')

/-- The quiet walk, shut: what is left of it is not unfolded. -/
structure Wq (P : Program) (ops : Array Oper) (C : World → Prop) (Q : Act → Prop) (l : List Oper) (a : Act) : Prop where
  out : wpQuiet P ops C Q l a
theorem Wq.step {P : Program} {ops : Array Oper} {C : World → Prop} {Q : Act → Prop} {rest : List Oper} {o : Oper} {a : Act} (h : ∀ K : Act → Prop, (∀ a, Wq P ops C Q rest a → K a) → if Region.wanted o (yielded ops a.tmps) then o.quiet P a C K else K (a.put o.dst undef)) : Wq P ops C Q (o :: rest) a :=
  ⟨wpQuiet_step (fun K hK => h K (fun a ha => hK a ha.out))⟩
theorem Wq.nil {P : Program} {ops : Array Oper} {C : World → Prop} {Q : Act → Prop} {a : Act} (h : Q a) : Wq P ops C Q [] a := ⟨wpQuiet_nil h⟩

theorem entryOf_bel {x : Ln} (w : World) : Calls Tryz.prog 53 #[lnV x] w fun e w' => e = .returned (enV (x.p, x.v, x.k)) ∧ Bel w.heap.size w w' := by
  obtain ⟨p, v, k, s⟩ := x
  go_enter Tryz.func53, Tryz.ntmps53
  go_wp2
  exact bodyPost_ret (v := enV (p, v, k)) (by simp [results, Tryz.results53, go_sem]) rfl ⟨rfl, ((Bel.refl _ _).alloc (Nat.le_refl _) _).alloc (by simp) _⟩

theorem entry_grown {w : World} {n : Nat} {os : Array Obj} {p v s : Str} {k : Int} :
    Calls Tryz.prog 53 #[.agg #[.string (ba p), .string (ba v), .int .i64 k, .string (ba s)]] (Sort.grow (w.drewN n) os) fun e w'' => e = .returned (.agg #[.string (ba p), .string (ba v), .int .i64 k]) ∧ ∃ p : GrownBy, w'' = Sort.grow (w.drewN p.n) p.os := by
  refine Calls.grown_of ?_
  refine (entryOf_bel (x := ⟨p, v, k, s⟩) _).mono ?_
  rintro e w' ⟨rfl, b⟩
  exact ⟨rfl, b.grow⟩

theorem low_grown {w : World} (n : Nat) (os : Array Obj) : Below w.heap.size w (Sort.grow (w.drewN n) os) := by
  refine ⟨rfl, rfl, rfl, ?_, fun k hk => ?_⟩
  · show w.heap.size ≤ (w.heap ++ os).size
    rw [Array.size_append]
    omega
  · exact Sort.heap_grow_old (w.drewN n) os hk

/-- Two neighbours: of one key and sum, of one key alone, or where their keys part first. -/
theorem key_part (x y : Ln) :
    (keyL x = keyL y ∧ x.s = y.s ∧ ((ba x.p).toList == (ba y.p).toList) = true ∧ ((ba x.v).toList == (ba y.v).toList) = true ∧ (x.k == y.k) = true ∧ ((ba x.s).toList == (ba y.s).toList) = true ∧ ((ba x.s).toList != (ba y.s).toList) = false) ∨
    (keyL x = keyL y ∧ ¬ x.s = y.s ∧ ((ba x.p).toList == (ba y.p).toList) = true ∧ ((ba x.v).toList == (ba y.v).toList) = true ∧ (x.k == y.k) = true ∧ ((ba x.s).toList == (ba y.s).toList) = false ∧ ((ba x.s).toList != (ba y.s).toList) = true) ∨
    (¬ keyL x = keyL y ∧ ((ba x.p).toList == (ba y.p).toList) = false) ∨
    (¬ keyL x = keyL y ∧ ((ba x.p).toList == (ba y.p).toList) = true ∧ ((ba x.v).toList == (ba y.v).toList) = false) ∨
    (¬ keyL x = keyL y ∧ ((ba x.p).toList == (ba y.p).toList) = true ∧ ((ba x.v).toList == (ba y.v).toList) = true ∧ (x.k == y.k) = false) := by
  obtain ⟨p, v, k, s⟩ := x
  obtain ⟨p', v', k', s'⟩ := y
  simp only [ba_list, keyL, Prod.mk.injEq]
  by_cases h1 : p = p'
  · by_cases h2 : v = v'
    · by_cases h3 : k = k'
      · by_cases h4 : s = s'
        · exact Or.inl ⟨⟨⟨h1, h2⟩, h3⟩, h4, by simp [h1], by simp [h2], by simp [h3], by simp [h4], by simp [h4]⟩
        · exact Or.inr (Or.inl ⟨⟨⟨h1, h2⟩, h3⟩, h4, by simp [h1], by simp [h2], by simp [h3], by simpa using h4, by simpa using h4⟩)
      · exact Or.inr (Or.inr (Or.inr (Or.inr ⟨fun h => h3 h.2, by simp [h1], by simp [h2], by simpa using h3⟩)))
    · exact Or.inr (Or.inr (Or.inr (Or.inl ⟨fun h => h2 h.1.2, by simp [h1], by simpa using h2⟩)))
  · exact Or.inr (Or.inr (Or.inl ⟨fun h => h1 h.1.1, by simpa using h1⟩))

theorem calm_next {l : List Ln} {i : Nat} (h : Calm l (i + 1)) (hi : i + 1 < l.length) (hs : keyL l[i] = keyL l[i + 1] → l[i].s = l[i + 1].s) : Calm l (i + 1 + 1) := by
  intro j hj hm hk
  rcases Nat.lt_or_ge (j + 1) (i + 1) with h1 | h1
  · exact h j hj h1 hk
  · have : j = i := by omega
    subst this
    exact hs hk

set_option maxRecDepth 100000 in
set_option maxHeartbeats 8000000 in
theorem merge_any {w : World} {n m ac bc : Nat} {a b : Option Addr} {xs ys : List Ln} (hg : Gd w) (hx : xs.length = n) (hy : ys.length = m) (hn : n ≤ 1000) (hm : m ≤ 1000) (hA : LRow w a xs) (hB : LRow w b ys) :
    Calls Tryz.prog 27 #[.slice a n ac, .slice b m bc] w (MergeSaid w (xs ++ ys)) := by
  obtain ⟨W0, hW0⟩ : ∃ W0, w.alloc (.cells #[.slice a n ac, .slice b m bc] 22) = W0 := ⟨_, rfl⟩
  have b0 : Below w.heap.size w W0 := by rw [← hW0]; exact (Below.refl _ _).alloc (Nat.le_refl _) _
  have k0 : Blk W0 w.heap.size #[.slice a n ac, .slice b m bc] 22 := by rw [← hW0]; exact Blk.new _ _ _
  have HC := hide (concat_any hx hy hn hm (hA.low b0) (hB.low b0) k0)
  have HB0 := hide b0
  have HG := hide hg
  have HN : Hid ((xs ++ ys).length ≤ 1000000) := hide (by rw [List.length_append]; omega)
  clear hg hx hy hA hB b0 k0
  have HW0 := hide hW0
  clear hW0
  go_enter Tryz.func27, Tryz.ntmps27
  go_wp2_with (go_at_call 69; fail)
  rw [unhide HW0]
  refine (unhide HC).mono ?_
  rintro e w1 ⟨v1, rfl, l1, b1⟩
  have bw1 := low_trans (unhide HB0) b1
  have HS := hide (sorted_any ((unhide HG).low bw1) l1 (unhide HN))
  have HB1 := hide bw1
  clear l1 b1 bw1 HC
  go_wp2_with (go_at_call 47; fail)
  refine (unhide HS).mono ?_
  rintro e w2 ⟨v2, rfl, zs, hp, hr, l2, b2⟩
  obtain ⟨a2, c2, rfl, lr2, _⟩ := Lines.at l2
  obtain ⟨N, hN⟩ : ∃ N, zs.length = N := ⟨_, rfl⟩
  rw [hN]
  have hNs : N ≤ 1000000 := by rw [← hN, hp.length_eq]; exact unhide HN
  have HL2 := hide l2
  have HLR := hide lr2
  have HP := hide hp
  have HR := hide hr
  have HNN := hide hN
  have HB2 := hide (low_trans (unhide HB1) b2)
  have HMEM : Hid (∀ x, x ∈ zs ↔ x ∈ xs ++ ys) := hide (fun x => hp.mem_iff)
  have HCO : Hid (∀ wr : World, Below w2.heap.size w2 wr → Calls Tryz.prog 70 #[.slice a2 N c2] wr fun e w' => ∃ v', e = .returned v' ∧ Lines w.heap.size w' v' (compact zs) ∧ Below w.heap.size w w') := hide (fun wr hwr => by
    have hrow : Lines w1.heap.size wr (.slice a2 zs.length c2) zs := row_low l2 hwr
    rw [hN] at hrow
    refine (compact_any hrow (by rw [hN]; exact hNs)).mono ?_
    rintro e w' ⟨v', rfl, h1, h2⟩
    have hb := (unhide HB1).size
    exact ⟨v', rfl, lines_mono h1 hb, (low_trans (low_trans (unhide HB1) b2) hwr).trans (h2.mono hb)⟩)
  clear l2 lr2 hp hr hN b2 HS
  go_wp2
  go_loopw [7] (fun v7 wr => ∃ i : Nat, (i + 1 ≤ N ∨ i = 0) ∧ v7 = .int .i64 ((i + 1 : Nat) : Int) ∧ Calm zs (i + 1) ∧ Below w2.heap.size w2 wr) (fun v7 _ => N - (intOf v7).toNat)
  case atStart => exact ⟨0, Or.inr rfl, rfl, fun j _ h => by omega, Below.refl _ _⟩
  case round =>
    rename World => wr
    obtain ⟨i, hi, rfl, hcalm, hlow⟩ := hrel
    have HCA := hide hcalm
    have HLW := hide hlow
    clear hcalm hlow
    by_cases hlt : i + 1 < N
    · have l1 : i + 1 < zs.length := by rw [unhide HNN]; exact hlt
      have l0 : i < zs.length := by omega
      obtain ⟨B, O, rfl, he⟩ : ∃ B O, a2 = some ⟨B, O, none⟩ ∧ ∀ k (hk : k < zs.length), LnAt wr B (O + k * 4) zs[k] := by
        rcases ((unhide HLR).low (unhide HLW)).els with h | h
        · rw [h] at l0; simp at l0
        · exact h
      have hx0 := he i l0
      have hy0 := he (i + 1) l1
      have HNX := hide (calm_next (unhide HCA) l1)
      have HCL := hide (clash_at l1)
      obtain ⟨x, hx⟩ : ∃ x, zs[i] = x := ⟨_, rfl⟩
      obtain ⟨y, hy⟩ : ∃ y, zs[i + 1] = y := ⟨_, rfl⟩
      rw [hx, hy] at HNX HCL
      rw [hx] at hx0
      rw [hy] at hy0
      have hkp := key_part x y
      obtain ⟨x0, x1, x2, x3⟩ := hx0
      obtain ⟨y0, y1, y2, y3⟩ := hy0
      obtain ⟨j, hj⟩ : ∃ j, i + 1 = j := ⟨_, rfl⟩
      have HJE := hide hj
      have hji : (j : Int) - 1 = (i : Int) := by omega
      have hjc : (i : Int) + 1 = (j : Int) := by omega
      have wrapB : IntKind.i64.wrap (i : Int) = i := by rw [IntKind.wrap_i64]; omega
      have i0 : (0 : Int) ≤ (i : Int) := by omega
      have i1 : (i : Int) < (N : Int) := by omega
      have jj0 : (0 : Int) ≤ (j : Int) := by omega
      have jj1 : (j : Int) < (N : Int) := by omega
      have hcast : ((i + 1 : Nat) : Int) = (j : Int) := by omega
      rw [hj] at y0 y1 y2 y3
      rw [hcast]
      have q0 := fun n os => cell_grown (lt_of_cell x0) x0 n os
      have q1 := fun n os => cell_grown (lt_of_cell x1) x1 n os
      have q2 := fun n os => cell_grown (lt_of_cell x2) x2 n os
      have q3 := fun n os => cell_grown (lt_of_cell x3) x3 n os
      have q4 := fun n os => cell_grown (lt_of_cell y0) y0 n os
      have q5 := fun n os => cell_grown (lt_of_cell y1) y1 n os
      have q6 := fun n os => cell_grown (lt_of_cell y2) y2 n os
      have q7 := fun n os => cell_grown (lt_of_cell y3) y3 n os
      have mixed : Tryz.prog.follows .mixedOrders = true := by kernel_rfl
      clear he hx hy l0 l1 HCA hj hcast hjc
      obtain ⟨p, v, k, s⟩ := x
      obtain ⟨p', v', k', s'⟩ := y
      simp only at q0 q1 q2 q3 q4 q5 q6 q7 hkp
      clear x0 x1 x2 x3 y0 y1 y2 y3
      rcases hkp with ⟨hk, hs, f1, f2, f3, f4, f5⟩ | ⟨hk, hs, f1, f2, f3, f4, f5⟩ | ⟨hk, f1⟩ | ⟨hk, f1, f2⟩ | ⟨hk, f1, f2, f3⟩
      · have HQ := hide ((unhide HNX) (fun _ => hs))
        clear hk hs HNX HCL
        go_wp2
        refine wp_region_quiet_grown (by assumption) (by kernel_rfl) (Wq.out ?_)
        iterate 26 (refine Wq.step (fun K hK => ?_); go_simp; first | (refine hK _ ?_; clear hK K) | (apply Exists.intro; refine ⟨fun _ => ?_, hK _ ?_⟩; (go_at_call 53; exact entry_grown); clear hK K))
        refine Wq.nil ?_
        intro _ hw'
        obtain ⟨⟨nq, osq⟩, hw⟩ := hw'
        subst hw
        have HB8 : Hid (Below w2.heap.size w2 (Sort.grow (wr.drewN nq) osq)) := hide (low_trans (unhide HLW) (low_grown nq osq))
        go_wp2
        go_roundw
        case rel => exact ⟨i + 1, Or.inl hlt, by simp [unhide HJE], unhide HQ, unhide HB8⟩
        case measure => simp [intOf]; omega
      · have HQ := hide ((unhide HCL) hk hs)
        clear hk hs HNX HCL
        go_wp2
        refine wp_region_quiet_grown (by assumption) (by kernel_rfl) (Wq.out ?_)
        iterate 26 (refine Wq.step (fun K hK => ?_); go_simp; first | (refine hK _ ?_; clear hK K) | (apply Exists.intro; refine ⟨fun _ => ?_, hK _ ?_⟩; (go_at_call 53; exact entry_grown); clear hK K))
        refine Wq.nil ?_
        intro _ hw'
        obtain ⟨⟨nq, osq⟩, hw⟩ := hw'
        subst hw
        have HB8 : Hid (Below w2.heap.size w2 (Sort.grow (wr.drewN nq) osq)) := hide (low_trans (unhide HLW) (low_grown nq osq))
        go_wp2
        go_ret2
        exact Or.inl ⟨(unhide HQ).mem (fun x hx => (unhide HMEM x).1 hx), rfl, low_trans (unhide HB2) (unhide HB8)⟩
      all_goals
        have HQ := hide ((unhide HNX) (fun h => absurd h hk))
        clear hk HNX HCL
        go_wp2
        refine wp_region_quiet_grown (by assumption) (by kernel_rfl) (Wq.out ?_)
        iterate 26 (refine Wq.step (fun K hK => ?_); go_simp; first | (refine hK _ ?_; clear hK K) | (apply Exists.intro; refine ⟨fun _ => ?_, hK _ ?_⟩; (go_at_call 53; exact entry_grown); clear hK K))
        refine Wq.nil ?_
        intro _ hw'
        obtain ⟨⟨nq, osq⟩, hw⟩ := hw'
        subst hw
        have HB8 : Hid (Below w2.heap.size w2 (Sort.grow (wr.drewN nq) osq)) := hide (low_trans (unhide HLW) (low_grown nq osq))
        go_wp2
        go_roundw
        case rel => exact ⟨i + 1, Or.inl hlt, by simp [unhide HJE], unhide HQ, unhide HB8⟩
        case measure => simp [intOf]; omega
    · have hcl := hide (calm_clash (l := zs) (unhide HR) (by
        intro t ht _ hk
        exact unhide HCA t ht (by rw [unhide HNN] at ht; omega) hk))
      have HON := hide (compact_once (unhide HR) (unhide hcl))
      have HCC := hide (unhide HCO wr (unhide HLW))
      go_wp2_with (go_at_call 70; fail)
      refine (unhide HCC).mono ?_
      rintro e w9 ⟨v9, rfl, l9, b9⟩
      have HD : Hid (MergeSaid w (xs ++ ys) (.returned (.tuple #[v9, .int .i64 0])) w9) := hide (Or.inr ⟨fun h => unhide hcl (h.mem fun x hx => (unhide HMEM x).2 hx), v9, compact zs, rfl, l9, ⟨(unhide HON).1, fun x => ((unhide HON).2 x).trans (unhide HMEM x)⟩, by rw [← (unhide HP).length_eq]; exact compact_le zs, b9⟩)
      clear l9 b9
      go_wp2
      go_ret2
      exact unhide HD

end Go.Proofs.YthcafeoamabkgaaGreatDoor
