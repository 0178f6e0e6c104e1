/-
  The reference's order of files: the walk.
-/
import Derived.Test.YtkablmjkffdloaaGreatDoorFlsA
import Derived.Test.YtkablmjkffdloaaGreatDoorRByN
import Derived.Test.YtkablmjkffdloaaGreatDoorUnpX
import Derived.BigQuiet
namespace Go.Proofs.YtkablmjkffdloaaGreatDoor
open Go.RowKit

theorem less_cmp : ∀ (a b : Bs), Op.bytesLess a b = decide (Lib.compareBytes a b < 0)
  | [], [] => by simp [Op.bytesLess, Lib.compareBytes]
  | [], _ :: _ => by simp [Op.bytesLess, Lib.compareBytes]
  | _ :: _, [] => by simp [Op.bytesLess, Lib.compareBytes]
  | x :: a, y :: b => by
    have ih := less_cmp a b
    simp only [Op.bytesLess, Lib.compareBytes, ih]
    by_cases h1 : x < y
    · simp [h1]
    · by_cases h2 : y < x
      · have h3 : x ≠ y := fun e => by subst e; exact h1 h2
        simp [h1, h2, h3]
      · have h4 : ¬ x.toNat < y.toNat := fun h => h1 (UInt8.lt_iff_toNat_lt.2 h)
        have h5 : ¬ y.toNat < x.toNat := fun h => h2 (UInt8.lt_iff_toNat_lt.2 h)
        have h3 : x = y := UInt8.toNat_inj.1 (by omega)
        simp [h3]
/-- append of files that lie anywhere. -/
theorem app_Fs {B : Nat} {w : World} {v : Value} {xs ys : List Fl} {a : Option Addr} {m c : Nat} (ho : FRow B w v xs) (hB : B ≤ w.heap.size) (hm : ys.length = m) (hl : xs.length + m ≤ 1000000) (hform : (a = none ∧ m = 0 ∧ c = 0) ∨ ∃ B O, a = some ⟨B, O, none⟩) (hat : FAt w a ys) :
    ∃ v' w', (Builtin.append_ #[22, 22] 22 #[v, .slice a m c]).run Tryz.prog w = .ok v' w' ∧ FRow B w' v' (xs ++ ys) ∧ Below B w w' := by
  subst hm
  rcases hform with ⟨rfl, h0, rfl⟩ | ⟨G, O, rfl⟩
  · have hy : ys = [] := List.length_eq_zero_iff.1 h0
    subst hy
    exact ⟨v, w, app_noF ho, by rw [List.append_nil]; exact ho, Below.refl _ _⟩
  · obtain ⟨i0, hi, hz0, hz1, hz2⟩ := info_parts info56
    obtain ⟨v', w', r1, r2, r3, _, _⟩ := run_append_own_at (P := Tryz.prog) w B 22 22 56 i0 _ 2 40 Tryz.underlying22 hi hz0 hz1 hz2 rfl (by decide) v xs.length (flsV xs) ho ⟨G, O, none⟩ ys.length c (flsV ys) (flsV_length ys) (fun j u hj => by
      rw [WideShapes.add_plain]
      rcases hat.els with e | ⟨B', O', e, he⟩
      · rw [e] at hj; simp [flsV] at hj
      · cases e
        exact he j u hj) (flsV_one ys) (by unfold maxLen; omega) (by omega) hB
    refine ⟨v', w', r1, ?_, ⟨r3.os, r3.tape, r3.output, r3.size, fun k hk => r3.block k (Nat.lt_of_lt_of_le hk hB) (fun e => ?_)⟩⟩
    · unfold FRow
      rw [flsV_append, List.length_append]
      exact r2
    · rcases ho.2 with ⟨e1, _⟩ | ⟨g, cap, cur, e1, q1, _⟩
      · rw [e1] at e; cases e
      · rw [e1] at e
        have : k = g := Option.some.inj e
        omega
def cutF (a : Option Addr) (c m : Nat) : Option Addr := if c = m then a else a.map fun x => x.add (m * 2)
theorem sliceF_from {a : Option Addr} {n c m : Nat} {k : IntKind} (h : m ≤ n) (_h2 : n ≤ c) (w : World) : (Instr.slice 22 (.slice a n c) (some (.int k (m : Int))) none none).run Tryz.prog w = .ok (.slice (cutF a c m) (n - m) (c - m)) w := by
  simp [Instr.slice, Instr.sliceBounds, Instr.sliceBound, asIntOf, run_underlying Tryz.underlying22, go_sem]
  unfold cutF
  rw [if_pos h]
theorem sliceF_to {a : Option Addr} {n c m : Nat} {k : IntKind} (h : m ≤ n) (h2 : n ≤ c) (w : World) : (Instr.slice 22 (.slice a n c) none (some (.int k (m : Int))) none).run Tryz.prog w = .ok (.slice a m c) w := by
  simp [Instr.slice, Instr.sliceBounds, Instr.sliceBound, asIntOf, run_underlying Tryz.underlying22, go_sem]
  intro h5
  omega
theorem flsV_take : ∀ (l : List Fl) (m : Nat), flsV (l.take m) = (flsV l).take (m * 2)
  | [], m => by simp [flsV]
  | x :: l, 0 => by simp [flsV]
  | x :: l, m + 1 => by
    rw [show (m + 1) * 2 = m * 2 + 1 + 1 by omega]
    simp [flsV, flsV_take l m]
theorem flsV_drop : ∀ (l : List Fl) (m : Nat), flsV (l.drop m) = (flsV l).drop (m * 2)
  | [], m => by simp [flsV]
  | x :: l, 0 => by simp [flsV]
  | x :: l, m + 1 => by
    rw [show (m + 1) * 2 = m * 2 + 1 + 1 by omega]
    simp [flsV, flsV_drop l m]
theorem FAt.take {w : World} {a : Option Addr} {xs : List Fl} (h : FAt w a xs) (m : Nat) : FAt w a (xs.take m) := by
  rcases h.els with h0 | ⟨B, O, ha, he⟩
  · exact ⟨Or.inl (by rw [h0]; simp)⟩
  · refine ⟨Or.inr ⟨B, O, ha, fun j u hu => he j u ?_⟩⟩
    rw [flsV_take, List.getElem?_take] at hu
    split at hu
    · exact hu
    · cases hu
theorem FAt.cut {w : World} {a : Option Addr} {xs : List Fl} {c m : Nat} (hc : xs.length ≤ c) (h : FAt w a xs) : FAt w (cutF a c m) (xs.drop m) := by
  unfold cutF
  by_cases hm : xs.length ≤ m
  · exact ⟨Or.inl (List.drop_of_length_le hm)⟩
  · rw [if_neg (by omega)]
    rcases h.els with h0 | ⟨B, O, rfl, he⟩
    · rw [h0] at hm; simp at hm
    · refine ⟨Or.inr ⟨B, O + m * 2, by simp [WideShapes.add_plain], fun j u hu => ?_⟩⟩
      rw [Nat.add_assoc]
      refine he _ u ?_
      rw [flsV_drop, List.getElem?_drop] at hu
      exact hu
theorem cutF_form {a : Option Addr} {n c m : Nat} (hm : m ≤ n) (hn : n ≤ c) (h : (a = none ∧ n = 0 ∧ c = 0) ∨ ∃ B O, a = some ⟨B, O, none⟩) : (cutF a c m = none ∧ n - m = 0 ∧ c - m = 0) ∨ ∃ B O, cutF a c m = some ⟨B, O, none⟩ := by
  unfold cutF
  rcases h with ⟨rfl, rfl, rfl⟩ | ⟨B, O, rfl⟩
  · exact Or.inl ⟨by split <;> rfl, by omega, by omega⟩
  · refine Or.inr ?_
    split
    · exact ⟨B, O, rfl⟩
    · exact ⟨B, O + m * 2, by simp [WideShapes.add_plain]⟩
/-- An insertion keeps files rising. -/
theorem ins_rising {ys : List Fl} {x : Fl} {m : Nat} (hr : Rising ys) (hgt : ∀ j (_ : m ≤ j) (h2 : j < ys.length), Lib.compareBytes x.nm ys[j].nm < 0) (hle : ∀ j (_ : j + 1 = m) (h2 : j < ys.length), ¬ Lib.compareBytes x.nm ys[j].nm < 0) (hm : m ≤ ys.length) : Rising ((ys.take m ++ [x]) ++ ys.drop m) := by
  have hlen : (ys.take m).length = m := by rw [List.length_take]; omega
  have get : ∀ i (hi : i < ((ys.take m ++ [x]) ++ ys.drop m).length), (∃ h : i < ys.length, i < m ∧ ((ys.take m ++ [x]) ++ ys.drop m)[i] = ys[i]) ∨ (i = m ∧ ((ys.take m ++ [x]) ++ ys.drop m)[i] = x) ∨ (∃ h : i - 1 < ys.length, m < i ∧ ((ys.take m ++ [x]) ++ ys.drop m)[i] = ys[i - 1]) := by
    intro i hi
    by_cases h1 : i < m
    · refine Or.inl ⟨by omega, h1, ?_⟩
      rw [List.getElem_append_left (by rw [List.length_append, hlen]; simp; omega), List.getElem_append_left (by omega), List.getElem_take]
    · by_cases h2 : i = m
      · subst h2
        refine Or.inr (Or.inl ⟨rfl, ?_⟩)
        rw [List.getElem_append_left (by rw [List.length_append, hlen]; simp), List.getElem_append_right (by omega)]
        simp
      · have h3 : i - 1 < ys.length := by
          simp only [List.length_append, hlen, List.length_drop, List.length_cons, List.length_nil] at hi
          omega
        refine Or.inr (Or.inr ⟨h3, by omega, ?_⟩)
        rw [List.getElem_append_right (by rw [List.length_append, hlen]; simp; omega), List.getElem_drop]
        congr 1
        rw [List.length_append, hlen]
        simp
        omega
  have le_x : ∀ j (h1 : j < m) (h2 : j < ys.length), ¬ Lib.compareBytes x.nm ys[j].nm < 0 := by
    intro j h1 h2 h3
    by_cases h4 : j + 1 = m
    · exact hle j h4 h2 h3
    · have h5 := hle (m - 1) (by omega) (by omega)
      have h6 := hr j (m - 1) h2 (by omega) (by omega)
      unfold cmpN at h6
      have t1 := orders_bytes.turn ys[j].nm ys[m - 1].nm
      rcases Int.lt_or_eq_of_le (Int.not_lt.1 h6) with b | b
      · exact h5 (orders_bytes.lt _ _ _ h3 (by omega))
      · have e := (orders_bytes.eq _ _).1 b.symm
        rw [e] at h5
        exact h5 h3
  intro i j hi hj hij
  unfold cmpN
  rcases get i hi with ⟨a1, a2, a3⟩ | ⟨a2, a3⟩ | ⟨a1, a2, a3⟩ <;> rcases get j hj with ⟨b1, b2, b3⟩ | ⟨b2, b3⟩ | ⟨b1, b2, b3⟩ <;> rw [a3, b3]
  · exact hr i j a1 b1 hij
  · exact le_x i a2 a1
  · exact hr i (j - 1) a1 b1 (by omega)
  · omega
  · omega
  · have := hgt (j - 1) (by omega) b1
    have t := orders_bytes.turn x.nm ys[j - 1].nm
    omega
  · omega
  · omega
  · exact hr (i - 1) (j - 1) a1 b1 (by omega)
end Go.Proofs.YtkablmjkffdloaaGreatDoor

namespace Go.Proofs.YtkablmjkffdloaaGreatDoor
open Go.RowKit

theorem FRow.low2 {base : Nat} {w w' : World} {v : Value} {xs : List Fl} (h : FRow base w v xs) (hb : Below w.heap.size w w') : FRow base w' v xs := by
  refine ⟨h.1, ?_⟩
  rcases h.2 with ⟨e, e0⟩ | ⟨g, cap, cur, e, q1, q2, q3⟩
  · exact Or.inl ⟨e, e0⟩
  · exact Or.inr ⟨g, cap, cur, e, q1, (hb.block g (Array.getElem?_eq_some_iff.1 q2).1).trans q2, q3⟩
theorem FRow.less {B C : Nat} {w : World} {v : Value} {l : List Fl} (hBC : B ≤ C) (h : FRow C w v l) : FRow B w v l := by
  refine ⟨h.1, h.2.imp id ?_⟩
  rintro ⟨g, cap, cur, rfl, hg, hr⟩
  exact ⟨g, cap, cur, rfl, Nat.le_trans hBC hg, hr⟩
theorem FRow.adr {base : Nat} {w : World} {v : Value} {xs : List Fl} (h : FRow base w v xs) : ∃ a c, v = .slice a xs.length c ∧ FAt w a xs ∧ xs.length ≤ c ∧ ((a = none ∧ xs.length = 0 ∧ c = 0) ∨ ∃ B O, a = some ⟨B, O, none⟩) := by
  obtain ⟨a, c, e, h1, h2⟩ := FRow.at h
  refine ⟨a, c, e, h1, h2, ?_⟩
  rcases h.2 with ⟨e1, e0⟩ | ⟨g, cap, cur, e1, _⟩
  · have e2 := e.symm.trans e1
    injection e2 with q1 q2 q3
    exact Or.inl ⟨q1, e0, q3⟩
  · have e2 := e.symm.trans e1
    injection e2 with q1 q2 q3
    exact Or.inr ⟨_, _, q1⟩

set_option maxRecDepth 100000 in
set_option maxHeartbeats 4000000 in
theorem refByName_any {w : World} {a : Option Addr} {n c : Nat} {xs : List Fl} (hx : xs.length = n) (hn : n ≤ 1000) (h : FAt w a xs) :
    Calls Tryz.prog 22 #[.slice a n c] w fun e w' => ∃ v ys, e = .returned v ∧ FRow w.heap.size w' v ys ∧ ys.Perm xs ∧ Rising ys ∧ Below w.heap.size w w' := by
  have HX := hide hx
  have HA := hide h
  clear hx h
  go_enter Tryz.func22, Tryz.ntmps22
  go_wp2
  go_loopw [3, 4, 5, 6] (fun v3 v4 _ _ wr => ∃ (i : Nat) (ys : List Fl), i ≤ n ∧ v4 = .int .i64 (i : Int) ∧ FRow w.heap.size wr v3 ys ∧ Hid (ys.Perm (xs.take i)) ∧ Hid (Rising ys) ∧ Below w.heap.size w wr) (fun _ v4 _ _ _ => n - (intOf v4).toNat)
  case atStart => exact ⟨0, [], Nat.zero_le _, rfl, World.ownsRow_nil _ _ _ _, hide (by simp), hide (fun i j hi => by simp at hi), Below.refl _ _⟩
  case round =>
    rename World => wr
    obtain ⟨i, ys, hi, rfl, hrow, hperm, hris, hbw⟩ := hrel
    by_cases hlt : i < n
    · have hil : i < xs.length := by rw [unhide HX]; exact hlt
      have hlt' : (i : Int) < (n : Int) := by omega
      have hyl : ys.length = i := by rw [(unhide hperm).length_eq, List.length_take]; omega
      obtain ⟨B, O, rfl, g0, g1⟩ := ((unhide HA).low hbw).get hil
      obtain ⟨ga, gc, rfl, hgat, hgc, hgf⟩ := FRow.adr hrow
      have htk := take_sn hil
      obtain ⟨x, hxx⟩ : ∃ x, xs[i] = x := ⟨_, rfl⟩
      rw [hxx] at g0 g1 htk
      have HTK := hide htk
      have HAX := hide (And.intro g0 g1)
      rw [hyl] at hgc hgf ⊢
      have HYL := hide hyl
      have HG := hide hgat
      have HGF := hide hgf
      have HBW := hide hbw
      clear hxx htk hgat hyl hrow g1 g0 hgf hbw
      go_wp2
      go_loopw [5] (fun v5 wi => ∃ m q : Nat, m ≤ i ∧ v5 = .int .i64 (m : Int) ∧ Hid (∀ j (h1 : m ≤ j) (h2 : j < ys.length), Lib.compareBytes x.nm ys[j].nm < 0) ∧ wi = wr.drewN q) (fun v5 _ => (intOf v5).toNat)
      case atStart => exact ⟨i, 0, Nat.le_refl _, rfl, hide (fun j h1 h2 => by have := unhide HYL; omega), rfl⟩
      case round =>
        rename World => wi
        obtain ⟨m, q, hm, rfl, hgt, hwi⟩ := hrel
        have HWI := hide hwi
        have hbi : Below wr.heap.size wr wi := by rw [hwi]; exact low_q _
        have hx0 : wi.cell? ⟨B, O + i * 2, none⟩ = some (.string (ba x.nm)) := (hbi.cell (lt_of_cell (unhide HAX).1)).trans (unhide HAX).1
        clear hwi
        by_cases hgo : ∃ m', m = m' + 1 ∧ ∃ h2 : m' < ys.length, Lib.compareBytes x.nm ys[m'].nm < 0
        · obtain ⟨m', hmm, h2, hcmp⟩ := hgo
          obtain ⟨B2, O2, rfl, k0, k1⟩ := ((unhide HG).low hbi).get h2
          have hgt2 : Hid (∀ j (h1 : m' ≤ j) (h2 : j < ys.length), Lib.compareBytes x.nm ys[j].nm < 0) := hide (fun j h1 h3 => by
            by_cases e : j = m'
            · subst e; exact hcmp
            · exact unhide hgt j (by omega) h3)
          obtain ⟨y, hy⟩ : ∃ y, ys[m'] = y := ⟨_, rfl⟩
          rw [hy] at k0 k1 hcmp
          have t := orders_bytes.turn x.nm y.nm
          have b1 : Op.bytesLess (ba y.nm).toList (ba x.nm).toList = false := by
            rw [baL_list, baL_list, less_cmp]
            exact decide_eq_false (by omega)
          have b2 : ((ba y.nm).toList == (ba x.nm).toList) = false := by
            rw [baL_list, baL_list]
            have : y.nm ≠ x.nm := fun e => by
              rw [e, orders_bytes.self] at hcmp
              omega
            simpa using this
          have e1 : (m : Int) - 1 = (m' : Int) := by omega
          have e2 : IntKind.i64.wrap (m' : Int) = (m' : Int) := by rw [IntKind.wrap_i64]; omega
          have hpos : (0 : Int) < (m : Int) := by omega
          have kt1 : decide (0 < m) = true := by simp; omega
          have kt2 : decide ((0 : Int) < (m : Int)) = true := by simp; omega
          have hmi : (m' : Int) < (i : Int) := by omega
          have HMM := hide hmm
          clear hy hcmp hgt h2 t k1 hbi hmm
          go_wp2
          go_quiet (fail)
          go_wp2
          go_roundw
          case rel => exact ⟨m', q + nq, by have := unhide HMM; omega, rfl, hgt2, by rw [unhide HWI, World.drewN_drewN]⟩
          case measure => have := unhide HMM; simp [intOf]; omega
        · have HLE : Hid (∀ j (h1 : j + 1 = m) (h2 : j < ys.length), ¬ Lib.compareBytes x.nm ys[j].nm < 0) := hide (fun j h1 h2 h3 => hgo ⟨j, h1.symm, h2, h3⟩)
          clear hgo
          rcases Nat.eq_zero_or_pos m with hm0 | hm0
          · have k1 : decide (0 < m) = false := by simp; omega
            have k2 : decide ((0 : Int) < (m : Int)) = false := by simp; omega
            have HM0 := hide hm0
            clear hm0
            go_wp2
            go_quiet (fail)
            obtain ⟨W, hW⟩ : ∃ W, wi.drewN nq = W := ⟨_, rfl⟩
            have b1 : Below wr.heap.size wr W := by rw [← hW]; exact low_trans hbi (low_q _)
            rw [hW]
            have y0 := (b1.cell (lt_of_cell (unhide HAX).1)).trans (unhide HAX).1
            have y1 := (b1.cell (lt_of_cell (unhide HAX).2)).trans (unhide HAX).2
            obtain ⟨W1, hW1⟩ : ∃ W1, W.alloc (.cells #[] 56) = W1 := ⟨_, rfl⟩
            have b2 : Below W.heap.size W W1 := by rw [← hW1]; exact lowAA (Below.refl _ _) _
            have q1 : Blk W1 W.heap.size #[] 56 := by rw [← hW1]; exact Blk.new _ _ _
            have r1 : FRow W.heap.size W1 (.slice (some ⟨W.heap.size, 0, none⟩) 0 0) [] := ⟨rfl, Or.inr ⟨_, 0, #[], rfl, Nat.le_refl _, q1, Nat.le_refl _, Nat.zero_le _, rfl, rfl⟩⟩
            have hyl := unhide HYL
            have hgW1 := (unhide HG).low (low_trans b1 b2)
            have htl : (ys.take m).length = m := by rw [List.length_take]; omega
            obtain ⟨v2, w2, ha2, hr2, b3⟩ := app_Fs (a := ga) (c := gc) r1 b2.size htl (by simp; omega) (by
              rcases unhide HGF with ⟨e1, e2, e3⟩ | h
              · exact Or.inl ⟨e1, by omega, e3⟩
              · exact Or.inr h) (hgW1.take m)
            have z0 := (b3.cell (lt_of_cell y0)).trans ((b2.cell (lt_of_cell y0)).trans y0)
            have z1 := (b3.cell (lt_of_cell y1)).trans ((b2.cell (lt_of_cell y1)).trans y1)
            obtain ⟨W3, hW3⟩ : ∃ W3, w2.alloc (.cells #[.string (ba x.nm), .slice x.a x.n x.c] 56) = W3 := ⟨_, rfl⟩
            obtain ⟨v4, w4, ha4, hr4, b4⟩ := app_F (x := x) hr2 (Nat.le_trans b2.size b3.size) (by rw [List.nil_append, htl]; omega) hW3
            obtain ⟨a9, ha9⟩ : ∃ v, cutF ga gc m = v := ⟨_, rfl⟩
            obtain ⟨c9, hc9⟩ : ∃ v, gc - m = v := ⟨_, rfl⟩
            obtain ⟨n9, hn9⟩ : ∃ v, i - m = v := ⟨_, rfl⟩
            have b24 : Below W.heap.size W w4 := (b2.trans b3).trans b4
            have hd9 : (ys.drop m).length = n9 := by rw [List.length_drop, hyl]; exact hn9
            obtain ⟨v6, w6, ha6, hr6, b6⟩ := app_Fs (a := a9) (c := c9) hr4 (Nat.le_trans b24.size (Nat.le_refl _)) hd9 (by rw [List.nil_append, List.length_append, htl]; simp; omega) (by rw [← ha9, ← hc9, ← hn9]; exact cutF_form hm hgc (unhide HGF)) (by rw [← ha9]; exact ((unhide HG).low (low_trans b1 b24)).cut (by rw [hyl]; exact hgc))
            have s1 : ∀ W, (Instr.slice 22 (.slice ga i gc) none (some (.int .i64 (m : Int))) none).run Tryz.prog W = .ok (.slice ga m gc) W := fun W => sliceF_to hm hgc W
            have s2 : ∀ W, (Instr.slice 22 (.slice ga i gc) (some (.int .i64 (m : Int))) none none).run Tryz.prog W = .ok (.slice a9 n9 c9) W := fun W => by
              rw [← ha9, ← hc9, ← hn9]; exact sliceF_from hm hgc W
            have HR : Hid (FRow w.heap.size w6 v6 ((ys.take m ++ [x]) ++ ys.drop m) ∧ Below w.heap.size w w6) := hide ⟨FRow.less (low_trans (unhide HBW) b1).size (by rw [List.nil_append] at hr6; exact hr6), low_trans (unhide HBW) (low_trans b1 (b24.trans b6))⟩
            have HP : Hid (((ys.take m ++ [x]) ++ ys.drop m).Perm (xs.take (i + 1))) := hide (by
              rw [unhide HTK]
              have e1 : ((ys.take m ++ [x]) ++ ys.drop m).Perm (x :: (ys.take m ++ ys.drop m)) := by
                rw [List.append_assoc]
                exact List.perm_middle
              rw [List.take_append_drop] at e1
              exact (e1.trans ((unhide hperm).cons x)).trans (List.perm_append_singleton x _).symm)
            have HRI : Hid (Rising ((ys.take m ++ [x]) ++ ys.drop m)) := hide (ins_rising (unhide hris) (unhide hgt) (fun j h1 h2 => by have := unhide HLE j h1 h2; omega) (by omega))
            have HW1 := hide hW1
            have HW3 := hide hW3
            clear hW b1 y0 y1 hW1 b2 q1 r1 hyl hgW1 htl hr2 b3 hW3 hr4 b4 ha9 hc9 hn9 b24 hd9 hr6 b6
            go_wp2_with (at_builtin; first | (rw [unhide HW1]; refine Lib.wpList_append_run _ rfl (.tmp 33) (.tmp 36) 22 22 (by rfl) (.slice (some ⟨W.heap.size, 0, none⟩) 0 0) (.slice ga m gc) (by rfl) (by rfl) _ _ ha2 ?_) | (rw [unhide HW3]; refine Lib.wpList_append_run _ rfl (.tmp 38) (.tmp 43) 22 22 (by rfl) _ _ (by rfl) (by rfl) _ _ ha4 ?_) | (refine Lib.wpList_append_run _ rfl (.tmp 45) (.tmp 48) 22 22 (by rfl) _ (.slice a9 n9 c9) (by rfl) (by rfl) _ _ ha6 ?_))
            go_roundw
            case rel => exact ⟨i + 1, (ys.take m ++ [x]) ++ ys.drop m, hlt, by push_cast; rfl, (unhide HR).1, HP, HRI, (unhide HR).2⟩
            case measure => simp [intOf]; omega
          · obtain ⟨m', hmm⟩ : ∃ m', m = m' + 1 := ⟨m - 1, by omega⟩
            have h2 : m' < ys.length := by have := unhide HYL; omega
            obtain ⟨B2, O2, hga, k0, k1⟩ := ((unhide HG).low hbi).get h2
            subst hga
            have hcmp := unhide HLE m' hmm.symm h2
            obtain ⟨y, hy⟩ : ∃ y, ys[m'] = y := ⟨_, rfl⟩
            rw [hy] at k0 k1 hcmp
            have t := orders_bytes.turn x.nm y.nm
            have b0 : (Op.bytesLess (ba y.nm).toList (ba x.nm).toList || (ba y.nm).toList == (ba x.nm).toList) = true := by
              rw [baL_list, baL_list, less_cmp]
              rcases Int.lt_or_eq_of_le (Int.not_lt.1 hcmp) with a | a
              · rw [decide_eq_true (by omega : Lib.compareBytes y.nm x.nm < 0)]; rfl
              · have e := (orders_bytes.eq _ _).1 a.symm
                simp [e]
            obtain ⟨p1, hp1⟩ : ∃ p1, Op.bytesLess (ba y.nm).toList (ba x.nm).toList = p1 := ⟨_, rfl⟩
            obtain ⟨p2, hp2⟩ : ∃ p2, ((ba y.nm).toList == (ba x.nm).toList) = p2 := ⟨_, rfl⟩
            rw [hp1, hp2] at b0
            have e1 : (m : Int) - 1 = (m' : Int) := by omega
            have e2 : IntKind.i64.wrap (m' : Int) = (m' : Int) := by rw [IntKind.wrap_i64]; omega
            have hpos : (0 : Int) < (m : Int) := by omega
            have kt1 : decide (0 < m) = true := by simp; omega
            have kt2 : decide ((0 : Int) < (m : Int)) = true := by simp; omega
            have hmi : (m' : Int) < (i : Int) := by omega
            clear hy hcmp h2 t k1 hmm hm0
            go_wp2
            go_quiet (fail)
            obtain ⟨W, hW⟩ : ∃ W, wi.drewN nq = W := ⟨_, rfl⟩
            have b1 : Below wr.heap.size wr W := by rw [← hW]; exact low_trans hbi (low_q _)
            rw [hW]
            have y0 := (b1.cell (lt_of_cell (unhide HAX).1)).trans (unhide HAX).1
            have y1 := (b1.cell (lt_of_cell (unhide HAX).2)).trans (unhide HAX).2
            obtain ⟨W1, hW1⟩ : ∃ W1, W.alloc (.cells #[] 56) = W1 := ⟨_, rfl⟩
            have b2 : Below W.heap.size W W1 := by rw [← hW1]; exact lowAA (Below.refl _ _) _
            have q1 : Blk W1 W.heap.size #[] 56 := by rw [← hW1]; exact Blk.new _ _ _
            have r1 : FRow W.heap.size W1 (.slice (some ⟨W.heap.size, 0, none⟩) 0 0) [] := ⟨rfl, Or.inr ⟨_, 0, #[], rfl, Nat.le_refl _, q1, Nat.le_refl _, Nat.zero_le _, rfl, rfl⟩⟩
            have hyl := unhide HYL
            have hgW1 := (unhide HG).low (low_trans b1 b2)
            have htl : (ys.take m).length = m := by rw [List.length_take]; omega
            obtain ⟨v2, w2, ha2, hr2, b3⟩ := app_Fs (a := some ⟨B2, O2, none⟩) (c := gc) r1 b2.size htl (by simp; omega) (by
              rcases unhide HGF with ⟨e1, e2, e3⟩ | h
              · exact Or.inl ⟨e1, by omega, e3⟩
              · exact Or.inr h) (hgW1.take m)
            have z0 := (b3.cell (lt_of_cell y0)).trans ((b2.cell (lt_of_cell y0)).trans y0)
            have z1 := (b3.cell (lt_of_cell y1)).trans ((b2.cell (lt_of_cell y1)).trans y1)
            obtain ⟨W3, hW3⟩ : ∃ W3, w2.alloc (.cells #[.string (ba x.nm), .slice x.a x.n x.c] 56) = W3 := ⟨_, rfl⟩
            obtain ⟨v4, w4, ha4, hr4, b4⟩ := app_F (x := x) hr2 (Nat.le_trans b2.size b3.size) (by rw [List.nil_append, htl]; omega) hW3
            obtain ⟨a9, ha9⟩ : ∃ v, cutF (some ⟨B2, O2, none⟩) gc m = v := ⟨_, rfl⟩
            obtain ⟨c9, hc9⟩ : ∃ v, gc - m = v := ⟨_, rfl⟩
            obtain ⟨n9, hn9⟩ : ∃ v, i - m = v := ⟨_, rfl⟩
            have b24 : Below W.heap.size W w4 := (b2.trans b3).trans b4
            have hd9 : (ys.drop m).length = n9 := by rw [List.length_drop, hyl]; exact hn9
            obtain ⟨v6, w6, ha6, hr6, b6⟩ := app_Fs (a := a9) (c := c9) hr4 (Nat.le_trans b24.size (Nat.le_refl _)) hd9 (by rw [List.nil_append, List.length_append, htl]; simp; omega) (by rw [← ha9, ← hc9, ← hn9]; exact cutF_form hm hgc (unhide HGF)) (by rw [← ha9]; exact ((unhide HG).low (low_trans b1 b24)).cut (by rw [hyl]; exact hgc))
            have s1 : ∀ W, (Instr.slice 22 (.slice (some ⟨B2, O2, none⟩) i gc) none (some (.int .i64 (m : Int))) none).run Tryz.prog W = .ok (.slice (some ⟨B2, O2, none⟩) m gc) W := fun W => sliceF_to hm hgc W
            have s2 : ∀ W, (Instr.slice 22 (.slice (some ⟨B2, O2, none⟩) i gc) (some (.int .i64 (m : Int))) none none).run Tryz.prog W = .ok (.slice a9 n9 c9) W := fun W => by
              rw [← ha9, ← hc9, ← hn9]; exact sliceF_from hm hgc W
            have HR : Hid (FRow w.heap.size w6 v6 ((ys.take m ++ [x]) ++ ys.drop m) ∧ Below w.heap.size w w6) := hide ⟨FRow.less (low_trans (unhide HBW) b1).size (by rw [List.nil_append] at hr6; exact hr6), low_trans (unhide HBW) (low_trans b1 (b24.trans b6))⟩
            have HP : Hid (((ys.take m ++ [x]) ++ ys.drop m).Perm (xs.take (i + 1))) := hide (by
              rw [unhide HTK]
              have e1 : ((ys.take m ++ [x]) ++ ys.drop m).Perm (x :: (ys.take m ++ ys.drop m)) := by
                rw [List.append_assoc]
                exact List.perm_middle
              rw [List.take_append_drop] at e1
              exact (e1.trans ((unhide hperm).cons x)).trans (List.perm_append_singleton x _).symm)
            have HRI : Hid (Rising ((ys.take m ++ [x]) ++ ys.drop m)) := hide (ins_rising (unhide hris) (unhide hgt) (fun j h1 h2 => by have := unhide HLE j h1 h2; omega) (by omega))
            have HW1 := hide hW1
            have HW3 := hide hW3
            clear hW b1 y0 y1 hW1 b2 q1 r1 hyl hgW1 htl hr2 b3 hW3 hr4 b4 ha9 hc9 hn9 b24 hd9 hr6 b6
            go_wp2_with (at_builtin; first | (rw [unhide HW1]; refine Lib.wpList_append_run _ rfl (.tmp 33) (.tmp 36) 22 22 (by rfl) (.slice (some ⟨W.heap.size, 0, none⟩) 0 0) (.slice (some ⟨B2, O2, none⟩) m gc) (by rfl) (by rfl) _ _ ha2 ?_) | (rw [unhide HW3]; refine Lib.wpList_append_run _ rfl (.tmp 38) (.tmp 43) 22 22 (by rfl) _ _ (by rfl) (by rfl) _ _ ha4 ?_) | (refine Lib.wpList_append_run _ rfl (.tmp 45) (.tmp 48) 22 22 (by rfl) _ (.slice a9 n9 c9) (by rfl) (by rfl) _ _ ha6 ?_))
            go_roundw
            case rel => exact ⟨i + 1, (ys.take m ++ [x]) ++ ys.drop m, hlt, by push_cast; rfl, (unhide HR).1, HP, HRI, (unhide HR).2⟩
            case measure => simp [intOf]; omega
    · have hin : i = n := by omega
      subst hin
      have HR : Hid (ys.Perm xs ∧ Rising ys ∧ Below w.heap.size w wr) := hide ⟨by have h1 := unhide hperm; rw [List.take_of_length_le (by rw [unhide HX]; exact Nat.le_refl _)] at h1; exact h1, unhide hris, hbw⟩
      have HRO := hide hrow
      clear hperm hris hbw hrow
      go_wp2
      go_ret
      exact ⟨_, ys, rfl, unhide HRO, (unhide HR).1, (unhide HR).2.1, (unhide HR).2.2⟩
end Go.Proofs.YtkablmjkffdloaaGreatDoor
