/-
  Merge.
-/
import Derived.Test.YthcafeoamabkgaaGreatDoorMergQ
import Derived.Test.YthcafeoamabkgaaGreatDoorFewX
import Derived.Deep.QuietTactic
import Derived.BigQuiet
import Derived.Shelf.SlSortCmp.QuietGrown
namespace Go.Proofs.YthcafeoamabkgaaGreatDoor

section
open Go.RowKit Go.Lib
/-- A block holds a row of lines. -/
structure RowL (w : World) (g cap : Nat) (d : List Ln) : Prop where
  blk : ∃ cur, w.heap[g]? = some (.cells cur 38 (0, 0)) ∧ cur.size = cap * 4
  els : ∀ k (hk : k < d.length), LnAt w g (k * 4) d[k]

theorem RowL.free {w : World} {g cap : Nat} {d : List Ln} (h : RowL w g cap d) (j : Nat) : w.frozen? ⟨g, j, none⟩ = false := by
  obtain ⟨cur, hb, _⟩ := h.blk
  exact Lib.frozen_of_heap hb _

theorem RowL.isCell {w : World} {g cap : Nat} {d : List Ln} (h : RowL w g cap d) {j : Nat} (hj : j < cap * 4) : (w.cell? ⟨g, j, none⟩).isSome = true := by
  obtain ⟨cur, hb, hs⟩ := h.blk
  rw [Lib.cell_of_heap hb]
  have : j < cur.size := by omega
  simp [this]

theorem RowL.same {w w' : World} {g cap : Nat} {d : List Ln} (h : RowL w g cap d) (e : w'.heap = w.heap) : RowL w' g cap d := by
  obtain ⟨cur, hb, hs⟩ := h.blk
  refine ⟨⟨cur, by rw [e]; exact hb, hs⟩, fun k hk => ?_⟩
  have c : ∀ p, w'.cell? p = w.cell? p := fun p => by unfold World.cell?; rw [e]
  obtain ⟨h1, h2, h3, h4⟩ := h.els k hk
  exact ⟨(c _).trans h1, (c _).trans h2, (c _).trans h3, (c _).trans h4⟩

theorem rowL_of {B : Nat} {w : World} {g n cap : Nat} {d : List Ln} (h : Lines B w (.slice (some ⟨g, 0, none⟩) n cap) d) : RowL w g cap d ∧ n = d.length ∧ B ≤ g ∧ n ≤ cap ∧ cap ≤ maxLen := by
  rcases h.2 with ⟨h1, _⟩ | ⟨g', cap', cur, h1, hb, hblk, hcap, hcm, hcs, hcur⟩
  · cases h1
  · cases h1
    refine ⟨⟨⟨cur, hblk, hcs⟩, fun k hk => ?_⟩, rfl, hb, hcap, hcm⟩
    have at' : ∀ j, j < d.length * 4 → w.cell? ⟨g, j, none⟩ = (lnsV d)[j]? := by
      intro j hj
      have h1 : cur.toList[j]? = (lnsV d)[j]? := by rw [← hcur, List.getElem?_take_of_lt hj]
      have h2 : cur[j]? = cur.toList[j]? := by simp
      rw [Lib.cell_of_heap hblk, h2, h1]
    obtain ⟨a1, a2, a3, a4⟩ := lnL_at hk
    exact ⟨by rw [at' _ (by omega), a1], by rw [at' _ (by omega), a2], by rw [at' _ (by omega), a3], by rw [at' _ (by omega), a4]⟩

theorem RowL.lines {B : Nat} {w : World} {g cap : Nat} {d : List Ln} (h : RowL w g cap d) (hB : B ≤ g) (hc : d.length ≤ cap) (hm : cap ≤ maxLen) : Lines B w (.slice (some ⟨g, 0, none⟩) d.length cap) d := by
  obtain ⟨cur, hblk, hcs⟩ := h.blk
  refine ⟨lnsV_length _, Or.inr ⟨g, cap, cur, rfl, hB, hblk, hc, hm, hcs, ?_⟩⟩
  apply List.ext_getElem?
  intro j
  by_cases hj : j < d.length * 4
  · rw [List.getElem?_take_of_lt hj]
    have h2 : w.cell? ⟨g, j, none⟩ = cur.toList[j]? := by rw [Lib.cell_of_heap hblk]; simp
    rw [← h2]
    have hk : j / 4 < d.length := by omega
    obtain ⟨h1, h2, h3, h4⟩ := h.els (j / 4) hk
    obtain ⟨g1, g2, g3, g4⟩ := lnL_at hk
    have hr : j % 4 = 0 ∨ j % 4 = 1 ∨ j % 4 = 2 ∨ j % 4 = 3 := by omega
    rcases hr with hr | hr | hr | hr
    · have e : j / 4 * 4 = j := by omega
      rw [e] at h1 g1
      rw [g1, h1]
    · have e : j / 4 * 4 + 1 = j := by omega
      rw [e] at h2 g2
      rw [g2, h2]
    · have e : j / 4 * 4 + 2 = j := by omega
      rw [e] at h3 g3
      rw [g3, h3]
    · have e : j / 4 * 4 + 3 = j := by omega
      rw [e] at h4 g4
      rw [g4, h4]
  · rw [List.getElem?_eq_none (by rw [List.length_take]; omega), List.getElem?_eq_none (by rw [lnsV_length]; omega)]

theorem RowL.take {w : World} {g cap : Nat} {d : List Ln} (h : RowL w g cap d) (m : Nat) : RowL w g cap (d.take m) := by
  refine ⟨h.blk, fun k hk => ?_⟩
  rw [List.length_take] at hk
  rw [List.getElem_take]
  exact h.els k (by omega)

theorem blk_set {w : World} {g cap : Nat} (h : ∃ cur, w.heap[g]? = some (.cells cur 38 (0, 0)) ∧ cur.size = cap * 4) (o : Nat) (v : Value) : ∃ cur, (w.setCell ⟨g, o, none⟩ v).heap[g]? = some (.cells cur 38 (0, 0)) ∧ cur.size = cap * 4 := by
  obtain ⟨cur, hb, hs⟩ := h
  exact ⟨_, heap_setCell_at hb v, by simpa using hs⟩

theorem RowL.put {w : World} {g cap : Nat} {d : List Ln} (h : RowL w g cap d) {i : Nat} (hi : i < d.length) (x : Ln) :
    RowL ((((w.setCell ⟨g, i * 4, none⟩ (.string (ba x.p))).setCell ⟨g, i * 4 + 1, none⟩ (.string (ba x.v))).setCell ⟨g, i * 4 + 2, none⟩ (.int .i64 x.k)).setCell ⟨g, i * 4 + 3, none⟩ (.string (ba x.s))) g cap (d.set i x) := by
  refine ⟨blk_set (blk_set (blk_set (blk_set h.blk _ _) _ _) _ _) _ _, fun k hk => ?_⟩
  have hk' : k < d.length := by simpa using hk
  have o1 : ∀ (u : World) (v : Value) (m m' : Nat), m ≠ m' → (u.setCell ⟨g, m, none⟩ v).cell? ⟨g, m', none⟩ = u.cell? ⟨g, m', none⟩ := fun u v m m' hne =>
    World.cell?_setCell_other (w := u) (a := ⟨g, m, none⟩) (b := ⟨g, m', none⟩) (h := by intro hh; exact hne (congrArg Addr.off hh)) v
  by_cases e : i = k
  · subst e
    obtain ⟨h1, h2, h3, h4⟩ := h.els i hi
    rw [List.getElem_set_self]
    refine ⟨?_, ?_, ?_, ?_⟩
    · rw [o1 _ _ _ _ (by omega), o1 _ _ _ _ (by omega), o1 _ _ _ _ (by omega)]
      exact World.cell?_setCell_same' _ _ _ (by rw [h1]; rfl)
    · rw [o1 _ _ _ _ (by omega), o1 _ _ _ _ (by omega)]
      exact World.cell?_setCell_same' _ _ _ (by rw [o1 _ _ _ _ (by omega), h2]; rfl)
    · rw [o1 _ _ _ _ (by omega)]
      exact World.cell?_setCell_same' _ _ _ (by rw [o1 _ _ _ _ (by omega), o1 _ _ _ _ (by omega), h3]; rfl)
    · exact World.cell?_setCell_same' _ _ _ (by rw [o1 _ _ _ _ (by omega), o1 _ _ _ _ (by omega), o1 _ _ _ _ (by omega), h4]; rfl)
  · obtain ⟨h1, h2, h3, h4⟩ := h.els k hk'
    rw [List.getElem_set_ne e]
    refine ⟨?_, ?_, ?_, ?_⟩
    · rw [o1 _ _ _ _ (by omega), o1 _ _ _ _ (by omega), o1 _ _ _ _ (by omega), o1 _ _ _ _ (by omega)]; exact h1
    · rw [o1 _ _ _ _ (by omega), o1 _ _ _ _ (by omega), o1 _ _ _ _ (by omega), o1 _ _ _ _ (by omega)]; exact h2
    · rw [o1 _ _ _ _ (by omega), o1 _ _ _ _ (by omega), o1 _ _ _ _ (by omega), o1 _ _ _ _ (by omega)]; exact h3
    · rw [o1 _ _ _ _ (by omega), o1 _ _ _ _ (by omega), o1 _ _ _ _ (by omega), o1 _ _ _ _ (by omega)]; exact h4

theorem low_setCells {B g : Nat} (hg : B ≤ g) : ∀ (vs : List Value) (o : Nat) {w0 w : World}, Below B w0 w → Below B w0 (w.setCells g o vs)
  | [], _, _, _, h => h
  | v :: r, o, _, _, h => low_setCells hg r (o + 1) (h.setCell (p := ⟨g, o, none⟩) hg v)

theorem blk_setCells {g cap : Nat} : ∀ (vs : List Value) (o : Nat) {w : World}, (∃ cur, w.heap[g]? = some (.cells cur 38 (0, 0)) ∧ cur.size = cap * 4) → ∃ cur, (w.setCells g o vs).heap[g]? = some (.cells cur 38 (0, 0)) ∧ cur.size = cap * 4
  | [], _, _, h => h
  | v :: r, o, _, h => blk_setCells r (o + 1) (blk_set h o v)

/-- The front of a row stays where what is behind is written. -/
theorem RowL.behind {w : World} {g cap : Nat} {d : List Ln} (h : RowL w g cap d) {o : Nat} (ho : d.length * 4 ≤ o) (vs : List Value) : RowL (w.setCells g o vs) g cap d := by
  refine ⟨blk_setCells vs o h.blk, fun k hk => ?_⟩
  have c : ∀ j, j < d.length * 4 → (w.setCells g o vs).cell? ⟨g, j, none⟩ = w.cell? ⟨g, j, none⟩ := fun j hj => World.cell?_setCells_out g vs _ w _ (fun _ _ => Or.inl (by show j < o; omega))
  obtain ⟨h1, h2, h3, h4⟩ := h.els k hk
  exact ⟨(c _ (by omega)).trans h1, (c _ (by omega)).trans h2, (c _ (by omega)).trans h3, (c _ (by omega)).trans h4⟩

abbrev zero4 : Array Value := #[.string ⟨#[]⟩, .string ⟨#[]⟩, .int .i64 0, .string ⟨#[]⟩]

theorem clear_four (w : World) (ty : TypeId) (b o n c : Nat) (hn : 0 < n) (hc : ∀ j, j < n * 4 → (w.cell? ⟨b, o + j, none⟩).isSome = true) (hf : ∀ j, j < n * 4 → w.frozen? ⟨b, o + j, none⟩ = false) :
    (Builtin.clear_ #[22] ty #[.slice (some ⟨b, o, none⟩) n c]).run Tryz.prog w = .ok (.tuple #[]) (w.setCells b o (Builtin.zeroCells zero4 n).toList) := by
  cases n with
  | zero => omega
  | succ m =>
    have hlen : (Builtin.zeroCells zero4 (m + 1)).toList.length = (m + 1) * 4 := by simp [Builtin.zeroCells]
    have hst := run_storeCells_cells (P := Tryz.prog) b o (Builtin.zeroCells zero4 (m + 1)).toList 0 w (by rw [hlen]; simpa using hc) (by rw [hlen]; simpa using hf) (by
      intro v hv
      simp [Builtin.zeroCells] at hv
      obtain ⟨k, _, rfl⟩ := hv
      have hr : k % 4 = 0 ∨ k % 4 = 1 ∨ k % 4 = 2 ∨ k % 4 = 3 := by omega
      rcases hr with e | e | e | e <;> simp [e, Value.oneCell'])
    simp only [Nat.add_zero] at hst
    simp [Builtin.clear_, run_underlying Tryz.underlying22, Value.cells, hst]

theorem toArray_at {d : Array Ln} {i : Nat} (h : i < d.toList.length) : d.toList[i] = d[i]! := by
  have : i < d.size := by simpa using h
  simp [this]

/-- Two lines: the same, or where they part first. -/
theorem ln_part (x y : Ln) : x = y ∨ ((ba x.p).toList == (ba y.p).toList) = false ∨ (((ba x.p).toList == (ba y.p).toList) = true ∧ ((ba x.v).toList == (ba y.v).toList) = false) ∨ (((ba x.p).toList == (ba y.p).toList) = true ∧ ((ba x.v).toList == (ba y.v).toList) = true ∧ (x.k == y.k) = false) ∨ (((ba x.p).toList == (ba y.p).toList) = true ∧ ((ba x.v).toList == (ba y.v).toList) = true ∧ (x.k == y.k) = true ∧ ((ba x.s).toList == (ba y.s).toList) = false) := by
  obtain ⟨p, v, k, s⟩ := x
  obtain ⟨p', v', k', s'⟩ := y
  simp only [ba_list, Ln.mk.injEq]
  by_cases h1 : p = p'
  · by_cases h2 : v = v'
    · by_cases h3 : k = k'
      · by_cases h4 : s = s'
        · exact Or.inl ⟨h1, h2, h3, h4⟩
        · exact Or.inr (Or.inr (Or.inr (Or.inr ⟨by simp [h1], by simp [h2], by simp [h3], by simpa using h4⟩)))
      · exact Or.inr (Or.inr (Or.inr (Or.inl ⟨by simp [h1], by simp [h2], by simpa using h3⟩)))
    · exact Or.inr (Or.inr (Or.inl ⟨by simp [h1], by simpa using h2⟩))
  · exact Or.inr (Or.inl (by simpa using h1))
end

section
open Go.RowKit Go.Lib
theorem comp_take {d dk : Array Ln} {m k : Nat} (h : CompInv d m k dk) (hk : k ≤ dk.size) : compactUpTo d m = dk.toList.take k := by
  apply List.ext_getElem?
  intro j
  by_cases hj : j < k
  · rw [h.low j hj, List.getElem?_take_of_lt hj]
    have : j < dk.size := by omega
    simp [this]
  · rw [List.getElem?_eq_none (by rw [h.len]; omega), List.getElem?_eq_none (by rw [List.length_take]; omega)]

set_option maxRecDepth 100000 in
set_option maxHeartbeats 8000000 in
theorem compact_any {B : Nat} {w : World} {v : Value} {ys : List Ln} (h : Lines B w v ys) (hn : ys.length ≤ 1000000) :
    Calls Tryz.prog 70 #[v] w fun e w' => ∃ v', e = .returned v' ∧ Lines B w' v' (compact ys) ∧ Below B w w' := by
  by_cases h2 : ys.length < 2
  · have hall : compact ys = ys := compact_all ys (fun j hj => by
      rcases Nat.eq_zero_or_pos j with e | e
      · exact keeps_lt_one _ j (by omega)
      · have : j = 1 ∨ j = 0 := by omega
        omega)
    rw [hall]
    obtain ⟨n, hyn⟩ : ∃ n, ys.length = n := ⟨_, rfl⟩
    obtain ⟨a, c, hv, _, _⟩ := Lines.at h
    rw [hyn] at hv h2
    subst hv
    have H := hide h
    clear h hall
    go_enter Tryz.func70, Tryz.ntmps70
    go_wp2
    go_ret
    exact ⟨_, rfl, unhide H, Below.refl _ _⟩
  · obtain ⟨n, hyn⟩ : ∃ n, ys.length = n := ⟨_, rfl⟩
    obtain ⟨g, cap, rfl, _, _⟩ := World.ownsRow.form h (by omega)
    obtain ⟨hR, _, hBg, hcap, hcm⟩ := rowL_of h
    rw [hyn] at h2 hn hcap ⊢
    have hc63 : cap ≤ 9223372036854775807 := by unfold maxLen at hcm; omega
    have HR := hide hR
    have HY := hide hyn
    have HB := hide hBg
    have HCM := hide hcm
    have HFIN : Hid (∀ wq : World, ∀ d : List Ln, RowL wq g cap d → d.length ≤ cap → Below B w wq → Lines B wq (.slice (some ⟨g, 0, none⟩) d.length cap) d ∧ Below B w wq) := hide (fun wq d h1 h2 h3 => ⟨h1.lines hBg h2 hcm, h3⟩)
    clear h hR hyn hBg hcm
    go_enter Tryz.func70, Tryz.ntmps70
    go_wp2
    go_loopw [3] (fun v3 wr => ∃ i q : Nat, i + 1 ≤ n ∧ v3 = .int .i64 ((i + 1 : Nat) : Int) ∧ wr = w.drewN q ∧ ∀ j, j < i + 1 → keeps ys.toArray j = true) (fun v3 _ => n - (intOf v3).toNat)
    case atStart => exact ⟨0, 0, by omega, rfl, rfl, keeps_lt_one _⟩
    case round =>
      rename World => wr
      obtain ⟨i, q, hi, rfl, hwr, hall⟩ := hrel
      have HW := hide hwr
      have HALL := hide hall
      have HRr : Hid (RowL wr g cap ys) := hide (by rw [hwr]; exact (unhide HR).same rfl)
      clear hall hwr
      by_cases hlt : i + 1 < n
      · have l1 : i + 1 < ys.length := by rw [unhide HY]; exact hlt
        have l0 : i < ys.length := by omega
        obtain ⟨m1, m2, m3, m4⟩ := (unhide HRr).els (i + 1) l1
        obtain ⟨p1, p2, p3, p4⟩ := (unhide HRr).els i l0
        obtain ⟨x, hx⟩ : ∃ x, ys[i + 1] = x := ⟨_, rfl⟩
        obtain ⟨y, hy⟩ : ∃ y, ys[i] = y := ⟨_, rfl⟩
        rw [hx] at m1 m2 m3 m4
        rw [hy] at p1 p2 p3 p4
        have hparts := ln_part x y
        have HK : Hid (¬ x = y → ∀ j, j < (i + 1) + 1 → keeps ys.toArray j = true) := hide (fun hne j hj => by
          rcases Nat.lt_or_ge j (i + 1) with h | h
          · exact unhide HALL j h
          · have : j = i + 1 := by omega
            subst this
            exact keeps_pos (by rw [bang l1, Nat.add_sub_cancel, bang l0, hx, hy]; exact hne))
        have HD : Hid (x = y → keeps ys.toArray (i + 1) = false) := hide (fun he => keeps_neg (by omega) (by rw [bang l1, Nat.add_sub_cancel, bang l0, hx, hy]; exact he))
        clear hx hy l0 l1
        obtain ⟨p, v, k, s⟩ := x
        obtain ⟨p', v', k', s'⟩ := y
        simp only at m1 m2 m3 m4 p1 p2 p3 p4 hparts
        by_cases hxy : (⟨p, v, k, s⟩ : Ln) = ⟨p', v', k', s'⟩
        · have HD' := hide (unhide HD hxy)
          simp only [Ln.mk.injEq] at hxy
          obtain ⟨rfl, rfl, rfl, rfl⟩ := hxy
          clear hparts HK HD
          go_wp2
          go_quiet (fail)
          have HS : Hid (CompInv ys.toArray ((i + 1) + 1) (i + 1) ys.toArray) := hide (CompInv.start (unhide HALL) (unhide HD'))
          clear m1 m2 m3 m4 p1 p2 p3 p4
          have hne : ¬ cap = i + 1 := by omega
          have hRq : Hid (∀ q2, RowL (wr.drewN q2) g cap ys.toArray.toList) := hide (fun q2 => (unhide HRr).same rfl)
          have hBq : Hid (∀ q2, Below B w (wr.drewN q2)) := hide (fun q2 => by rw [unhide HW]; exact low_drewN (low_drewN (Below.refl _ _) q) q2)
          go_wp2
          go_loopw [3, 5] (fun v3 v5 wq => ∃ (kk k2 : Nat) (dk : Array Ln), v3 = .int .i64 kk ∧ v5 = .int .i64 ((k2 + 1 : Nat) : Int) ∧ (i + 1) + (k2 + 1) ≤ n ∧ RowL wq g cap dk.toList ∧ Below B w wq ∧ CompInv ys.toArray ((i + 1) + (k2 + 1)) kk dk) (fun _ v5 _ => n - (intOf v5).toNat)
          case atStart => exact ⟨i + 1, 0, ys.toArray, by simp, rfl, by omega, unhide hRq _, unhide hBq _, unhide HS⟩
          case round =>
            rename World => wq
            clear hRq hBq HRr HS
            obtain ⟨kk, k2, dk, rfl, rfl, hle, hrow, hlow, hI⟩ := hrel
            have hds : dk.size = n := by rw [hI.size]; simpa using unhide HY
            have hkk : kk < (i + 1) + (k2 + 1) := hI.lt
            have HI := hide hI
            have HLO := hide hlow
            have HRQ := hide hrow
            by_cases hlt2 : (i + 1) + (k2 + 1) < n
            · have j1 : (i + 1) + (k2 + 1) < dk.toList.length := by simp; omega
              have j0 : (i + 1) + k2 < dk.toList.length := by simp; omega
              have j2 : kk < dk.toList.length := by simp; omega
              obtain ⟨m1, m2, m3, m4⟩ := hrow.els _ j1
              obtain ⟨p1, p2, p3, p4⟩ := hrow.els _ j0
              obtain ⟨o1, o2, o3, o4⟩ := hrow.els _ j2
              have y1 : (i + 1) + (k2 + 1) < ys.length := by rw [unhide HY]; exact hlt2
              have y0 : (i + 1) + k2 < ys.length := by omega
              have ex : dk.toList[(i + 1) + (k2 + 1)] = ys[(i + 1) + (k2 + 1)] := by rw [toArray_at, hI.high _ (by omega), bang y1]
              have ey : dk.toList[(i + 1) + k2] = ys[(i + 1) + k2] := by rw [toArray_at, hI.high _ (by omega), bang y0]
              have e1 : ((i + 1) + (k2 + 1)) * 4 = (i + 1) * 4 + (k2 + 1) * 4 := by omega
              have e0 : ((i + 1) + k2) * 4 = (i + 1) * 4 + k2 * 4 := by omega
              obtain ⟨x, hx⟩ : ∃ x, ys[(i + 1) + (k2 + 1)] = x := ⟨_, rfl⟩
              obtain ⟨y, hy⟩ : ∃ y, ys[(i + 1) + k2] = y := ⟨_, rfl⟩
              rw [ex, hx, e1] at m1 m2 m3 m4
              rw [ey, hy, e0] at p1 p2 p3 p4
              have g1 := hrow.free (kk * 4)
              have g2 := hrow.free (kk * 4 + 1)
              have g3 := hrow.free (kk * 4 + 2)
              have g4 := hrow.free (kk * 4 + 3)
              obtain ⟨z, hz⟩ : ∃ z, dk.toList[kk] = z := ⟨_, rfl⟩
              rw [hz] at o1 o2 o3 o4
              have hparts := ln_part x y
              have bx : ys.toArray[(i + 1) + (k2 + 1)]! = x := by rw [bang y1, hx]
              have byy : ys.toArray[(i + 1) + (k2 + 1) - 1]! = y := by rw [show (i + 1) + (k2 + 1) - 1 = (i + 1) + k2 by omega, bang y0, hy]
              have HKP : Hid (¬ x = y → CompInv ys.toArray ((i + 1) + (k2 + 1 + 1)) (kk + 1) (dk.setIfInBounds kk x)) := hide (fun hne => by
                have := hI.keep (by simp; omega) (keeps_pos (by rw [bx, byy]; exact hne))
                rw [bx] at this
                exact this)
              have HSK : Hid (x = y → CompInv ys.toArray ((i + 1) + (k2 + 1 + 1)) kk dk) := hide (fun he => hI.skip (keeps_neg (by omega) (by rw [bx, byy]; exact he)))
              have HJ2 := hide j2
              clear hx hy hz ex ey e1 e0 bx byy y1 y0 j0 j1 j2 hrow hlow hI
              obtain ⟨p, v, k, s⟩ := x
              obtain ⟨p', v', k', s'⟩ := y
              simp only at m1 m2 m3 m4 p1 p2 p3 p4 hparts
              by_cases hxy : (⟨p, v, k, s⟩ : Ln) = ⟨p', v', k', s'⟩
              · have HK2 := hide (unhide HSK hxy)
                simp only [Ln.mk.injEq] at hxy
                obtain ⟨rfl, rfl, rfl, rfl⟩ := hxy
                clear hparts HKP HSK o1 o2 o3 o4 g1 g2 g3 g4
                go_wp2
                go_quiet (fail)
                go_wp2
                go_roundw
                case rel => exact ⟨kk, k2 + 1, dk, rfl, by simp, by omega, (unhide HRQ).same rfl, low_drewN (unhide HLO) _, unhide HK2⟩
                case measure => simp [intOf]; omega
              · have HK2 := hide (unhide HKP hxy)
                rcases hparts with e | e | ⟨e, e2⟩ | ⟨e, e2, e3⟩ | ⟨e, e2, e3, e4⟩
                · exact absurd e hxy
                all_goals
                  clear hxy HKP HSK
                  go_wp2
                  go_quiet (fail)
                  go_wp2
                  go_roundw
                  case rel => exact ⟨kk + 1, k2 + 1, dk.setIfInBounds kk ⟨p, v, k, s⟩, by simp, by simp, by omega, by rw [Array.toList_setIfInBounds]; exact RowL.put (w := wq.drewN nq) (x := ⟨p, v, k, s⟩) ((unhide HRQ).same rfl) (unhide HJ2), ((((low_drewN (unhide HLO) _).setCell (p := ⟨g, _, none⟩) (unhide HB) _).setCell (p := ⟨g, _, none⟩) (unhide HB) _).setCell (p := ⟨g, _, none⟩) (unhide HB) _).setCell (p := ⟨g, _, none⟩) (unhide HB) _, unhide HK2⟩
                  case measure => simp [intOf]; omega
            · have hend : (i + 1) + (k2 + 1) = n := by omega
              obtain ⟨W2, hW2⟩ : ∃ W2, wq.setCells g (kk * 4) (Builtin.zeroCells zero4 (n - kk)).toList = W2 := ⟨_, rfl⟩
              have hcl : ∀ ty, (Builtin.clear_ #[22] ty #[.slice (some ⟨g, kk * 4, none⟩) (n - kk) (cap - kk)]).run Tryz.prog wq = .ok (.tuple #[]) W2 := fun ty => by
                rw [← hW2]
                exact clear_four wq ty g (kk * 4) (n - kk) _ (by omega) (fun j hj => hrow.isCell (by omega)) (fun j _ => hrow.free _)
              have hct : compact ys = dk.toList.take kk := by
                have := comp_take hI (by omega)
                rw [hend, ← unhide HY] at this
                exact this
              have htl : (dk.toList.take kk).length = kk := by rw [List.length_take]; simp; omega
              have HD := hide ((unhide HFIN) W2 (dk.toList.take kk) (by rw [← hW2]; exact (hrow.take kk).behind (by rw [htl]; exact Nat.le_refl _) _) (by rw [htl]; omega) (by rw [← hW2]; exact low_setCells (unhide HB) _ _ hlow))
              rw [htl, ← hct] at HD
              have hkc : ¬ cap = kk := by omega
              have hknn : kk ≤ n := by omega
              have hexit : ¬ (k2 : Int) + 1 < ((n - (i + 1) : Nat) : Int) := by omega
              clear hct htl hrow hlow hI hW2 hend hlt2
              go_wp2
              go_ret
              exact ⟨_, rfl, (unhide HD).1, (unhide HD).2⟩
        · have HK' := hide (unhide HK hxy)
          rcases hparts with e | e | ⟨e, e2⟩ | ⟨e, e2, e3⟩ | ⟨e, e2, e3, e4⟩
          · exact absurd e hxy
          all_goals
            clear hxy HK HD
            go_wp2
            go_quiet (fail)
            go_wp2
            go_roundw
            case rel => exact ⟨i + 1, q + nq, hlt, by simp, by rw [unhide HW, World.drewN_drewN], unhide HK'⟩
            case measure => simp [intOf]; omega
      · have hin : i + 1 = n := by omega
        have hall : compact ys = ys := compact_all ys (by rw [unhide HY, ← hin]; exact unhide HALL)
        have HD := hide ((unhide HFIN) wr ys (unhide HRr) (by rw [unhide HY]; exact hcap) (by rw [unhide HW]; exact low_drewN (Below.refl _ _) q))
        rw [unhide HY] at HD
        have HAL := hide hall
        clear hall
        subst hin
        go_wp2
        go_ret
        exact ⟨_, rfl, by rw [unhide HAL]; exact (unhide HD).1, (unhide HD).2⟩
end

end Go.Proofs.YthcafeoamabkgaaGreatDoor

namespace Go.Proofs.YthcafeoamabkgaaGreatDoor
open Go.RowKit Go.Lib

/-- What Merge answers. -/
def MergeSaid (w : World) (l : List Ln) (e : Ending) (w' : World) : Prop :=
  (Clash l ∧ e = .returned (.tuple #[.slice none 0 0, .int .i64 28]) ∧ Below w.heap.size w w') ∨ (¬ Clash l ∧ ∃ v zs, e = .returned (.tuple #[v, .int .i64 0]) ∧ Lines w.heap.size w' v zs ∧ Once l zs ∧ zs.length ≤ l.length ∧ Below w.heap.size w w')

/-- The quiet walk, shut: what is left of it is not unfolded. -/
structure Wq (P : Program) (ops : Array Oper) (C : World → Prop) (Q : Act → Prop) (l : List Oper) (a : Act) : Prop where
  out : wpQuiet P ops C Q l a
theorem Wq.step {P : Program} {ops : Array Oper} {C : World → Prop} {Q : Act → Prop} {rest : List Oper} {o : Oper} {a : Act} (h : ∀ K : Act → Prop, (∀ a, Wq P ops C Q rest a → K a) → if Region.wanted o (yielded ops a.tmps) then o.quiet P a C K else K (a.put o.dst undef)) : Wq P ops C Q (o :: rest) a :=
  ⟨wpQuiet_step (fun K hK => h K (fun a ha => hK a ha.out))⟩
theorem Wq.nil {P : Program} {ops : Array Oper} {C : World → Prop} {Q : Act → Prop} {a : Act} (h : Q a) : Wq P ops C Q [] a := ⟨wpQuiet_nil h⟩

theorem entryOf_bel {x : Ln} (w : World) : Calls Tryz.prog 53 #[lnV x] w fun e w' => e = .returned (enV (x.p, x.v, x.k)) ∧ Bel w.heap.size w w' := by
  obtain ⟨p, v, k, s⟩ := x
  go_enter Tryz.func53, Tryz.ntmps53
  go_wp2
  exact bodyPost_ret (v := enV (p, v, k)) (by simp [results, Tryz.results53, go_sem]) rfl ⟨rfl, ((Bel.refl _ _).alloc (Nat.le_refl _) _).alloc (by simp) _⟩

theorem entry_grown {w : World} {n : Nat} {os : Array Obj} {p v s : Str} {k : Int} :
    Calls Tryz.prog 53 #[.agg #[.string (ba p), .string (ba v), .int .i64 k, .string (ba s)]] (Sort.grow (w.drewN n) os) fun e w'' => e = .returned (.agg #[.string (ba p), .string (ba v), .int .i64 k]) ∧ ∃ p : GrownBy, w'' = Sort.grow (w.drewN p.n) p.os := by
  refine Calls.grown_of ?_
  refine (entryOf_bel (x := ⟨p, v, k, s⟩) _).mono ?_
  rintro e w' ⟨rfl, b⟩
  exact ⟨rfl, b.grow⟩

theorem low_grown {w : World} (n : Nat) (os : Array Obj) : Below w.heap.size w (Sort.grow (w.drewN n) os) := by
  refine ⟨rfl, rfl, rfl, ?_, fun k hk => ?_⟩
  · show w.heap.size ≤ (w.heap ++ os).size
    rw [Array.size_append]
    omega
  · exact Sort.heap_grow_old (w.drewN n) os hk

/-- Two neighbours: of one key and sum, of one key alone, or where their keys part first. -/
theorem key_part (x y : Ln) :
    (keyL x = keyL y ∧ x.s = y.s ∧ ((ba x.p).toList == (ba y.p).toList) = true ∧ ((ba x.v).toList == (ba y.v).toList) = true ∧ (x.k == y.k) = true ∧ ((ba x.s).toList == (ba y.s).toList) = true ∧ ((ba x.s).toList != (ba y.s).toList) = false) ∨
    (keyL x = keyL y ∧ ¬ x.s = y.s ∧ ((ba x.p).toList == (ba y.p).toList) = true ∧ ((ba x.v).toList == (ba y.v).toList) = true ∧ (x.k == y.k) = true ∧ ((ba x.s).toList == (ba y.s).toList) = false ∧ ((ba x.s).toList != (ba y.s).toList) = true) ∨
    (¬ keyL x = keyL y ∧ ((ba x.p).toList == (ba y.p).toList) = false) ∨
    (¬ keyL x = keyL y ∧ ((ba x.p).toList == (ba y.p).toList) = true ∧ ((ba x.v).toList == (ba y.v).toList) = false) ∨
    (¬ keyL x = keyL y ∧ ((ba x.p).toList == (ba y.p).toList) = true ∧ ((ba x.v).toList == (ba y.v).toList) = true ∧ (x.k == y.k) = false) := by
  obtain ⟨p, v, k, s⟩ := x
  obtain ⟨p', v', k', s'⟩ := y
  simp only [ba_list, keyL, Prod.mk.injEq]
  by_cases h1 : p = p'
  · by_cases h2 : v = v'
    · by_cases h3 : k = k'
      · by_cases h4 : s = s'
        · exact Or.inl ⟨⟨⟨h1, h2⟩, h3⟩, h4, by simp [h1], by simp [h2], by simp [h3], by simp [h4], by simp [h4]⟩
        · exact Or.inr (Or.inl ⟨⟨⟨h1, h2⟩, h3⟩, h4, by simp [h1], by simp [h2], by simp [h3], by simpa using h4, by simpa using h4⟩)
      · exact Or.inr (Or.inr (Or.inr (Or.inr ⟨fun h => h3 h.2, by simp [h1], by simp [h2], by simpa using h3⟩)))
    · exact Or.inr (Or.inr (Or.inr (Or.inl ⟨fun h => h2 h.1.2, by simp [h1], by simpa using h2⟩)))
  · exact Or.inr (Or.inr (Or.inl ⟨fun h => h1 h.1.1, by simpa using h1⟩))

theorem calm_next {l : List Ln} {i : Nat} (h : Calm l (i + 1)) (hi : i + 1 < l.length) (hs : keyL l[i] = keyL l[i + 1] → l[i].s = l[i + 1].s) : Calm l (i + 1 + 1) := by
  intro j hj hm hk
  rcases Nat.lt_or_ge (j + 1) (i + 1) with h1 | h1
  · exact h j hj h1 hk
  · have : j = i := by omega
    subst this
    exact hs hk

set_option maxRecDepth 100000 in
set_option maxHeartbeats 8000000 in
theorem merge_any {w : World} {n m ac bc : Nat} {a b : Option Addr} {xs ys : List Ln} (hg : Gd w) (hx : xs.length = n) (hy : ys.length = m) (hn : n ≤ 1000) (hm : m ≤ 1000) (hA : LRow w a xs) (hB : LRow w b ys) :
    Calls Tryz.prog 27 #[.slice a n ac, .slice b m bc] w (MergeSaid w (xs ++ ys)) := by
  obtain ⟨W0, hW0⟩ : ∃ W0, w.alloc (.cells #[.slice a n ac, .slice b m bc] 22) = W0 := ⟨_, rfl⟩
  have b0 : Below w.heap.size w W0 := by rw [← hW0]; exact (Below.refl _ _).alloc (Nat.le_refl _) _
  have k0 : Blk W0 w.heap.size #[.slice a n ac, .slice b m bc] 22 := by rw [← hW0]; exact Blk.new _ _ _
  have HC := hide (concat_any hx hy hn hm (hA.low b0) (hB.low b0) k0)
  have HB0 := hide b0
  have HG := hide hg
  have HN : Hid ((xs ++ ys).length ≤ 1000000) := hide (by rw [List.length_append]; omega)
  clear hg hx hy hA hB b0 k0
  have HW0 := hide hW0
  clear hW0
  go_enter Tryz.func27, Tryz.ntmps27
  go_wp2_with (go_at_call 69; fail)
  rw [unhide HW0]
  refine (unhide HC).mono ?_
  rintro e w1 ⟨v1, rfl, l1, b1⟩
  have bw1 := low_trans (unhide HB0) b1
  have HS := hide (sorted_any ((unhide HG).low bw1) l1 (unhide HN))
  have HB1 := hide bw1
  clear l1 b1 bw1 HC
  go_wp2_with (go_at_call 47; fail)
  refine (unhide HS).mono ?_
  rintro e w2 ⟨v2, rfl, zs, hp, hr, l2, b2⟩
  obtain ⟨a2, c2, rfl, lr2, _⟩ := Lines.at l2
  obtain ⟨N, hN⟩ : ∃ N, zs.length = N := ⟨_, rfl⟩
  rw [hN]
  have hNs : N ≤ 1000000 := by rw [← hN, hp.length_eq]; exact unhide HN
  have HL2 := hide l2
  have HLR := hide lr2
  have HP := hide hp
  have HR := hide hr
  have HNN := hide hN
  have HB2 := hide (low_trans (unhide HB1) b2)
  have HMEM : Hid (∀ x, x ∈ zs ↔ x ∈ xs ++ ys) := hide (fun x => hp.mem_iff)
  have HCO : Hid (∀ wr : World, Below w2.heap.size w2 wr → Calls Tryz.prog 70 #[.slice a2 N c2] wr fun e w' => ∃ v', e = .returned v' ∧ Lines w.heap.size w' v' (compact zs) ∧ Below w.heap.size w w') := hide (fun wr hwr => by
    have hrow : Lines w1.heap.size wr (.slice a2 zs.length c2) zs := row_low l2 hwr
    rw [hN] at hrow
    refine (compact_any hrow (by rw [hN]; exact hNs)).mono ?_
    rintro e w' ⟨v', rfl, h1, h2⟩
    have hb := (unhide HB1).size
    exact ⟨v', rfl, lines_mono h1 hb, (low_trans (low_trans (unhide HB1) b2) hwr).trans (h2.mono hb)⟩)
  clear l2 lr2 hp hr hN b2 HS
  go_wp2
  go_loopw [7] (fun v7 wr => ∃ i : Nat, (i + 1 ≤ N ∨ i = 0) ∧ v7 = .int .i64 ((i + 1 : Nat) : Int) ∧ Calm zs (i + 1) ∧ Below w2.heap.size w2 wr) (fun v7 _ => N - (intOf v7).toNat)
  case atStart => exact ⟨0, Or.inr rfl, rfl, fun j _ h => by omega, Below.refl _ _⟩
  case round =>
    rename World => wr
    obtain ⟨i, hi, rfl, hcalm, hlow⟩ := hrel
    have HCA := hide hcalm
    have HLW := hide hlow
    clear hcalm hlow
    by_cases hlt : i + 1 < N
    · have l1 : i + 1 < zs.length := by rw [unhide HNN]; exact hlt
      have l0 : i < zs.length := by omega
      obtain ⟨B, O, rfl, he⟩ : ∃ B O, a2 = some ⟨B, O, none⟩ ∧ ∀ k (hk : k < zs.length), LnAt wr B (O + k * 4) zs[k] := by
        rcases ((unhide HLR).low (unhide HLW)).els with h | h
        · rw [h] at l0; simp at l0
        · exact h
      have hx0 := he i l0
      have hy0 := he (i + 1) l1
      have HNX := hide (calm_next (unhide HCA) l1)
      have HCL := hide (clash_at l1)
      obtain ⟨x, hx⟩ : ∃ x, zs[i] = x := ⟨_, rfl⟩
      obtain ⟨y, hy⟩ : ∃ y, zs[i + 1] = y := ⟨_, rfl⟩
      rw [hx, hy] at HNX HCL
      rw [hx] at hx0
      rw [hy] at hy0
      have hkp := key_part x y
      obtain ⟨x0, x1, x2, x3⟩ := hx0
      obtain ⟨y0, y1, y2, y3⟩ := hy0
      obtain ⟨j, hj⟩ : ∃ j, i + 1 = j := ⟨_, rfl⟩
      have HJE := hide hj
      have hji : (j : Int) - 1 = (i : Int) := by omega
      have hjc : (i : Int) + 1 = (j : Int) := by omega
      have wrapB : IntKind.i64.wrap (i : Int) = i := by rw [IntKind.wrap_i64]; omega
      have i0 : (0 : Int) ≤ (i : Int) := by omega
      have i1 : (i : Int) < (N : Int) := by omega
      have jj0 : (0 : Int) ≤ (j : Int) := by omega
      have jj1 : (j : Int) < (N : Int) := by omega
      have hcast : ((i + 1 : Nat) : Int) = (j : Int) := by omega
      rw [hj] at y0 y1 y2 y3
      rw [hcast]
      have q0 := fun n os => cell_grown (lt_of_cell x0) x0 n os
      have q1 := fun n os => cell_grown (lt_of_cell x1) x1 n os
      have q2 := fun n os => cell_grown (lt_of_cell x2) x2 n os
      have q3 := fun n os => cell_grown (lt_of_cell x3) x3 n os
      have q4 := fun n os => cell_grown (lt_of_cell y0) y0 n os
      have q5 := fun n os => cell_grown (lt_of_cell y1) y1 n os
      have q6 := fun n os => cell_grown (lt_of_cell y2) y2 n os
      have q7 := fun n os => cell_grown (lt_of_cell y3) y3 n os
      have mixed : Tryz.prog.follows .mixedOrders = true := by kernel_rfl
      clear he hx hy l0 l1 HCA hj hcast hjc
      obtain ⟨p, v, k, s⟩ := x
      obtain ⟨p', v', k', s'⟩ := y
      simp only at q0 q1 q2 q3 q4 q5 q6 q7 hkp
      clear x0 x1 x2 x3 y0 y1 y2 y3
      rcases hkp with ⟨hk, hs, f1, f2, f3, f4, f5⟩ | ⟨hk, hs, f1, f2, f3, f4, f5⟩ | ⟨hk, f1⟩ | ⟨hk, f1, f2⟩ | ⟨hk, f1, f2, f3⟩
      · have HQ := hide ((unhide HNX) (fun _ => hs))
        clear hk hs HNX HCL
        go_wp2
        refine wp_region_quiet_grown (by assumption) (by kernel_rfl) (Wq.out ?_)
        iterate 26 (refine Wq.step (fun K hK => ?_); go_simp; first | (refine hK _ ?_; clear hK K) | (apply Exists.intro; refine ⟨fun _ => ?_, hK _ ?_⟩; (go_at_call 53; exact entry_grown); clear hK K))
        refine Wq.nil ?_
        intro _ hw'
        obtain ⟨⟨nq, osq⟩, hw⟩ := hw'
        subst hw
        have HB8 : Hid (Below w2.heap.size w2 (Sort.grow (wr.drewN nq) osq)) := hide (low_trans (unhide HLW) (low_grown nq osq))
        go_wp2
        go_roundw
        case rel => exact ⟨i + 1, Or.inl hlt, by simp [unhide HJE], unhide HQ, unhide HB8⟩
        case measure => simp [intOf]; omega
      · have HQ := hide ((unhide HCL) hk hs)
        clear hk hs HNX HCL
        go_wp2
        refine wp_region_quiet_grown (by assumption) (by kernel_rfl) (Wq.out ?_)
        iterate 26 (refine Wq.step (fun K hK => ?_); go_simp; first | (refine hK _ ?_; clear hK K) | (apply Exists.intro; refine ⟨fun _ => ?_, hK _ ?_⟩; (go_at_call 53; exact entry_grown); clear hK K))
        refine Wq.nil ?_
        intro _ hw'
        obtain ⟨⟨nq, osq⟩, hw⟩ := hw'
        subst hw
        have HB8 : Hid (Below w2.heap.size w2 (Sort.grow (wr.drewN nq) osq)) := hide (low_trans (unhide HLW) (low_grown nq osq))
        go_wp2
        go_ret2
        exact Or.inl ⟨(unhide HQ).mem (fun x hx => (unhide HMEM x).1 hx), rfl, low_trans (unhide HB2) (unhide HB8)⟩
      all_goals
        have HQ := hide ((unhide HNX) (fun h => absurd h hk))
        clear hk HNX HCL
        go_wp2
        refine wp_region_quiet_grown (by assumption) (by kernel_rfl) (Wq.out ?_)
        iterate 26 (refine Wq.step (fun K hK => ?_); go_simp; first | (refine hK _ ?_; clear hK K) | (apply Exists.intro; refine ⟨fun _ => ?_, hK _ ?_⟩; (go_at_call 53; exact entry_grown); clear hK K))
        refine Wq.nil ?_
        intro _ hw'
        obtain ⟨⟨nq, osq⟩, hw⟩ := hw'
        subst hw
        have HB8 : Hid (Below w2.heap.size w2 (Sort.grow (wr.drewN nq) osq)) := hide (low_trans (unhide HLW) (low_grown nq osq))
        go_wp2
        go_roundw
        case rel => exact ⟨i + 1, Or.inl hlt, by simp [unhide HJE], unhide HQ, unhide HB8⟩
        case measure => simp [intOf]; omega
    · have hcl := hide (calm_clash (l := zs) (unhide HR) (by
        intro t ht _ hk
        exact unhide HCA t ht (by rw [unhide HNN] at ht; omega) hk))
      have HON := hide (compact_once (unhide HR) (unhide hcl))
      have HCC := hide (unhide HCO wr (unhide HLW))
      go_wp2_with (go_at_call 70; fail)
      refine (unhide HCC).mono ?_
      rintro e w9 ⟨v9, rfl, l9, b9⟩
      have HD : Hid (MergeSaid w (xs ++ ys) (.returned (.tuple #[v9, .int .i64 0])) w9) := hide (Or.inr ⟨fun h => unhide hcl (h.mem fun x hx => (unhide HMEM x).2 hx), v9, compact zs, rfl, l9, ⟨(unhide HON).1, fun x => ((unhide HON).2 x).trans (unhide HMEM x)⟩, by rw [← (unhide HP).length_eq]; exact compact_le zs, b9⟩)
      clear l9 b9
      go_wp2
      go_ret2
      exact unhide HD

end Go.Proofs.YthcafeoamabkgaaGreatDoor
