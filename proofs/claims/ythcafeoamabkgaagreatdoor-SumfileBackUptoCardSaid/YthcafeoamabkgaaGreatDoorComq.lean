/-
  slices.Compact of lines.
-/
import Derived.Test.YthcafeoamabkgaaGreatDoorMergQ
import Derived.Test.YthcafeoamabkgaaGreatDoorCat
import Derived.Deep.QuietTactic
import Derived.BigQuiet
namespace Go.Proofs.YthcafeoamabkgaaGreatDoor

section
open Go.RowKit Go.Lib
/-- A block holds a row of lines. -/
structure RowL (w : World) (g cap : Nat) (d : List Ln) : Prop where
  blk : ∃ cur, w.heap[g]? = some (.cells cur 38 (0, 0)) ∧ cur.size = cap * 4
  els : ∀ k (hk : k < d.length), LnAt w g (k * 4) d[k]

theorem RowL.free {w : World} {g cap : Nat} {d : List Ln} (h : RowL w g cap d) (j : Nat) : w.frozen? ⟨g, j, none⟩ = false := by
  obtain ⟨cur, hb, _⟩ := h.blk
  exact Lib.frozen_of_heap hb _

theorem RowL.isCell {w : World} {g cap : Nat} {d : List Ln} (h : RowL w g cap d) {j : Nat} (hj : j < cap * 4) : (w.cell? ⟨g, j, none⟩).isSome = true := by
  obtain ⟨cur, hb, hs⟩ := h.blk
  rw [Lib.cell_of_heap hb]
  have : j < cur.size := by omega
  simp [this]

theorem RowL.same {w w' : World} {g cap : Nat} {d : List Ln} (h : RowL w g cap d) (e : w'.heap = w.heap) : RowL w' g cap d := by
  obtain ⟨cur, hb, hs⟩ := h.blk
  refine ⟨⟨cur, by rw [e]; exact hb, hs⟩, fun k hk => ?_⟩
  have c : ∀ p, w'.cell? p = w.cell? p := fun p => by unfold World.cell?; rw [e]
  obtain ⟨h1, h2, h3, h4⟩ := h.els k hk
  exact ⟨(c _).trans h1, (c _).trans h2, (c _).trans h3, (c _).trans h4⟩

theorem rowL_of {B : Nat} {w : World} {g n cap : Nat} {d : List Ln} (h : Lines B w (.slice (some ⟨g, 0, none⟩) n cap) d) : RowL w g cap d ∧ n = d.length ∧ B ≤ g ∧ n ≤ cap ∧ cap ≤ maxLen := by
  rcases h.2 with ⟨h1, _⟩ | ⟨g', cap', cur, h1, hb, hblk, hcap, hcm, hcs, hcur⟩
  · cases h1
  · cases h1
    refine ⟨⟨⟨cur, hblk, hcs⟩, fun k hk => ?_⟩, rfl, hb, hcap, hcm⟩
    have at' : ∀ j, j < d.length * 4 → w.cell? ⟨g, j, none⟩ = (lnsV d)[j]? := by
      intro j hj
      have h1 : cur.toList[j]? = (lnsV d)[j]? := by rw [← hcur, List.getElem?_take_of_lt hj]
      have h2 : cur[j]? = cur.toList[j]? := by simp
      rw [Lib.cell_of_heap hblk, h2, h1]
    obtain ⟨a1, a2, a3, a4⟩ := lnL_at hk
    exact ⟨by rw [at' _ (by omega), a1], by rw [at' _ (by omega), a2], by rw [at' _ (by omega), a3], by rw [at' _ (by omega), a4]⟩

theorem RowL.lines {B : Nat} {w : World} {g cap : Nat} {d : List Ln} (h : RowL w g cap d) (hB : B ≤ g) (hc : d.length ≤ cap) (hm : cap ≤ maxLen) : Lines B w (.slice (some ⟨g, 0, none⟩) d.length cap) d := by
  obtain ⟨cur, hblk, hcs⟩ := h.blk
  refine ⟨lnsV_length _, Or.inr ⟨g, cap, cur, rfl, hB, hblk, hc, hm, hcs, ?_⟩⟩
  apply List.ext_getElem?
  intro j
  by_cases hj : j < d.length * 4
  · rw [List.getElem?_take_of_lt hj]
    have h2 : w.cell? ⟨g, j, none⟩ = cur.toList[j]? := by rw [Lib.cell_of_heap hblk]; simp
    rw [← h2]
    have hk : j / 4 < d.length := by omega
    obtain ⟨h1, h2, h3, h4⟩ := h.els (j / 4) hk
    obtain ⟨g1, g2, g3, g4⟩ := lnL_at hk
    have hr : j % 4 = 0 ∨ j % 4 = 1 ∨ j % 4 = 2 ∨ j % 4 = 3 := by omega
    rcases hr with hr | hr | hr | hr
    · have e : j / 4 * 4 = j := by omega
      rw [e] at h1 g1
      rw [g1, h1]
    · have e : j / 4 * 4 + 1 = j := by omega
      rw [e] at h2 g2
      rw [g2, h2]
    · have e : j / 4 * 4 + 2 = j := by omega
      rw [e] at h3 g3
      rw [g3, h3]
    · have e : j / 4 * 4 + 3 = j := by omega
      rw [e] at h4 g4
      rw [g4, h4]
  · rw [List.getElem?_eq_none (by rw [List.length_take]; omega), List.getElem?_eq_none (by rw [lnsV_length]; omega)]

theorem RowL.take {w : World} {g cap : Nat} {d : List Ln} (h : RowL w g cap d) (m : Nat) : RowL w g cap (d.take m) := by
  refine ⟨h.blk, fun k hk => ?_⟩
  rw [List.length_take] at hk
  rw [List.getElem_take]
  exact h.els k (by omega)

theorem blk_set {w : World} {g cap : Nat} (h : ∃ cur, w.heap[g]? = some (.cells cur 38 (0, 0)) ∧ cur.size = cap * 4) (o : Nat) (v : Value) : ∃ cur, (w.setCell ⟨g, o, none⟩ v).heap[g]? = some (.cells cur 38 (0, 0)) ∧ cur.size = cap * 4 := by
  obtain ⟨cur, hb, hs⟩ := h
  exact ⟨_, heap_setCell_at hb v, by simpa using hs⟩

theorem RowL.put {w : World} {g cap : Nat} {d : List Ln} (h : RowL w g cap d) {i : Nat} (hi : i < d.length) (x : Ln) :
    RowL ((((w.setCell ⟨g, i * 4, none⟩ (.string (ba x.p))).setCell ⟨g, i * 4 + 1, none⟩ (.string (ba x.v))).setCell ⟨g, i * 4 + 2, none⟩ (.int .i64 x.k)).setCell ⟨g, i * 4 + 3, none⟩ (.string (ba x.s))) g cap (d.set i x) := by
  refine ⟨blk_set (blk_set (blk_set (blk_set h.blk _ _) _ _) _ _) _ _, fun k hk => ?_⟩
  have hk' : k < d.length := by simpa using hk
  have o1 : ∀ (u : World) (v : Value) (m m' : Nat), m ≠ m' → (u.setCell ⟨g, m, none⟩ v).cell? ⟨g, m', none⟩ = u.cell? ⟨g, m', none⟩ := fun u v m m' hne =>
    World.cell?_setCell_other (w := u) (a := ⟨g, m, none⟩) (b := ⟨g, m', none⟩) (h := by intro hh; exact hne (congrArg Addr.off hh)) v
  by_cases e : i = k
  · subst e
    obtain ⟨h1, h2, h3, h4⟩ := h.els i hi
    rw [List.getElem_set_self]
    refine ⟨?_, ?_, ?_, ?_⟩
    · rw [o1 _ _ _ _ (by omega), o1 _ _ _ _ (by omega), o1 _ _ _ _ (by omega)]
      exact World.cell?_setCell_same' _ _ _ (by rw [h1]; rfl)
    · rw [o1 _ _ _ _ (by omega), o1 _ _ _ _ (by omega)]
      exact World.cell?_setCell_same' _ _ _ (by rw [o1 _ _ _ _ (by omega), h2]; rfl)
    · rw [o1 _ _ _ _ (by omega)]
      exact World.cell?_setCell_same' _ _ _ (by rw [o1 _ _ _ _ (by omega), o1 _ _ _ _ (by omega), h3]; rfl)
    · exact World.cell?_setCell_same' _ _ _ (by rw [o1 _ _ _ _ (by omega), o1 _ _ _ _ (by omega), o1 _ _ _ _ (by omega), h4]; rfl)
  · obtain ⟨h1, h2, h3, h4⟩ := h.els k hk'
    rw [List.getElem_set_ne e]
    refine ⟨?_, ?_, ?_, ?_⟩
    · rw [o1 _ _ _ _ (by omega), o1 _ _ _ _ (by omega), o1 _ _ _ _ (by omega), o1 _ _ _ _ (by omega)]; exact h1
    · rw [o1 _ _ _ _ (by omega), o1 _ _ _ _ (by omega), o1 _ _ _ _ (by omega), o1 _ _ _ _ (by omega)]; exact h2
    · rw [o1 _ _ _ _ (by omega), o1 _ _ _ _ (by omega), o1 _ _ _ _ (by omega), o1 _ _ _ _ (by omega)]; exact h3
    · rw [o1 _ _ _ _ (by omega), o1 _ _ _ _ (by omega), o1 _ _ _ _ (by omega), o1 _ _ _ _ (by omega)]; exact h4

theorem low_setCells {B g : Nat} (hg : B ≤ g) : ∀ (vs : List Value) (o : Nat) {w0 w : World}, Below B w0 w → Below B w0 (w.setCells g o vs)
  | [], _, _, _, h => h
  | v :: r, o, _, _, h => low_setCells hg r (o + 1) (h.setCell (p := ⟨g, o, none⟩) hg v)

theorem blk_setCells {g cap : Nat} : ∀ (vs : List Value) (o : Nat) {w : World}, (∃ cur, w.heap[g]? = some (.cells cur 38 (0, 0)) ∧ cur.size = cap * 4) → ∃ cur, (w.setCells g o vs).heap[g]? = some (.cells cur 38 (0, 0)) ∧ cur.size = cap * 4
  | [], _, _, h => h
  | v :: r, o, _, h => blk_setCells r (o + 1) (blk_set h o v)

/-- The front of a row stays where what is behind is written. -/
theorem RowL.behind {w : World} {g cap : Nat} {d : List Ln} (h : RowL w g cap d) {o : Nat} (ho : d.length * 4 ≤ o) (vs : List Value) : RowL (w.setCells g o vs) g cap d := by
  refine ⟨blk_setCells vs o h.blk, fun k hk => ?_⟩
  have c : ∀ j, j < d.length * 4 → (w.setCells g o vs).cell? ⟨g, j, none⟩ = w.cell? ⟨g, j, none⟩ := fun j hj => World.cell?_setCells_out g vs _ w _ (fun _ _ => Or.inl (by show j < o; omega))
  obtain ⟨h1, h2, h3, h4⟩ := h.els k hk
  exact ⟨(c _ (by omega)).trans h1, (c _ (by omega)).trans h2, (c _ (by omega)).trans h3, (c _ (by omega)).trans h4⟩

abbrev zero4 : Array Value := #[.string ⟨#[]⟩, .string ⟨#[]⟩, .int .i64 0, .string ⟨#[]⟩]

theorem clear_four (w : World) (ty : TypeId) (b o n c : Nat) (hn : 0 < n) (hc : ∀ j, j < n * 4 → (w.cell? ⟨b, o + j, none⟩).isSome = true) (hf : ∀ j, j < n * 4 → w.frozen? ⟨b, o + j, none⟩ = false) :
    (Builtin.clear_ #[22] ty #[.slice (some ⟨b, o, none⟩) n c]).run Tryz.prog w = .ok (.tuple #[]) (w.setCells b o (Builtin.zeroCells zero4 n).toList) := by
  cases n with
  | zero => omega
  | succ m =>
    have hlen : (Builtin.zeroCells zero4 (m + 1)).toList.length = (m + 1) * 4 := by simp [Builtin.zeroCells]
    have hst := run_storeCells_cells (P := Tryz.prog) b o (Builtin.zeroCells zero4 (m + 1)).toList 0 w (by rw [hlen]; simpa using hc) (by rw [hlen]; simpa using hf) (by
      intro v hv
      simp [Builtin.zeroCells] at hv
      obtain ⟨k, _, rfl⟩ := hv
      have hr : k % 4 = 0 ∨ k % 4 = 1 ∨ k % 4 = 2 ∨ k % 4 = 3 := by omega
      rcases hr with e | e | e | e <;> simp [e, Value.oneCell'])
    simp only [Nat.add_zero] at hst
    simp [Builtin.clear_, run_underlying Tryz.underlying22, Value.cells, hst]

theorem toArray_at {d : Array Ln} {i : Nat} (h : i < d.toList.length) : d.toList[i] = d[i]! := by
  have : i < d.size := by simpa using h
  simp [this]

/-- Two lines: the same, or where they part first. -/
theorem ln_part (x y : Ln) : x = y ∨ ((ba x.p).toList == (ba y.p).toList) = false ∨ (((ba x.p).toList == (ba y.p).toList) = true ∧ ((ba x.v).toList == (ba y.v).toList) = false) ∨ (((ba x.p).toList == (ba y.p).toList) = true ∧ ((ba x.v).toList == (ba y.v).toList) = true ∧ (x.k == y.k) = false) ∨ (((ba x.p).toList == (ba y.p).toList) = true ∧ ((ba x.v).toList == (ba y.v).toList) = true ∧ (x.k == y.k) = true ∧ ((ba x.s).toList == (ba y.s).toList) = false) := by
  obtain ⟨p, v, k, s⟩ := x
  obtain ⟨p', v', k', s'⟩ := y
  simp only [ba_list, Ln.mk.injEq]
  by_cases h1 : p = p'
  · by_cases h2 : v = v'
    · by_cases h3 : k = k'
      · by_cases h4 : s = s'
        · exact Or.inl ⟨h1, h2, h3, h4⟩
        · exact Or.inr (Or.inr (Or.inr (Or.inr ⟨by simp [h1], by simp [h2], by simp [h3], by simpa using h4⟩)))
      · exact Or.inr (Or.inr (Or.inr (Or.inl ⟨by simp [h1], by simp [h2], by simpa using h3⟩)))
    · exact Or.inr (Or.inr (Or.inl ⟨by simp [h1], by simpa using h2⟩))
  · exact Or.inr (Or.inl (by simpa using h1))
end

section
open Go.RowKit Go.Lib
theorem comp_take {d dk : Array Ln} {m k : Nat} (h : CompInv d m k dk) (hk : k ≤ dk.size) : compactUpTo d m = dk.toList.take k := by
  apply List.ext_getElem?
  intro j
  by_cases hj : j < k
  · rw [h.low j hj, List.getElem?_take_of_lt hj]
    have : j < dk.size := by omega
    simp [this]
  · rw [List.getElem?_eq_none (by rw [h.len]; omega), List.getElem?_eq_none (by rw [List.length_take]; omega)]

set_option maxRecDepth 100000 in
set_option maxHeartbeats 8000000 in
theorem compact_any {B : Nat} {w : World} {v : Value} {ys : List Ln} (h : Lines B w v ys) (hn : ys.length ≤ 1000000) :
    Calls Tryz.prog 70 #[v] w fun e w' => ∃ v', e = .returned v' ∧ Lines B w' v' (compact ys) ∧ Below B w w' := by
  by_cases h2 : ys.length < 2
  · have hall : compact ys = ys := compact_all ys (fun j hj => by
      rcases Nat.eq_zero_or_pos j with e | e
      · exact keeps_lt_one _ j (by omega)
      · have : j = 1 ∨ j = 0 := by omega
        omega)
    rw [hall]
    obtain ⟨n, hyn⟩ : ∃ n, ys.length = n := ⟨_, rfl⟩
    obtain ⟨a, c, hv, _, _⟩ := Lines.at h
    rw [hyn] at hv h2
    subst hv
    have H := hide h
    clear h hall
    go_enter Tryz.func70, Tryz.ntmps70
    go_wp2
    go_ret
    exact ⟨_, rfl, unhide H, Below.refl _ _⟩
  · obtain ⟨n, hyn⟩ : ∃ n, ys.length = n := ⟨_, rfl⟩
    obtain ⟨g, cap, rfl, _, _⟩ := World.ownsRow.form h (by omega)
    obtain ⟨hR, _, hBg, hcap, hcm⟩ := rowL_of h
    rw [hyn] at h2 hn hcap ⊢
    have hc63 : cap ≤ 9223372036854775807 := by unfold maxLen at hcm; omega
    have HR := hide hR
    have HY := hide hyn
    have HB := hide hBg
    have HCM := hide hcm
    have HFIN : Hid (∀ wq : World, ∀ d : List Ln, RowL wq g cap d → d.length ≤ cap → Below B w wq → Lines B wq (.slice (some ⟨g, 0, none⟩) d.length cap) d ∧ Below B w wq) := hide (fun wq d h1 h2 h3 => ⟨h1.lines hBg h2 hcm, h3⟩)
    clear h hR hyn hBg hcm
    go_enter Tryz.func70, Tryz.ntmps70
    go_wp2
    go_loopw [3] (fun v3 wr => ∃ i q : Nat, i + 1 ≤ n ∧ v3 = .int .i64 ((i + 1 : Nat) : Int) ∧ wr = w.drewN q ∧ ∀ j, j < i + 1 → keeps ys.toArray j = true) (fun v3 _ => n - (intOf v3).toNat)
    case atStart => exact ⟨0, 0, by omega, rfl, rfl, keeps_lt_one _⟩
    case round =>
      rename World => wr
      obtain ⟨i, q, hi, rfl, hwr, hall⟩ := hrel
      have HW := hide hwr
      have HALL := hide hall
      have HRr : Hid (RowL wr g cap ys) := hide (by rw [hwr]; exact (unhide HR).same rfl)
      clear hall hwr
      by_cases hlt : i + 1 < n
      · have l1 : i + 1 < ys.length := by rw [unhide HY]; exact hlt
        have l0 : i < ys.length := by omega
        obtain ⟨m1, m2, m3, m4⟩ := (unhide HRr).els (i + 1) l1
        obtain ⟨p1, p2, p3, p4⟩ := (unhide HRr).els i l0
        obtain ⟨x, hx⟩ : ∃ x, ys[i + 1] = x := ⟨_, rfl⟩
        obtain ⟨y, hy⟩ : ∃ y, ys[i] = y := ⟨_, rfl⟩
        rw [hx] at m1 m2 m3 m4
        rw [hy] at p1 p2 p3 p4
        have hparts := ln_part x y
        have HK : Hid (¬ x = y → ∀ j, j < (i + 1) + 1 → keeps ys.toArray j = true) := hide (fun hne j hj => by
          rcases Nat.lt_or_ge j (i + 1) with h | h
          · exact unhide HALL j h
          · have : j = i + 1 := by omega
            subst this
            exact keeps_pos (by rw [bang l1, Nat.add_sub_cancel, bang l0, hx, hy]; exact hne))
        have HD : Hid (x = y → keeps ys.toArray (i + 1) = false) := hide (fun he => keeps_neg (by omega) (by rw [bang l1, Nat.add_sub_cancel, bang l0, hx, hy]; exact he))
        clear hx hy l0 l1
        obtain ⟨p, v, k, s⟩ := x
        obtain ⟨p', v', k', s'⟩ := y
        simp only at m1 m2 m3 m4 p1 p2 p3 p4 hparts
        by_cases hxy : (⟨p, v, k, s⟩ : Ln) = ⟨p', v', k', s'⟩
        · have HD' := hide (unhide HD hxy)
          simp only [Ln.mk.injEq] at hxy
          obtain ⟨rfl, rfl, rfl, rfl⟩ := hxy
          clear hparts HK HD
          go_wp2
          go_quiet (fail)
          have HS : Hid (CompInv ys.toArray ((i + 1) + 1) (i + 1) ys.toArray) := hide (CompInv.start (unhide HALL) (unhide HD'))
          clear m1 m2 m3 m4 p1 p2 p3 p4
          have hne : ¬ cap = i + 1 := by omega
          have hRq : Hid (∀ q2, RowL (wr.drewN q2) g cap ys.toArray.toList) := hide (fun q2 => (unhide HRr).same rfl)
          have hBq : Hid (∀ q2, Below B w (wr.drewN q2)) := hide (fun q2 => by rw [unhide HW]; exact low_drewN (low_drewN (Below.refl _ _) q) q2)
          go_wp2
          go_loopw [3, 5] (fun v3 v5 wq => ∃ (kk k2 : Nat) (dk : Array Ln), v3 = .int .i64 kk ∧ v5 = .int .i64 ((k2 + 1 : Nat) : Int) ∧ (i + 1) + (k2 + 1) ≤ n ∧ RowL wq g cap dk.toList ∧ Below B w wq ∧ CompInv ys.toArray ((i + 1) + (k2 + 1)) kk dk) (fun _ v5 _ => n - (intOf v5).toNat)
          case atStart => exact ⟨i + 1, 0, ys.toArray, by simp, rfl, by omega, unhide hRq _, unhide hBq _, unhide HS⟩
          case round =>
            rename World => wq
            clear hRq hBq HRr HS
            obtain ⟨kk, k2, dk, rfl, rfl, hle, hrow, hlow, hI⟩ := hrel
            have hds : dk.size = n := by rw [hI.size]; simpa using unhide HY
            have hkk : kk < (i + 1) + (k2 + 1) := hI.lt
            have HI := hide hI
            have HLO := hide hlow
            have HRQ := hide hrow
            by_cases hlt2 : (i + 1) + (k2 + 1) < n
            · have j1 : (i + 1) + (k2 + 1) < dk.toList.length := by simp; omega
              have j0 : (i + 1) + k2 < dk.toList.length := by simp; omega
              have j2 : kk < dk.toList.length := by simp; omega
              obtain ⟨m1, m2, m3, m4⟩ := hrow.els _ j1
              obtain ⟨p1, p2, p3, p4⟩ := hrow.els _ j0
              obtain ⟨o1, o2, o3, o4⟩ := hrow.els _ j2
              have y1 : (i + 1) + (k2 + 1) < ys.length := by rw [unhide HY]; exact hlt2
              have y0 : (i + 1) + k2 < ys.length := by omega
              have ex : dk.toList[(i + 1) + (k2 + 1)] = ys[(i + 1) + (k2 + 1)] := by rw [toArray_at, hI.high _ (by omega), bang y1]
              have ey : dk.toList[(i + 1) + k2] = ys[(i + 1) + k2] := by rw [toArray_at, hI.high _ (by omega), bang y0]
              have e1 : ((i + 1) + (k2 + 1)) * 4 = (i + 1) * 4 + (k2 + 1) * 4 := by omega
              have e0 : ((i + 1) + k2) * 4 = (i + 1) * 4 + k2 * 4 := by omega
              obtain ⟨x, hx⟩ : ∃ x, ys[(i + 1) + (k2 + 1)] = x := ⟨_, rfl⟩
              obtain ⟨y, hy⟩ : ∃ y, ys[(i + 1) + k2] = y := ⟨_, rfl⟩
              rw [ex, hx, e1] at m1 m2 m3 m4
              rw [ey, hy, e0] at p1 p2 p3 p4
              have g1 := hrow.free (kk * 4)
              have g2 := hrow.free (kk * 4 + 1)
              have g3 := hrow.free (kk * 4 + 2)
              have g4 := hrow.free (kk * 4 + 3)
              obtain ⟨z, hz⟩ : ∃ z, dk.toList[kk] = z := ⟨_, rfl⟩
              rw [hz] at o1 o2 o3 o4
              have hparts := ln_part x y
              have bx : ys.toArray[(i + 1) + (k2 + 1)]! = x := by rw [bang y1, hx]
              have byy : ys.toArray[(i + 1) + (k2 + 1) - 1]! = y := by rw [show (i + 1) + (k2 + 1) - 1 = (i + 1) + k2 by omega, bang y0, hy]
              have HKP : Hid (¬ x = y → CompInv ys.toArray ((i + 1) + (k2 + 1 + 1)) (kk + 1) (dk.setIfInBounds kk x)) := hide (fun hne => by
                have := hI.keep (by simp; omega) (keeps_pos (by rw [bx, byy]; exact hne))
                rw [bx] at this
                exact this)
              have HSK : Hid (x = y → CompInv ys.toArray ((i + 1) + (k2 + 1 + 1)) kk dk) := hide (fun he => hI.skip (keeps_neg (by omega) (by rw [bx, byy]; exact he)))
              have HJ2 := hide j2
              clear hx hy hz ex ey e1 e0 bx byy y1 y0 j0 j1 j2 hrow hlow hI
              obtain ⟨p, v, k, s⟩ := x
              obtain ⟨p', v', k', s'⟩ := y
              simp only at m1 m2 m3 m4 p1 p2 p3 p4 hparts
              by_cases hxy : (⟨p, v, k, s⟩ : Ln) = ⟨p', v', k', s'⟩
              · have HK2 := hide (unhide HSK hxy)
                simp only [Ln.mk.injEq] at hxy
                obtain ⟨rfl, rfl, rfl, rfl⟩ := hxy
                clear hparts HKP HSK o1 o2 o3 o4 g1 g2 g3 g4
                go_wp2
                go_quiet (fail)
                go_wp2
                go_roundw
                case rel => exact ⟨kk, k2 + 1, dk, rfl, by simp, by omega, (unhide HRQ).same rfl, low_drewN (unhide HLO) _, unhide HK2⟩
                case measure => simp [intOf]; omega
              · have HK2 := hide (unhide HKP hxy)
                rcases hparts with e | e | ⟨e, e2⟩ | ⟨e, e2, e3⟩ | ⟨e, e2, e3, e4⟩
                · exact absurd e hxy
                all_goals
                  clear hxy HKP HSK
                  go_wp2
                  go_quiet (fail)
                  go_wp2
                  go_roundw
                  case rel => exact ⟨kk + 1, k2 + 1, dk.setIfInBounds kk ⟨p, v, k, s⟩, by simp, by simp, by omega, by rw [Array.toList_setIfInBounds]; exact RowL.put (w := wq.drewN nq) (x := ⟨p, v, k, s⟩) ((unhide HRQ).same rfl) (unhide HJ2), ((((low_drewN (unhide HLO) _).setCell (p := ⟨g, _, none⟩) (unhide HB) _).setCell (p := ⟨g, _, none⟩) (unhide HB) _).setCell (p := ⟨g, _, none⟩) (unhide HB) _).setCell (p := ⟨g, _, none⟩) (unhide HB) _, unhide HK2⟩
                  case measure => simp [intOf]; omega
            · have hend : (i + 1) + (k2 + 1) = n := by omega
              obtain ⟨W2, hW2⟩ : ∃ W2, wq.setCells g (kk * 4) (Builtin.zeroCells zero4 (n - kk)).toList = W2 := ⟨_, rfl⟩
              have hcl : ∀ ty, (Builtin.clear_ #[22] ty #[.slice (some ⟨g, kk * 4, none⟩) (n - kk) (cap - kk)]).run Tryz.prog wq = .ok (.tuple #[]) W2 := fun ty => by
                rw [← hW2]
                exact clear_four wq ty g (kk * 4) (n - kk) _ (by omega) (fun j hj => hrow.isCell (by omega)) (fun j _ => hrow.free _)
              have hct : compact ys = dk.toList.take kk := by
                have := comp_take hI (by omega)
                rw [hend, ← unhide HY] at this
                exact this
              have htl : (dk.toList.take kk).length = kk := by rw [List.length_take]; simp; omega
              have HD := hide ((unhide HFIN) W2 (dk.toList.take kk) (by rw [← hW2]; exact (hrow.take kk).behind (by rw [htl]; exact Nat.le_refl _) _) (by rw [htl]; omega) (by rw [← hW2]; exact low_setCells (unhide HB) _ _ hlow))
              rw [htl, ← hct] at HD
              have hkc : ¬ cap = kk := by omega
              have hknn : kk ≤ n := by omega
              have hexit : ¬ (k2 : Int) + 1 < ((n - (i + 1) : Nat) : Int) := by omega
              clear hct htl hrow hlow hI hW2 hend hlt2
              go_wp2
              go_ret
              exact ⟨_, rfl, (unhide HD).1, (unhide HD).2⟩
        · have HK' := hide (unhide HK hxy)
          rcases hparts with e | e | ⟨e, e2⟩ | ⟨e, e2, e3⟩ | ⟨e, e2, e3, e4⟩
          · exact absurd e hxy
          all_goals
            clear hxy HK HD
            go_wp2
            go_quiet (fail)
            go_wp2
            go_roundw
            case rel => exact ⟨i + 1, q + nq, hlt, by simp, by rw [unhide HW, World.drewN_drewN], unhide HK'⟩
            case measure => simp [intOf]; omega
      · have hin : i + 1 = n := by omega
        have hall : compact ys = ys := compact_all ys (by rw [unhide HY, ← hin]; exact unhide HALL)
        have HD := hide ((unhide HFIN) wr ys (unhide HRr) (by rw [unhide HY]; exact hcap) (by rw [unhide HW]; exact low_drewN (Below.refl _ _) q))
        rw [unhide HY] at HD
        have HAL := hide hall
        clear hall
        subst hin
        go_wp2
        go_ret
        exact ⟨_, rfl, by rw [unhide HAL]; exact (unhide HD).1, (unhide HD).2⟩
end

end Go.Proofs.YthcafeoamabkgaaGreatDoor
