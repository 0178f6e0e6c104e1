/-
  slices.Grow of nothing and slices.Concat of two lists of lines.
-/
import Derived.Test.YthcafeoamabkgaaGreatDoorSortX
import Derived.Deep.QuietTactic
import Derived.Lib.AppendZeros
import Derived.Deep.AppendLies
import Derived.Laws.OwnMore
namespace Go.Proofs.YthcafeoamabkgaaGreatDoor
open Go.RowKit

/-- The cells of a line. -/
abbrev LnAt (w : World) (B o : Nat) (x : Ln) : Prop := w.cell? ⟨B, o, none⟩ = some (.string (ba x.p)) ∧ w.cell? ⟨B, o + 1, none⟩ = some (.string (ba x.v)) ∧ w.cell? ⟨B, o + 2, none⟩ = some (.int .i64 x.k) ∧ w.cell? ⟨B, o + 3, none⟩ = some (.string (ba x.s))

/-- A list of lines lies at a slice. -/
structure LRow (w : World) (a : Option Addr) (xs : List Ln) : Prop where
  els : xs = [] ∨ ∃ B O, a = some ⟨B, O, none⟩ ∧ ∀ k (hk : k < xs.length), LnAt w B (O + k * 4) xs[k]

theorem LRow.low {w w' : World} {a : Option Addr} {xs : List Ln} (h : LRow w a xs) (hb : Below w.heap.size w w') : LRow w' a xs := by
  rcases h.els with h0 | ⟨B, O, ha, he⟩
  · exact ⟨Or.inl h0⟩
  · refine ⟨Or.inr ⟨B, O, ha, fun k hk => ?_⟩⟩
    obtain ⟨h1, h2, h3, h4⟩ := he k hk
    exact ⟨(hb.cell (lt_of_cell h1)).trans h1, (hb.cell (lt_of_cell h2)).trans h2, (hb.cell (lt_of_cell h3)).trans h3, (hb.cell (lt_of_cell h4)).trans h4⟩

theorem lnL_at {xs : List Ln} {k : Nat} (hk : k < xs.length) : (lnsV xs)[k * 4]? = some (.string (ba xs[k].p)) ∧ (lnsV xs)[k * 4 + 1]? = some (.string (ba xs[k].v)) ∧ (lnsV xs)[k * 4 + 2]? = some (.int .i64 xs[k].k) ∧ (lnsV xs)[k * 4 + 3]? = some (.string (ba xs[k].s)) := by
  have e : ∀ r, r < 4 → (lnsV xs)[k * 4 + r]? = some ((lnL xs[k])[r]!) := by
    intro r hr
    rw [lnsV_get xs (k * 4 + r) (by omega)]
    have e1 : (k * 4 + r) / 4 = k := by omega
    have e2 : (k * 4 + r) % 4 = r := by omega
    rw [e1, e2]
    simp [hk]
  exact ⟨e 0 (by omega), e 1 (by omega), e 2 (by omega), e 3 (by omega)⟩

/-- A row of lines that is owned. -/
theorem Lines.at {B : Nat} {w : World} {v : Value} {xs : List Ln} (h : Lines B w v xs) : ∃ a c, v = .slice a xs.length c ∧ LRow w a xs ∧ xs.length ≤ c := by
  rcases h.2 with ⟨rfl, h0⟩ | ⟨g, cap, cur, rfl, hb, hblk, hcap, hcm, hcs, hcur⟩
  · exact ⟨none, 0, by rw [h0], ⟨Or.inl (List.length_eq_zero_iff.1 h0)⟩, by omega⟩
  · refine ⟨_, cap, rfl, ⟨Or.inr ⟨g, 0, rfl, fun k hk => ?_⟩⟩, hcap⟩
    have at' : ∀ j, j < xs.length * 4 → w.cell? ⟨g, j, none⟩ = (lnsV xs)[j]? := by
      intro j hj
      have h1 : cur.toList[j]? = (lnsV xs)[j]? := by rw [← hcur, List.getElem?_take_of_lt hj]
      have h2 : cur[j]? = cur.toList[j]? := by simp
      rw [Lib.cell_of_heap hblk, h2, h1]
    obtain ⟨a1, a2, a3, a4⟩ := lnL_at hk
    rw [Nat.zero_add]
    exact ⟨by rw [at' _ (by omega), a1], by rw [at' _ (by omega), a2], by rw [at' _ (by omega), a3], by rw [at' _ (by omega), a4]⟩

/-- What few answers. -/
def FewSaid (n : Nat) (e : Ending) : Prop := ∃ r, e = .returned (.bool r) ∧ (r = true → n ≤ 100)

set_option maxRecDepth 100000 in
set_option maxHeartbeats 2000000 in
theorem fewL_any {w : World} {a : Option Addr} {n c : Nat} {xs : List Ln} (hn : xs.length = n) (h : LRow w a xs) :
    Calls Tryz.prog 12 #[.slice a n c] w fun e w' => FewSaid n e ∧ ∃ q, w' = w.drewN q := by
  have HN := hide hn
  have H := hide h
  clear hn h
  go_enter Tryz.func12, Tryz.ntmps12
  go_wp2
  go_loopw [3, 4] (fun s i wr => ∃ (k nr : Nat) (m : Int), k ≤ n ∧ k ≤ 101 ∧ i = .int .i64 k ∧ s = .int .i64 m ∧ 0 ≤ m ∧ m ≤ 16000 ∧ wr = w.drewN nr) (fun _ i _ => n - (intOf i).toNat)
  case atStart => exact ⟨0, 0, 0, Nat.zero_le _, Nat.zero_le _, rfl, rfl, by omega, by omega, rfl⟩
  case round =>
    obtain ⟨k, nr, m, hk, hk3, rfl, rfl, hm0, hm1, hwr⟩ := hrel
    have HWR := hide hwr
    by_cases hlt : k < n
    · by_cases hlt3 : k ≤ 100
      · have hkt : k < xs.length := by rw [unhide HN]; exact hlt
        obtain ⟨B, O, rfl, he⟩ : ∃ B O, a = some ⟨B, O, none⟩ ∧ ∀ k (hk : k < xs.length), LnAt w B (O + k * 4) xs[k] := by
          rcases (unhide H).els with h | h
          · rw [h] at hkt; simp at hkt
          · exact h
        obtain ⟨x, hx⟩ : ∃ x, xs[k] = x := ⟨_, rfl⟩
        have ha := he k hkt
        rw [hx] at ha
        have m1 : wr.cell? ⟨B, O + k * 4, none⟩ = some (.string (ba x.p)) := by rw [hwr]; exact ha.1
        have m2 : wr.cell? ⟨B, O + k * 4 + 1, none⟩ = some (.string (ba x.v)) := by rw [hwr]; exact ha.2.1
        have m3 : wr.cell? ⟨B, O + k * 4 + 3, none⟩ = some (.string (ba x.s)) := by rw [hwr]; exact ha.2.2.2
        have hlt3' : (k : Int) ≤ 100 := by omega
        clear ha he hx hwr
        go_wp2
        go_quiet (fail)
        go_wp2
        go_roundw
        case rel => exact ⟨k + 1, nr + nq, _, by omega, by omega, by go_num, rfl, by omega, by omega, by rw [unhide HWR, World.drewN_drewN]⟩
        case measure => simp [intOf]; omega
      · have hk' : k = 101 := by omega
        subst hk'
        clear hwr
        have hn3 : ¬ (n : Int) ≤ 100 := by omega
        go_wp2
        go_ret
        exact ⟨⟨false, rfl, fun h => by cases h⟩, nr, unhide HWR⟩
    · have hkn : k = n := by omega
      subst hkn
      clear hwr
      by_cases h100 : k ≤ 100
      · have h100' : (k : Int) ≤ 100 := by omega
        go_wp2
        all_goals
          go_ret
          exact ⟨⟨_, rfl, fun _ => h100⟩, nr, unhide HWR⟩
      · have h100' : ¬ (k : Int) ≤ 100 := by omega
        go_wp2
        all_goals
          go_ret
          exact ⟨⟨false, rfl, fun h => by cases h⟩, nr, unhide HWR⟩

end Go.Proofs.YthcafeoamabkgaaGreatDoor

namespace Go.Proofs.YthcafeoamabkgaaGreatDoor
open Go.RowKit

set_option maxRecDepth 100000 in
set_option maxHeartbeats 1000000 in
theorem grow_any {n : Nat} (hn : n ≤ 1000000) (w : World) :
    Calls Tryz.prog 114 #[.slice none 0 0, .int .i64 n] w fun e w' => ∃ v, e = .returned v ∧ Lines w.heap.size w' v [] ∧ Below w.heap.size w w' := by
  obtain ⟨i0, hi, hz0, hz1, hz2⟩ := info_parts info38
  by_cases h0 : n = 0
  · subst h0
    go_enter Tryz.func114, Tryz.ntmps114
    go_wp2
    go_ret
    exact ⟨_, rfl, World.ownsRow_nil _ _ _ _, Below.refl _ _⟩
  · have hpos : 0 < n := by omega
    have hrz := fun ty => Lib.run_append_nil_zeros w 22 3 ty 38 i0 _ .i64 .i64 Tryz.underlying22 Tryz.underlying3 hi hz0 n hpos (by rw [hz1]; decide) (by omega) (by rw [hz2]; omega)
    have hGn := grownCap_ge w n 0 38
    have hGm := grownCap_le_maxLen w n 0 38 (by unfold maxLen; omega)
    obtain ⟨G, hG⟩ : ∃ G, grownCap w n 0 38 = G := ⟨_, rfl⟩
    rw [hG] at hGn hGm
    simp only [hG] at hrz
    have hG63 : G ≤ 9223372036854775807 := by unfold maxLen at hGm; omega
    obtain ⟨W, hW⟩ : ∃ W, w.drew.alloc (.cells (Builtin.zeroCells (Value.cells (.agg #[.string ⟨#[]⟩, .string ⟨#[]⟩, .int .i64 0, .string ⟨#[]⟩])) n ++ Builtin.zeroCells (Value.cells (.agg #[.string ⟨#[]⟩, .string ⟨#[]⟩, .int .i64 0, .string ⟨#[]⟩])) (G - n)) 38) = W := ⟨_, rfl⟩
    have HD : Hid (Lines w.heap.size W (.slice (some ⟨w.heap.size, 0, none⟩) 0 G) [] ∧ Below w.heap.size w W) := by
      refine ⟨⟨rfl, Or.inr ⟨w.heap.size, G, _, rfl, Nat.le_refl _, by rw [← hW]; exact heap_alloc_new w.drew _, Nat.zero_le _, hGm, ?_, rfl⟩⟩, ?_⟩
      · simp only [Array.size_append, size_zeroCells]
        simp [Value.cells]
        omega
      · rw [← hW]
        exact (Below.refl w.heap.size w).drew.alloc (Nat.le_refl _) _
    simp only [hW] at hrz
    clear hW hG
    go_enter Tryz.func114, Tryz.ntmps114
    go_wp2_with (at_builtin; refine Lib.wpList_append_run _ rfl _ _ _ _ rfl _ _ rfl rfl _ _ (hrz _) ?_)
    go_ret
    exact ⟨_, rfl, (unhide HD).1, (unhide HD).2⟩

theorem LRow.news {w : World} {a : Option Addr} {xs : List Ln} (h : LRow w a xs) {ad : Addr} (ha : a = some ad) : ∀ j u, (lnsV xs)[j]? = some u → w.cell? (ad.add j) = some u := by
  intro j u hu
  rcases h.els with rfl | ⟨B, O, hb, he⟩
  · simp [lnsV] at hu
  · rw [ha] at hb
    cases hb
    have hj : j < xs.length * 4 := by
      have := (List.getElem?_eq_some_iff.1 hu).1
      rwa [lnsV_length] at this
    have hadd : (⟨B, O, none⟩ : Addr).add j = ⟨B, O + j, none⟩ := by unfold Addr.add; split <;> simp_all
    rw [hadd]
    have hk : j / 4 < xs.length := by omega
    obtain ⟨h1, h2, h3, h4⟩ := he (j / 4) hk
    obtain ⟨g1, g2, g3, g4⟩ := lnL_at hk
    have hr : j % 4 = 0 ∨ j % 4 = 1 ∨ j % 4 = 2 ∨ j % 4 = 3 := by omega
    rcases hr with hr | hr | hr | hr
    · have e : j / 4 * 4 = j := by omega
      rw [e] at h1 g1
      rw [g1] at hu
      rw [h1, hu]
    · have e : j / 4 * 4 + 1 = j := by omega
      rw [Nat.add_assoc, e] at h2
      rw [e] at g2
      rw [g2] at hu
      rw [h2, hu]
    · have e : j / 4 * 4 + 2 = j := by omega
      rw [Nat.add_assoc, e] at h3
      rw [e] at g3
      rw [g3] at hu
      rw [h3, hu]
    · have e : j / 4 * 4 + 3 = j := by omega
      rw [Nat.add_assoc, e] at h4
      rw [e] at g4
      rw [g4] at hu
      rw [h4, hu]

theorem lines_cat {B : Nat} {w : World} {v : Value} {xs ys : List Ln} (h : w.ownsRow B 38 4 v (xs.length + ys.length) (lnsV xs ++ lnsV ys)) : Lines B w v (xs ++ ys) := by
  unfold Lines
  rw [lnsV_append, List.length_append]
  exact h

theorem append_nothing {B : Nat} {w : World} {v : Value} {n c : Nat} {xs : List Value} {i : TypeInfo} (ty : TypeId) (hi : Tryz.prog.info? 38 = some i) (hown : w.ownsRow B 38 4 v n xs) : (Builtin.append_ #[22, 22] ty #[v, .slice none 0 c]).run Tryz.prog w = .ok v w := by
  rcases hown.2 with ⟨rfl, rfl⟩ | ⟨g, cap, cur, rfl, _, _, hnc, _⟩
  · simp [Builtin.append_, run_underlying Tryz.underlying22, sizeOf, typeInfo, hi, Builtin.lenOf, Builtin.firstCells]
  · simp [Builtin.append_, run_underlying Tryz.underlying22, sizeOf, typeInfo, hi, Builtin.lenOf, Builtin.firstCells, hnc, storeCells]

/-- append of a list of lines onto a row of lines. -/
theorem app_row {B : Nat} {w : World} {v : Value} {zs xs : List Ln} {a : Option Addr} {n c : Nat} (ty : TypeId) (hz : Lines B w v zs) (hx : xs.length = n) (h : LRow w a xs) (hB : B ≤ w.heap.size) (hl : zs.length + n ≤ 2000000) :
    ∃ v' w', (Builtin.append_ #[22, 22] ty #[v, .slice a n c]).run Tryz.prog w = .ok v' w' ∧ Lines B w' v' (zs ++ xs) ∧ w.grownBy w' v.ownBlock := by
  obtain ⟨i0, hi, hz0, hz1, hz2⟩ := info_parts info38
  subst hx
  cases a with
  | none =>
    have hx0 : xs = [] := by
      rcases h.els with h | ⟨B, O, hb, _⟩
      · exact h
      · cases hb
    subst hx0
    refine ⟨v, w, ?_, by rw [List.append_nil]; exact hz, ⟨rfl, rfl, rfl, Nat.le_refl _, fun _ _ _ => rfl⟩⟩
    exact append_nothing ty hi hz
  | some ad =>
    obtain ⟨v', w', h1, h2, h3, _, _⟩ := run_append_own_at (P := Tryz.prog) w B 22 ty 38 i0 _ 4 56 Tryz.underlying22 hi hz0 hz1 hz2 rfl (by decide) v zs.length (lnsV zs) hz ad xs.length c (lnsV xs) (lnsV_length xs) (h.news rfl) (lnsV_one xs) (by unfold maxLen; omega) (by omega) hB
    exact ⟨v', w', h1, lines_cat h2, h3⟩

set_option maxRecDepth 100000 in
set_option maxHeartbeats 4000000 in
theorem concat_any {w : World} {Z n m ac bc : Nat} {a b : Option Addr} {xs ys : List Ln} (hx : xs.length = n) (hy : ys.length = m) (hn : n ≤ 1000) (hm : m ≤ 1000) (hA : LRow w a xs) (hB : LRow w b ys) (hZ : Blk w Z #[.slice a n ac, .slice b m bc] 22) :
    Calls Tryz.prog 69 #[.slice (some ⟨Z, 0, none⟩) 2 2] w fun e w' => ∃ v, e = .returned v ∧ Lines w.heap.size w' v (xs ++ ys) ∧ Below w.heap.size w w' := by
  have z0 : w.cell? ⟨Z, 0, none⟩ = some (.slice a n ac) := hZ.cell 0
  have z1 : w.cell? ⟨Z, 1, none⟩ = some (.slice b m bc) := hZ.cell 1
  have HX := hide hx
  have HY := hide hy
  have HA := hide hA
  have HB := hide hB
  have HZ := hide hZ
  clear hx hy hA hB hZ
  have s0 : ((0 : Nat) : Int) + (n : Int) = ((n : Nat) : Int) := by omega
  go_enter Tryz.func69, Tryz.ntmps69
  go_wp2
  go_loopw [3, 5, 11] (fun v3 _ v11 wr => wr = w ∧ ((v11 = .int .i64 0 ∧ v3 = .int .i64 0) ∨ (v11 = .int .i64 1 ∧ v3 = .int .i64 n) ∨ (v11 = .int .i64 2 ∧ v3 = .int .i64 ((n + m : Nat) : Int)))) (fun _ _ v11 _ => 2 - (intOf v11).toNat)
  case atStart => exact ⟨rfl, Or.inl ⟨rfl, rfl⟩⟩
  case round =>
    obtain ⟨rfl, hc⟩ := hrel
    rcases hc with ⟨rfl, rfl⟩ | ⟨rfl, rfl⟩ | ⟨rfl, rfl⟩
    · go_wp2
      go_roundw
      case rel => exact ⟨by trivial, Or.inr (Or.inl ⟨by go_num, by go_num⟩)⟩
      case measure => simp [intOf]
    · have hneg : ¬ ((n : Int) + (m : Int) < 0) := by omega
      go_wp2
      go_roundw
      case rel => exact ⟨by trivial, Or.inr (Or.inr ⟨by go_num, by go_num⟩)⟩
      case measure => simp [intOf]
    · have HG := hide (fun w => grow_any (n := n + m) (by omega) w)
      go_wp2_with (go_at_call 114; fail)
      refine (unhide HG _).mono ?_
      rintro e w1 ⟨v1, rfl, l1, b1⟩
      have HL := hide l1
      have HL1 := hide b1
      clear l1 b1 HG
      go_wp2
      go_loopw [6, 8, 27] (fun v6 _ v27 wq => Below wr.heap.size wr wq ∧ ((v27 = .int .i64 0 ∧ Lines wr.heap.size wq v6 []) ∨ (v27 = .int .i64 1 ∧ Lines wr.heap.size wq v6 xs) ∨ (v27 = .int .i64 2 ∧ Lines wr.heap.size wq v6 (xs ++ ys)))) (fun _ _ v27 _ => 2 - (intOf v27).toNat)
      case atStart => exact ⟨unhide HL1, Or.inl ⟨rfl, unhide HL⟩⟩
      case round =>
        rename World => wq
        obtain ⟨hlow, hc⟩ := hrel
        have q0 : wq.cell? ⟨Z, 0, none⟩ = some (.slice a n ac) := (hlow.cell (p := ⟨Z, 0, none⟩) (lt_of_cell z0)).trans z0
        have q1 : wq.cell? ⟨Z, 1, none⟩ = some (.slice b m bc) := (hlow.cell (p := ⟨Z, 1, none⟩) (lt_of_cell z1)).trans z1
        have HLW := hide hlow
        rcases hc with ⟨rfl, hl⟩ | ⟨rfl, hl⟩ | ⟨rfl, hl⟩
        · obtain ⟨v', w', hr, h2, h3⟩ := app_row (c := ac) 22 hl (unhide HX) ((unhide HA).low hlow) hlow.size (by simp; omega)
          rw [List.nil_append] at h2
          have HD : Hid (Lines wr.heap.size w' v' xs ∧ Below wr.heap.size wr w') := hide ⟨h2, hlow.grown h3 hlow.size (fun j hj => (hl.lt _ hj).1)⟩
          clear hl hlow h2 h3 HL HL1
          go_wp2_with (at_builtin; refine Lib.wpList_append_run _ rfl _ _ _ _ rfl _ _ rfl rfl _ _ hr ?_)
          go_roundw
          case rel => exact ⟨(unhide HD).2, Or.inr (Or.inl ⟨by go_num, (unhide HD).1⟩)⟩
          case measure => simp [intOf]
        · obtain ⟨v', w', hr, h2, h3⟩ := app_row (c := bc) 22 hl (unhide HY) ((unhide HB).low hlow) hlow.size (by rw [unhide HX]; omega)
          have HD : Hid (Lines wr.heap.size w' v' (xs ++ ys) ∧ Below wr.heap.size wr w') := hide ⟨h2, hlow.grown h3 hlow.size (fun j hj => (hl.lt _ hj).1)⟩
          clear hl hlow h2 h3 HL HL1
          go_wp2_with (at_builtin; refine Lib.wpList_append_run _ rfl _ _ _ _ rfl _ _ rfl rfl _ _ hr ?_)
          go_roundw
          case rel => exact ⟨(unhide HD).2, Or.inr (Or.inr ⟨by go_num, (unhide HD).1⟩)⟩
          case measure => simp [intOf]
        · have HD := hide hl
          clear hl hlow HL HL1
          go_wp2
          go_ret
          exact ⟨_, rfl, unhide HD, unhide HLW⟩

end Go.Proofs.YthcafeoamabkgaaGreatDoor
