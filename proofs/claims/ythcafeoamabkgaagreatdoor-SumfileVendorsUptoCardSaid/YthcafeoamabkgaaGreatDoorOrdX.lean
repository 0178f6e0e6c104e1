/-
  The reference's Find and Keep: the contracts.
-/
import Derived.Test.YthcafeoamabkgaaGreatDoorFewX
import Derived.Test.YthcafeoamabkgaaGreatDoorLinR
import Derived.Test.YthcafeoamabkgaaGreatDoorMergQ
import Derived.Test.YthcafeoamabkgaaGreatDoorKeepM
import Derived.BigQuiet
namespace Go.Proofs.YthcafeoamabkgaaGreatDoor
open Go.RowKit

theorem rlines_mono {A B : Nat} {w : World} {v : Value} {xs : List Ln} (h : RLines B w v xs) (hAB : A ≤ B) : RLines A w v xs := by
  refine ⟨h.1, ?_⟩
  rcases h.2 with h | ⟨g, cap, cur, e, hb, rest⟩
  · exact Or.inl h
  · exact Or.inr ⟨g, cap, cur, e, Nat.le_trans hAB hb, rest⟩

theorem rlines_nil (B : Nat) (w : World) : RLines B w (.slice none 0 0) [] := ⟨rfl, Or.inl ⟨rfl, rfl⟩⟩
theorem rlines_new (w : World) : RLines w.heap.size (w.alloc (.cells #[] 105)) (.slice (some ⟨w.heap.size, 0, none⟩) 0 0) [] :=
  ⟨rfl, Or.inr ⟨w.heap.size, 0, #[], rfl, Nat.le_refl _, heap_new w _, Nat.le_refl _, Nat.zero_le _, rfl, rfl⟩⟩

theorem rlines_cat {B : Nat} {w : World} {v : Value} {xs ys : List Ln} (h : w.ownsRow B 105 4 v (xs.length + ys.length) (lnsV xs ++ lnsV ys)) : RLines B w v (xs ++ ys) := by
  unfold RLines
  rw [lnsV_append, List.length_append]
  exact h

theorem rappend_nothing {B : Nat} {w : World} {v : Value} {n c : Nat} {xs : List Value} {i : TypeInfo} (a : Option Addr) (ty : TypeId) (hi : Tryz.prog.info? 105 = some i) (hown : w.ownsRow B 105 4 v n xs) : (Builtin.append_ #[44, 44] ty #[v, .slice a 0 c]).run Tryz.prog w = .ok v w := by
  rcases hown.2 with ⟨rfl, rfl⟩ | ⟨g, cap, cur, rfl, _, _, hnc, _⟩
  · cases a <;> simp [Builtin.append_, run_underlying Tryz.underlying44, sizeOf, typeInfo, hi, Builtin.lenOf, Builtin.firstCells, loadCells, loadCellsFrom]
  · cases a <;> simp [Builtin.append_, run_underlying Tryz.underlying44, sizeOf, typeInfo, hi, Builtin.lenOf, Builtin.firstCells, hnc, storeCells, loadCells, loadCellsFrom]

/-- append of a list of lines onto a row of the reference's lines. -/
theorem rapp_row {B : Nat} {w : World} {v : Value} {zs xs : List Ln} {a : Option Addr} {n c : Nat} (ty : TypeId) (hz : RLines B w v zs) (hx : xs.length = n) (h : LRow w a xs) (hB : B ≤ w.heap.size) (hl : zs.length + n ≤ 2000000) :
    ∃ v' w', (Builtin.append_ #[44, 44] ty #[v, .slice a n c]).run Tryz.prog w = .ok v' w' ∧ RLines B w' v' (zs ++ xs) ∧ w.grownBy w' v.ownBlock := by
  obtain ⟨i0, hi, hz0, hz1, hz2⟩ := info_parts info105
  subst hx
  cases a with
  | none =>
    have hx0 : xs = [] := by
      rcases h.els with h | ⟨B, O, hb, _⟩
      · exact h
      · cases hb
    subst hx0
    refine ⟨v, w, ?_, by rw [List.append_nil]; exact hz, ⟨rfl, rfl, rfl, Nat.le_refl _, fun _ _ _ => rfl⟩⟩
    exact rappend_nothing none ty hi hz
  | some ad =>
    obtain ⟨v', w', h1, h2, h3, _, _⟩ := run_append_own_at (P := Tryz.prog) w B 44 ty 105 i0 _ 4 56 Tryz.underlying44 hi hz0 hz1 hz2 rfl (by decide) v zs.length (lnsV zs) hz ad xs.length c (lnsV xs) (lnsV_length xs) (h.news rfl) (lnsV_one xs) (by unfold maxLen; omega) (by omega) hB
    exact ⟨v', w', h1, rlines_cat h2, h3⟩

/-- append of one line, out of a block of its own. -/
theorem rapp_one {B : Nat} {w : World} {v : Value} {zs : List Ln} {x : Ln} (hz : RLines B w v zs) (hB : B ≤ w.heap.size) (hl : zs.length ≤ 1000000) :
    ∃ v' w', (Builtin.append_ #[44, 44] 44 #[v, .slice (some ⟨w.heap.size, 0, none⟩) 1 1]).run Tryz.prog (w.alloc (.cells #[.string (ba x.p), .string (ba x.v), .int .i64 x.k, .string (ba x.s)] 105)) = .ok v' w' ∧ RLines B w' v' (zs ++ [x]) ∧ Below B w w' := by
  have b1 : Below B w (w.alloc (.cells (lnC x) 105)) := (Below.refl B w).alloc hB _
  have k1 : Blk (w.alloc (.cells (lnC x) 105)) w.heap.size (lnC x) 105 := Blk.new _ _ _
  have hr : LRow (w.alloc (.cells (lnC x) 105)) (some ⟨w.heap.size, 0, none⟩) [x] := ⟨Or.inr ⟨_, 0, rfl, fun k hk => by
    have : k = 0 := by simp at hk; omega
    subst this
    exact ⟨k1.cell 0, k1.cell 1, k1.cell 2, k1.cell 3⟩⟩⟩
  have hz' : RLines B (w.alloc (.cells (lnC x) 105)) v zs := World.ownsRow.alloc hz _
  have hs : B ≤ (w.alloc (.cells (lnC x) 105)).heap.size := Nat.le_trans hB b1.size
  obtain ⟨v', w', h1, h2, h3⟩ := rapp_row (c := 1) 44 hz' rfl hr hs (by simp; omega)
  exact ⟨v', w', h1, h2, b1.grown h3 hs (fun j hj => (hz'.lt _ hj).1)⟩

theorem LRow.front {w : World} {g O : Nat} {p r : List Ln} (h : LRow w (some ⟨g, O, none⟩) (p ++ r)) : LRow w (some ⟨g, O, none⟩) p := by
  by_cases hp : p = []
  · exact ⟨Or.inl hp⟩
  rcases h.els with h | ⟨B, O', e, h⟩
  · exact absurd (List.append_eq_nil_iff.1 h).1 hp
  · refine ⟨Or.inr ⟨B, O', e, fun k hk => ?_⟩⟩
    have := h k (by simp; omega)
    rwa [List.getElem_append_left hk] at this
theorem LRow.back {w : World} {g O : Nat} {p r : List Ln} {m : Nat} (hm : p.length = m) (h : LRow w (some ⟨g, O, none⟩) (p ++ r)) : LRow w (some ⟨g, O + m * 4, none⟩) r := by
  subst hm
  by_cases hr : r = []
  · exact ⟨Or.inl hr⟩
  rcases h.els with h | ⟨B, O', e, h⟩
  · exact absurd (List.append_eq_nil_iff.1 h).2 hr
  · cases e
    refine ⟨Or.inr ⟨g, O + p.length * 4, rfl, fun k hk => ?_⟩⟩
    have := h (p.length + k) (by simp; omega)
    rw [List.getElem_append_right (by omega)] at this
    simp only [Nat.add_sub_cancel_left] at this
    have e : O + p.length * 4 + k * 4 = O + (p.length + k) * 4 := by omega
    rw [e]
    exact this

theorem row_drewN {w : World} {base n size : Nat} {e : TypeId} {v : Value} {xs : List Value} (h : w.ownsRow base e size v n xs) (q : Nat) : (w.drewN q).ownsRow base e size v n xs := h

/-- A row that is owned and is not nil. -/
theorem own_rowR {w : World} {B : Nat} {v : Value} {x : List Ln} (h : RLines B w v x) (hne : ¬ v = .slice none 0 0) : ∃ g cap, v = .slice (some ⟨g, 0, none⟩) x.length cap ∧ B ≤ g ∧ g < w.heap.size ∧ x.length ≤ cap ∧ LRow w (some ⟨g, 0, none⟩) x := by
  obtain ⟨a, c, e, hr, hc⟩ := RLines.at h
  rcases h.2 with ⟨e', _⟩ | ⟨g, cap, cur, e', hb, hblk, hcap, hcm, hcs, hcur⟩
  · exact absurd e' hne
  · rw [e'] at e
    cases e
    exact ⟨g, _, e', hb, (Array.getElem?_eq_some_iff.1 hblk).1, hcap, hr⟩

/-! ### The order as a test -/

structure Strict {α : Type} (lt : α → α → Bool) : Prop where
  asym : ∀ x y, lt x y = true → lt y x = false
  ntrans : ∀ x y z, lt y x = false → lt z y = false → lt z x = false

abbrev Srt {α : Type} (lt : α → α → Bool) (l : List α) : Prop := l.Pairwise (fun x y => lt y x = false)

theorem ins_fit {α : Type} {lt : α → α → Bool} (O : Strict lt) {l r : List α} {z : α} (h : Srt lt (l ++ r)) (hz : ∀ q ∈ r, lt z q = true) (hl : l = [] ∨ ∃ l' q, l = l' ++ [q] ∧ lt z q = false) : Srt lt (l ++ z :: r) := by
  have h' := List.pairwise_append.1 h
  refine List.pairwise_append.2 ⟨h'.1, List.pairwise_cons.2 ⟨fun q hq => O.asym _ _ (hz q hq), h'.2.1⟩, ?_⟩
  intro x hx y hy
  rcases List.mem_cons.1 hy with rfl | hy
  · rcases hl with rfl | ⟨l', q, rfl, hq⟩
    · cases hx
    · rcases List.mem_append.1 hx with hx | hx
      · have h1 := (List.pairwise_append.1 h'.1).2.2 x hx q (by simp)
        exact O.ntrans _ _ _ h1 hq
      · simp at hx; subst hx; exact hq
  · exact h'.2.2 x hx y hy

theorem strict_of {α β : Type} {c : β → β → Int} (o : Orders c) (f : α → β) : Strict (fun x y => decide (c (f x) (f y) < 0)) where
  asym := fun x y h => by
    have t := o.turn (f x) (f y)
    simp only [decide_eq_true_eq, decide_eq_false_iff_not] at h ⊢
    omega
  ntrans := fun x y z h1 h2 => by
    simp only [decide_eq_false_iff_not] at h1 h2 ⊢
    intro h3
    have t1 := o.turn (f x) (f y)
    have t2 := o.turn (f y) (f z)
    have t3 := o.turn (f x) (f z)
    by_cases e1 : c (f x) (f y) = 0
    · have := (o.eq (f x) (f y)).1 e1
      rw [this] at t3 h3 t1
      omega
    · by_cases e2 : c (f y) (f z) = 0
      · have := (o.eq (f y) (f z)).1 e2
        rw [this] at t1 t2
        rw [← this] at t3 h3
        omega
      · have := o.lt (f x) (f y) (f z) (by omega) (by omega)
        omega

abbrev ltL (x y : Ln) : Bool := decide (cmpL x y < 0)
theorem strictL : Strict ltL := strict_of orders_k keyL

theorem rising_srt {l : List Ln} (h : Srt ltL l) : Rising l := rising_of (h.imp (fun {a b} h => by simpa using h))

theorem ltL_yes {x y : Ln} (h : ltM (x.p, x.v) (y.p, y.v) = true) : ltL x y = true := by
  simp only [ltL, decide_eq_true_eq] at h ⊢
  unfold cmpL
  rw [or_left (by omega)]
  exact h
theorem ltL_no {x y : Ln} (h : ltM (y.p, y.v) (x.p, x.v) = true) : ltL x y = false := by
  simp only [ltL, decide_eq_true_eq, decide_eq_false_iff_not] at h ⊢
  have t := orders_m.turn (x.p, x.v) (y.p, y.v)
  unfold cmpL
  rw [or_left (by omega)]
  omega
theorem ltL_kind {x y : Ln} (h : ltM (x.p, x.v) (y.p, y.v) = false) (h2 : ltM (y.p, y.v) (x.p, x.v) = false) : ltL x y = decide (x.k < y.k) := by
  simp only [decide_eq_false_iff_not] at h h2
  have t := orders_m.turn (x.p, x.v) (y.p, y.v)
  have h0 : cmpM (x.p, x.v) (y.p, y.v) = 0 := by omega
  show decide (cmpL x y < 0) = _
  unfold cmpL
  rw [h0]
  have : orI 0 (Lib.compareInt x.k y.k) = Lib.compareInt x.k y.k := by simp [orI]
  rw [this]
  unfold Lib.compareInt
  split <;> rename_i h1
  · simp [h1]
  · split <;> simp <;> omega

end Go.Proofs.YthcafeoamabkgaaGreatDoor

namespace Go.Proofs.YthcafeoamabkgaaGreatDoor
open Go.RowKit

/-- Two lines' modules: alike, or where they part first. -/
theorem mod_part (p v p' v' : Str) :
    (p = p' ∧ v = v' ∧ ((ba p).toList == (ba p').toList) = true ∧ ((ba v).toList == (ba v').toList) = true) ∨
    (¬ p = p' ∧ ((ba p).toList == (ba p').toList) = false) ∨
    (p = p' ∧ ¬ v = v' ∧ ((ba p).toList == (ba p').toList) = true ∧ ((ba v).toList == (ba v').toList) = false) := by
  simp only [ba_list]
  by_cases h1 : p = p'
  · by_cases h2 : v = v'
    · exact Or.inl ⟨h1, h2, by simp [h1], by simp [h2]⟩
    · exact Or.inr (Or.inr ⟨h1, h2, by simp [h1], by simpa using h2⟩)
  · exact Or.inr (Or.inl ⟨h1, by simpa using h1⟩)

set_option maxRecDepth 100000 in
set_option maxHeartbeats 4000000 in
theorem refFind_any {w : World} {a : Option Addr} {n c : Nat} {xs : List Ln} {mp mv : Str} {kk : Int} (hn : xs.length = n) (hN : n ≤ 1000000) (h : LRow w a xs) :
    Calls Tryz.prog 29 #[.slice a n c, .agg #[.string (ba mp), .string (ba mv)], .int .i64 kk] w fun e w' => e = .returned (findV (findR xs mp mv kk)) ∧ Below w.heap.size w w' := by
  obtain ⟨W0, hW0⟩ : ∃ W0, w.alloc (.cells #[.string (ba mp), .string (ba mv)] 36) = W0 := ⟨_, rfl⟩
  have b0 : Below w.heap.size w W0 := by rw [← hW0]; exact (Below.refl _ _).alloc (Nat.le_refl _) _
  have k0 : Blk W0 w.heap.size #[.string (ba mp), .string (ba mv)] 36 := by rw [← hW0]; exact Blk.new _ _ _
  have H0 : LRow W0 a xs := h.low b0
  have g0 : W0.cell? ⟨w.heap.size, 0, none⟩ = some (.string (ba mp)) := k0.cell 0
  have g1 : W0.cell? ⟨w.heap.size, 1, none⟩ = some (.string (ba mv)) := k0.cell 1
  have HN := hide hn
  have H := hide H0
  have HB := hide b0
  have HW0 := hide hW0
  clear hn h H0 k0 hW0 b0
  go_enter Tryz.func29, Tryz.ntmps29
  go_wp2
  rw [unhide HW0]
  go_loopw [8] (fun v8 wr => ∃ i q : Nat, i ≤ n ∧ v8 = .int .i64 i ∧ findR (xs.take i) mp mv kk = none ∧ wr = W0.drewN q) (fun v8 _ => n - (intOf v8).toNat)
  case atStart => exact ⟨0, 0, Nat.zero_le _, rfl, rfl, rfl⟩
  case round =>
    rename World => wr
    obtain ⟨i, q, hi, rfl, hf, hwr⟩ := hrel
    have HF := hide hf
    have HW := hide hwr
    clear hf
    by_cases hlt : i < n
    · have hit : i < xs.length := by rw [unhide HN]; exact hlt
      obtain ⟨B, O, rfl, he⟩ : ∃ B O, a = some ⟨B, O, none⟩ ∧ ∀ k (hk : k < xs.length), LnAt W0 B (O + k * 4) xs[k] := by
        rcases (unhide H).els with h | h
        · rw [h] at hit; simp at hit
        · exact h
      have ha := he i hit
      have hy := find_yes (mp := mp) (mv := mv) (kk := kk) hit (unhide HF)
      have hno := find_no (mp := mp) (mv := mv) (kk := kk) hit (unhide HF)
      obtain ⟨x, hx⟩ : ∃ x, xs[i] = x := ⟨_, rfl⟩
      rw [hx] at ha hy hno
      obtain ⟨p, v, k, s⟩ := x
      simp only at ha hy hno
      obtain ⟨m1, m2, m3, m4⟩ := ha
      have q1 : wr.cell? ⟨B, O + i * 4, none⟩ = some (.string (ba p)) := by rw [hwr]; exact m1
      have q2 : wr.cell? ⟨B, O + i * 4 + 1, none⟩ = some (.string (ba v)) := by rw [hwr]; exact m2
      have q3 : wr.cell? ⟨B, O + i * 4 + 2, none⟩ = some (.int .i64 k) := by rw [hwr]; exact m3
      have q4 : wr.cell? ⟨B, O + i * 4 + 3, none⟩ = some (.string (ba s)) := by rw [hwr]; exact m4
      have q5 : wr.cell? ⟨w.heap.size, 0, none⟩ = some (.string (ba mp)) := by rw [hwr]; exact g0
      have q6 : wr.cell? ⟨w.heap.size, 1, none⟩ = some (.string (ba mv)) := by rw [hwr]; exact g1
      clear he hx m1 m2 m3 m4 HF hwr
      rcases mod_part p v mp mv with ⟨e1, e2, f1, f2⟩ | ⟨e1, f1⟩ | ⟨e1, e2, f1, f2⟩
      · by_cases e3 : k = kk
        · have HF := hide (hy ⟨e1, e2, e3⟩)
          have f3 : (k == kk) = true := by rw [e3]; simp
          clear hy hno e1 e2 e3
          go_wp2
          go_quiet (fail)
          go_wp2
          go_ret2
          rw [unhide HF]
          exact ⟨rfl, by rw [unhide HW]; exact low_drewN (low_drewN (unhide HB) _) _⟩
        · have HF := hide (hno (fun h => e3 h.2.2))
          have f3 : (k == kk) = false := by simpa using e3
          clear hy hno e1 e2 e3
          go_wp2
          go_quiet (fail)
          go_wp2
          go_roundw
          case rel => exact ⟨i + 1, q + nq, hlt, by simp, unhide HF, by rw [unhide HW, World.drewN_drewN]⟩
          case measure => simp [intOf]; omega
      · have HF := hide (hno (fun h => e1 h.1))
        clear hy hno e1
        go_wp2
        go_quiet (fail)
        go_wp2
        go_roundw
        case rel => exact ⟨i + 1, q + nq, hlt, by simp, unhide HF, by rw [unhide HW, World.drewN_drewN]⟩
        case measure => simp [intOf]; omega
      · have HF := hide (hno (fun h => e2 h.2.1))
        clear hy hno e1 e2
        go_wp2
        go_quiet (fail)
        go_wp2
        go_roundw
        case rel => exact ⟨i + 1, q + nq, hlt, by simp, unhide HF, by rw [unhide HW, World.drewN_drewN]⟩
        case measure => simp [intOf]; omega
    · have hkn : xs.take i = xs := List.take_of_length_le (by rw [unhide HN]; omega)
      rw [hkn] at HF
      clear hkn hwr
      go_wp2
      go_ret2
      rw [unhide HF]
      exact ⟨rfl, by rw [unhide HW]; exact low_drewN (unhide HB) _⟩

set_option maxRecDepth 100000 in
set_option maxHeartbeats 4000000 in
theorem refKeep_any {w : World} {a b : Option Addr} {n m c d : Nat} {xs : List Ln} {ms : List Md} (hn : xs.length = n) (hm : ms.length = m) (hN : n ≤ 1000000) (hM : m ≤ 1000000) (hx : LRow w a xs) (hy : MRow w b ms) :
    Calls Tryz.prog 31 #[.slice a n c, .slice b m d] w fun e w' => ∃ v, e = .returned v ∧ RLines w.heap.size w' v (keepR ms xs) ∧ Below w.heap.size w w' := by
  have HN := hide hn
  have HM := hide hm
  have HX := hide hx
  have HY := hide hy
  clear hn hm hx hy
  go_enter Tryz.func31, Tryz.ntmps31
  go_wp2
  go_loopw [5, 6, 7] (fun v5 v6 _ wr => ∃ i : Nat, i ≤ n ∧ v6 = .int .i64 i ∧ RLines w.heap.size wr v5 (keepR ms (xs.take i)) ∧ Below w.heap.size w wr) (fun _ v6 _ _ => n - (intOf v6).toNat)
  case atStart => exact ⟨0, Nat.zero_le _, rfl, rlines_nil _ _, Below.refl _ _⟩
  case round =>
    rename World => wr
    obtain ⟨i, hi, rfl, hrow, hlow⟩ := hrel
    have HR := hide hrow
    have HL := hide hlow
    clear hrow hlow
    by_cases hlt : i < n
    · have hit : i < xs.length := by rw [unhide HN]; exact hlt
      obtain ⟨B, O, rfl, he⟩ : ∃ B O, a = some ⟨B, O, none⟩ ∧ ∀ k (hk : k < xs.length), LnAt wr B (O + k * 4) xs[k] := by
        rcases ((unhide HX).low (unhide HL)).els with h | h
        · rw [h] at hit; simp at hit
        · exact h
      have ha := he i hit
      have hyes := keepR_yes (ms := ms) hit
      have hno := keepR_no (ms := ms) hit
      have hlen : (keepR ms (xs.take i)).length ≤ i := Nat.le_trans (List.length_filter_le _ _) (by rw [List.length_take]; omega)
      obtain ⟨x, hx⟩ : ∃ x, xs[i] = x := ⟨_, rfl⟩
      rw [hx] at ha hyes hno
      have HA := hide ha
      clear he hx ha
      go_wp2
      go_loopw [5, 7] (fun v5 v7 wq => ∃ j q : Nat, j ≤ m ∧ v7 = .int .i64 j ∧ ¬ (x.p, x.v) ∈ ms.take j ∧ wq = wr.drewN q ∧ RLines w.heap.size wr v5 (keepR ms (xs.take i))) (fun _ v7 _ => m - (intOf v7).toNat)
      case atStart => exact ⟨0, 0, Nat.zero_le _, rfl, by simp, rfl, unhide HR⟩
      case round =>
        rename World => wq
        obtain ⟨j, q, hj, rfl, hnot, hwq, hrow⟩ := hrel
        clear HR
        have HR := hide hrow
        clear hrow
        have HNO := hide hnot
        have HQ := hide hwq
        clear hnot
        by_cases hjm : j < m
        · have hjt : j < ms.length := by rw [unhide HM]; exact hjm
          obtain ⟨Y, Z, rfl, hz⟩ : ∃ Y Z, b = some ⟨Y, Z, none⟩ ∧ ∀ k (hk : k < ms.length), wr.cell? ⟨Y, Z + k * 2, none⟩ = some (.string (ba ms[k].1)) ∧ wr.cell? ⟨Y, Z + k * 2 + 1, none⟩ = some (.string (ba ms[k].2)) := by
            rcases ((unhide HY).low (unhide HL)).els with h | h
            · rw [h] at hjt; simp at hjt
            · exact h
          have hzj := hz j hjt
          have hnx : (x.p, x.v) ∈ ms.take (j + 1) ↔ (x.p, x.v) ∈ ms.take j ∨ (x.p, x.v) = ms[j] := by
            rw [List.take_add_one, List.getElem?_eq_getElem hjt, List.mem_append]
            simp
          have hmem : ms[j] ∈ ms := List.getElem_mem hjt
          obtain ⟨y, hy⟩ : ∃ y, ms[j] = y := ⟨_, rfl⟩
          rw [hy] at hzj hnx hmem
          obtain ⟨y1, y2⟩ := y
          obtain ⟨m1, m2, m3, m4⟩ := unhide HA
          have q1 : wq.cell? ⟨B, O + i * 4, none⟩ = some (.string (ba x.p)) := by rw [hwq]; exact m1
          have q2 : wq.cell? ⟨B, O + i * 4 + 1, none⟩ = some (.string (ba x.v)) := by rw [hwq]; exact m2
          have q5 : wq.cell? ⟨Y, Z + j * 2, none⟩ = some (.string (ba y1)) := by rw [hwq]; exact hzj.1
          have q6 : wq.cell? ⟨Y, Z + j * 2 + 1, none⟩ = some (.string (ba y2)) := by rw [hwq]; exact hzj.2
          clear hz hzj hy hwq m1 m2 m3 m4
          rcases mod_part y1 y2 x.p x.v with ⟨e1, e2, f1, f2⟩ | ⟨e1, f1⟩ | ⟨e1, e2, f1, f2⟩
          · have HK := hide (hyes (by rw [e1, e2] at hmem; exact hmem))
            clear hmem hnx hyes hno e1 e2
            go_wp2
            go_quiet (fail)
            obtain ⟨W, hW⟩ : ∃ W, wq.drewN nq = W := ⟨_, rfl⟩
            have bW : Below wr.heap.size wr W := by rw [← hW, unhide HQ]; exact low_drewN (low_drewN (Below.refl _ _) _) _
            have hRW : RLines w.heap.size W u5 (keepR ms (xs.take i)) := by rw [← hW, unhide HQ]; exact row_drewN (row_drewN (unhide HR) _) _
            rw [hW]
            obtain ⟨v', w', happ, hown, hb⟩ := rapp_one (x := x) hRW (low_trans (unhide HL) bW).size (by omega)
            have HD : Hid (RLines w.heap.size w' v' (keepR ms (xs.take (i + 1))) ∧ Below w.heap.size w w') := hide ⟨by rw [unhide HK]; exact hown, (low_trans (unhide HL) bW).trans hb⟩
            obtain ⟨n1, n2, n3, n4⟩ : LnAt W B (O + i * 4) x := by
              obtain ⟨m1, m2, m3, m4⟩ := unhide HA
              exact ⟨(bW.cell (lt_of_cell m1)).trans m1, (bW.cell (lt_of_cell m2)).trans m2, (bW.cell (lt_of_cell m3)).trans m3, (bW.cell (lt_of_cell m4)).trans m4⟩
            clear hW bW hRW hown hb HK q1 q2 q5 q6
            obtain ⟨xp, xv, xk, xz⟩ := x
            simp only at n1 n2 n3 n4 happ f1 f2
            go_wp2_with (at_builtin; refine Lib.wpList_append_run _ rfl _ _ _ _ rfl _ _ rfl rfl _ _ happ ?_)
            go_roundw
            case rel => exact ⟨i + 1, hlt, by simp, (unhide HD).1, (unhide HD).2⟩
            case measure => simp [intOf]; omega
          · have HNX : Hid (¬ (x.p, x.v) ∈ ms.take (j + 1)) := hide (fun h => by
              rcases hnx.1 h with h | h
              · exact unhide HNO h
              · simp at h; exact e1 h.1.symm)
            clear hmem hnx hyes hno e1
            go_wp2
            go_quiet (fail)
            go_wp2
            go_roundw
            case rel => exact ⟨j + 1, q + nq, hjm, by simp, unhide HNX, by rw [unhide HQ, World.drewN_drewN], unhide HR⟩
            case measure => simp [intOf]; omega
          · have HNX : Hid (¬ (x.p, x.v) ∈ ms.take (j + 1)) := hide (fun h => by
              rcases hnx.1 h with h | h
              · exact unhide HNO h
              · simp at h; exact e2 h.2.symm)
            clear hmem hnx hyes hno e1 e2
            go_wp2
            go_quiet (fail)
            go_wp2
            go_roundw
            case rel => exact ⟨j + 1, q + nq, hjm, by simp, unhide HNX, by rw [unhide HQ, World.drewN_drewN], unhide HR⟩
            case measure => simp [intOf]; omega
        · have hall : ms.take j = ms := List.take_of_length_le (by rw [unhide HM]; omega)
          have HK : Hid (keepR ms (xs.take (i + 1)) = keepR ms (xs.take i)) := hide (hno (by have := unhide HNO; rwa [hall] at this))
          have HD : Hid (RLines w.heap.size wq u5 (keepR ms (xs.take (i + 1))) ∧ Below w.heap.size w wq) := hide ⟨by rw [unhide HK, unhide HQ]; exact row_drewN (unhide HR) _, by rw [unhide HQ]; exact low_drewN (unhide HL) _⟩
          clear hall hwq hyes hno
          go_wp2
          go_roundw
          case rel => exact ⟨i + 1, hlt, by simp, (unhide HD).1, (unhide HD).2⟩
          case measure => simp [intOf]; omega
    · have hkn : xs.take i = xs := List.take_of_length_le (by rw [unhide HN]; omega)
      rw [hkn] at HR
      clear hkn
      go_wp2
      go_ret
      exact ⟨_, rfl, unhide HR, unhide HL⟩

end Go.Proofs.YthcafeoamabkgaaGreatDoor
