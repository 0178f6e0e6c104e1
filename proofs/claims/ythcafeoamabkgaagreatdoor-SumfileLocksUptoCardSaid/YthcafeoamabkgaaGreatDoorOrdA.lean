/-
  Rows of the reference's lines: appended to, cut; the order of lines as a test.
-/
import Derived.Test.YthcafeoamabkgaaGreatDoorCat
import Derived.Test.YthcafeoamabkgaaGreatDoorSameL
import Derived.Test.YthcafeoamabkgaaGreatDoorMergQ
namespace Go.Proofs.YthcafeoamabkgaaGreatDoor
open Go.RowKit

theorem rlines_mono {A B : Nat} {w : World} {v : Value} {xs : List Ln} (h : RLines B w v xs) (hAB : A ≤ B) : RLines A w v xs := by
  refine ⟨h.1, ?_⟩
  rcases h.2 with h | ⟨g, cap, cur, e, hb, rest⟩
  · exact Or.inl h
  · exact Or.inr ⟨g, cap, cur, e, Nat.le_trans hAB hb, rest⟩

theorem rlines_nil (B : Nat) (w : World) : RLines B w (.slice none 0 0) [] := ⟨rfl, Or.inl ⟨rfl, rfl⟩⟩
theorem rlines_new (w : World) : RLines w.heap.size (w.alloc (.cells #[] 105)) (.slice (some ⟨w.heap.size, 0, none⟩) 0 0) [] :=
  ⟨rfl, Or.inr ⟨w.heap.size, 0, #[], rfl, Nat.le_refl _, heap_new w _, Nat.le_refl _, Nat.zero_le _, rfl, rfl⟩⟩

theorem rlines_cat {B : Nat} {w : World} {v : Value} {xs ys : List Ln} (h : w.ownsRow B 105 4 v (xs.length + ys.length) (lnsV xs ++ lnsV ys)) : RLines B w v (xs ++ ys) := by
  unfold RLines
  rw [lnsV_append, List.length_append]
  exact h

theorem rappend_nothing {B : Nat} {w : World} {v : Value} {n c : Nat} {xs : List Value} {i : TypeInfo} (a : Option Addr) (ty : TypeId) (hi : Tryz.prog.info? 105 = some i) (hown : w.ownsRow B 105 4 v n xs) : (Builtin.append_ #[44, 44] ty #[v, .slice a 0 c]).run Tryz.prog w = .ok v w := by
  rcases hown.2 with ⟨rfl, rfl⟩ | ⟨g, cap, cur, rfl, _, _, hnc, _⟩
  · cases a <;> simp [Builtin.append_, run_underlying Tryz.underlying44, sizeOf, typeInfo, hi, Builtin.lenOf, Builtin.firstCells, loadCells, loadCellsFrom]
  · cases a <;> simp [Builtin.append_, run_underlying Tryz.underlying44, sizeOf, typeInfo, hi, Builtin.lenOf, Builtin.firstCells, hnc, storeCells, loadCells, loadCellsFrom]

/-- append of a list of lines onto a row of the reference's lines. -/
theorem rapp_row {B : Nat} {w : World} {v : Value} {zs xs : List Ln} {a : Option Addr} {n c : Nat} (ty : TypeId) (hz : RLines B w v zs) (hx : xs.length = n) (h : LRow w a xs) (hB : B ≤ w.heap.size) (hl : zs.length + n ≤ 2000000) :
    ∃ v' w', (Builtin.append_ #[44, 44] ty #[v, .slice a n c]).run Tryz.prog w = .ok v' w' ∧ RLines B w' v' (zs ++ xs) ∧ w.grownBy w' v.ownBlock := by
  obtain ⟨i0, hi, hz0, hz1, hz2⟩ := info_parts info105
  subst hx
  cases a with
  | none =>
    have hx0 : xs = [] := by
      rcases h.els with h | ⟨B, O, hb, _⟩
      · exact h
      · cases hb
    subst hx0
    refine ⟨v, w, ?_, by rw [List.append_nil]; exact hz, ⟨rfl, rfl, rfl, Nat.le_refl _, fun _ _ _ => rfl⟩⟩
    exact rappend_nothing none ty hi hz
  | some ad =>
    obtain ⟨v', w', h1, h2, h3, _, _⟩ := run_append_own_at (P := Tryz.prog) w B 44 ty 105 i0 _ 4 56 Tryz.underlying44 hi hz0 hz1 hz2 rfl (by decide) v zs.length (lnsV zs) hz ad xs.length c (lnsV xs) (lnsV_length xs) (h.news rfl) (lnsV_one xs) (by unfold maxLen; omega) (by omega) hB
    exact ⟨v', w', h1, rlines_cat h2, h3⟩

/-- append of one line, out of a block of its own. -/
theorem rapp_one {B : Nat} {w : World} {v : Value} {zs : List Ln} {x : Ln} (hz : RLines B w v zs) (hB : B ≤ w.heap.size) (hl : zs.length ≤ 1000000) :
    ∃ v' w', (Builtin.append_ #[44, 44] 44 #[v, .slice (some ⟨w.heap.size, 0, none⟩) 1 1]).run Tryz.prog (w.alloc (.cells #[.string (ba x.p), .string (ba x.v), .int .i64 x.k, .string (ba x.s)] 105)) = .ok v' w' ∧ RLines B w' v' (zs ++ [x]) ∧ Below B w w' := by
  have b1 : Below B w (w.alloc (.cells (lnC x) 105)) := (Below.refl B w).alloc hB _
  have k1 : Blk (w.alloc (.cells (lnC x) 105)) w.heap.size (lnC x) 105 := Blk.new _ _ _
  have hr : LRow (w.alloc (.cells (lnC x) 105)) (some ⟨w.heap.size, 0, none⟩) [x] := ⟨Or.inr ⟨_, 0, rfl, fun k hk => by
    have : k = 0 := by simp at hk; omega
    subst this
    exact ⟨k1.cell 0, k1.cell 1, k1.cell 2, k1.cell 3⟩⟩⟩
  have hz' : RLines B (w.alloc (.cells (lnC x) 105)) v zs := World.ownsRow.alloc hz _
  have hs : B ≤ (w.alloc (.cells (lnC x) 105)).heap.size := Nat.le_trans hB b1.size
  obtain ⟨v', w', h1, h2, h3⟩ := rapp_row (c := 1) 44 hz' rfl hr hs (by simp; omega)
  exact ⟨v', w', h1, h2, b1.grown h3 hs (fun j hj => (hz'.lt _ hj).1)⟩

theorem LRow.front {w : World} {g O : Nat} {p r : List Ln} (h : LRow w (some ⟨g, O, none⟩) (p ++ r)) : LRow w (some ⟨g, O, none⟩) p := by
  by_cases hp : p = []
  · exact ⟨Or.inl hp⟩
  rcases h.els with h | ⟨B, O', e, h⟩
  · exact absurd (List.append_eq_nil_iff.1 h).1 hp
  · refine ⟨Or.inr ⟨B, O', e, fun k hk => ?_⟩⟩
    have := h k (by simp; omega)
    rwa [List.getElem_append_left hk] at this
theorem LRow.back {w : World} {g O : Nat} {p r : List Ln} {m : Nat} (hm : p.length = m) (h : LRow w (some ⟨g, O, none⟩) (p ++ r)) : LRow w (some ⟨g, O + m * 4, none⟩) r := by
  subst hm
  by_cases hr : r = []
  · exact ⟨Or.inl hr⟩
  rcases h.els with h | ⟨B, O', e, h⟩
  · exact absurd (List.append_eq_nil_iff.1 h).2 hr
  · cases e
    refine ⟨Or.inr ⟨g, O + p.length * 4, rfl, fun k hk => ?_⟩⟩
    have := h (p.length + k) (by simp; omega)
    rw [List.getElem_append_right (by omega)] at this
    simp only [Nat.add_sub_cancel_left] at this
    have e : O + p.length * 4 + k * 4 = O + (p.length + k) * 4 := by omega
    rw [e]
    exact this

theorem row_drewN {w : World} {base n size : Nat} {e : TypeId} {v : Value} {xs : List Value} (h : w.ownsRow base e size v n xs) (q : Nat) : (w.drewN q).ownsRow base e size v n xs := h

/-- A row that is owned and is not nil. -/
theorem own_rowR {w : World} {B : Nat} {v : Value} {x : List Ln} (h : RLines B w v x) (hne : ¬ v = .slice none 0 0) : ∃ g cap, v = .slice (some ⟨g, 0, none⟩) x.length cap ∧ B ≤ g ∧ g < w.heap.size ∧ x.length ≤ cap ∧ LRow w (some ⟨g, 0, none⟩) x := by
  obtain ⟨a, c, e, hr, hc⟩ := RLines.at h
  rcases h.2 with ⟨e', _⟩ | ⟨g, cap, cur, e', hb, hblk, hcap, hcm, hcs, hcur⟩
  · exact absurd e' hne
  · rw [e'] at e
    cases e
    exact ⟨g, _, e', hb, (Array.getElem?_eq_some_iff.1 hblk).1, hcap, hr⟩

/-! ### The order as a test -/

structure Strict {α : Type} (lt : α → α → Bool) : Prop where
  asym : ∀ x y, lt x y = true → lt y x = false
  ntrans : ∀ x y z, lt y x = false → lt z y = false → lt z x = false

abbrev Srt {α : Type} (lt : α → α → Bool) (l : List α) : Prop := l.Pairwise (fun x y => lt y x = false)

theorem ins_fit {α : Type} {lt : α → α → Bool} (O : Strict lt) {l r : List α} {z : α} (h : Srt lt (l ++ r)) (hz : ∀ q ∈ r, lt z q = true) (hl : l = [] ∨ ∃ l' q, l = l' ++ [q] ∧ lt z q = false) : Srt lt (l ++ z :: r) := by
  have h' := List.pairwise_append.1 h
  refine List.pairwise_append.2 ⟨h'.1, List.pairwise_cons.2 ⟨fun q hq => O.asym _ _ (hz q hq), h'.2.1⟩, ?_⟩
  intro x hx y hy
  rcases List.mem_cons.1 hy with rfl | hy
  · rcases hl with rfl | ⟨l', q, rfl, hq⟩
    · cases hx
    · rcases List.mem_append.1 hx with hx | hx
      · have h1 := (List.pairwise_append.1 h'.1).2.2 x hx q (by simp)
        exact O.ntrans _ _ _ h1 hq
      · simp at hx; subst hx; exact hq
  · exact h'.2.2 x hx y hy

theorem strict_of {α β : Type} {c : β → β → Int} (o : Orders c) (f : α → β) : Strict (fun x y => decide (c (f x) (f y) < 0)) where
  asym := fun x y h => by
    have t := o.turn (f x) (f y)
    simp only [decide_eq_true_eq, decide_eq_false_iff_not] at h ⊢
    omega
  ntrans := fun x y z h1 h2 => by
    simp only [decide_eq_false_iff_not] at h1 h2 ⊢
    intro h3
    have t1 := o.turn (f x) (f y)
    have t2 := o.turn (f y) (f z)
    have t3 := o.turn (f x) (f z)
    by_cases e1 : c (f x) (f y) = 0
    · have := (o.eq (f x) (f y)).1 e1
      rw [this] at t3 h3 t1
      omega
    · by_cases e2 : c (f y) (f z) = 0
      · have := (o.eq (f y) (f z)).1 e2
        rw [this] at t1 t2
        rw [← this] at t3 h3
        omega
      · have := o.lt (f x) (f y) (f z) (by omega) (by omega)
        omega

abbrev ltL (x y : Ln) : Bool := decide (cmpL x y < 0)
theorem strictL : Strict ltL := strict_of orders_k keyL

theorem rising_srt {l : List Ln} (h : Srt ltL l) : Rising l := rising_of (h.imp (fun {a b} h => by simpa using h))

theorem ltL_yes {x y : Ln} (h : ltM (x.p, x.v) (y.p, y.v) = true) : ltL x y = true := by
  simp only [ltL, decide_eq_true_eq] at h ⊢
  unfold cmpL
  rw [or_left (by omega)]
  exact h
theorem ltL_no {x y : Ln} (h : ltM (y.p, y.v) (x.p, x.v) = true) : ltL x y = false := by
  simp only [ltL, decide_eq_true_eq, decide_eq_false_iff_not] at h ⊢
  have t := orders_m.turn (x.p, x.v) (y.p, y.v)
  unfold cmpL
  rw [or_left (by omega)]
  omega
theorem ltL_kind {x y : Ln} (h : ltM (x.p, x.v) (y.p, y.v) = false) (h2 : ltM (y.p, y.v) (x.p, x.v) = false) : ltL x y = decide (x.k < y.k) := by
  simp only [decide_eq_false_iff_not] at h h2
  have t := orders_m.turn (x.p, x.v) (y.p, y.v)
  have h0 : cmpM (x.p, x.v) (y.p, y.v) = 0 := by omega
  show decide (cmpL x y < 0) = _
  unfold cmpL
  rw [h0]
  have : orI 0 (Lib.compareInt x.k y.k) = Lib.compareInt x.k y.k := by simp [orI]
  rw [this]
  unfold Lib.compareInt
  split <;> rename_i h1
  · simp [h1]
  · split <;> simp <;> omega

end Go.Proofs.YthcafeoamabkgaaGreatDoor
