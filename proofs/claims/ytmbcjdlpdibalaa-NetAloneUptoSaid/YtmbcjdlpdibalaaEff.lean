/-
  Answers, and what a fault makes of one: the closures.
-/
import Derived.Test.YtmbcjdlpdibalaaSameB
namespace Go.Proofs.Ytmbcjdlpdibalaa
open Go.RowKit Go.WideMaps Go.Maps

theorem below_trans {a b c : World} (h1 : Below a.heap.size a b) (h2 : Below b.heap.size b c) : Below a.heap.size a c := h1.trans (h2.mono h1.size)
theorem below_via {B : Nat} {a b c : World} (hB : B ≤ b.heap.size) (h1 : Below B a b) (h2 : Below b.heap.size b c) : Below B a c := h1.trans (h2.mono hB)

theorem heap_new (w : World) (o : Obj) : (w.alloc o).heap[w.heap.size]? = some o := by
  show (w.heap.push o)[w.heap.size]? = some o
  simp

theorem heap_set_at {w : World} {b i : Nat} {cs : Array Value} {t : TypeId} {fr : Nat × Nat} (h : w.heap[b]? = some (.cells cs t fr)) (v : Value) :
    (w.setCell ⟨b, i, none⟩ v).heap[b]? = some (.cells (cs.setIfInBounds i v) t fr) := by
  simp only [World.setCell]
  rw [Array.getElem?_modify]
  simp [h]

/-- A block of three cells, all of them laid anew. -/
theorem set_three {w : World} {b : Nat} {x0 x1 x2 : Value} {t : TypeId} (h : w.heap[b]? = some (.cells #[x0, x1, x2] t (0, 0))) (v0 v1 v2 : Value) :
    (((w.setCell ⟨b, 0, none⟩ v0).setCell ⟨b, 1, none⟩ v1).setCell ⟨b, 2, none⟩ v2).heap[b]? = some (.cells #[v0, v1, v2] t (0, 0)) :=
  heap_set_at (heap_set_at (heap_set_at h v0) v1) v2

theorem below_three {B : Nat} {a w : World} {b : Nat} (hb : B ≤ b) (h : Below B a w) (v0 v1 v2 : Value) : Below B a (((w.setCell ⟨b, 0, none⟩ v0).setCell ⟨b, 1, none⟩ v1).setCell ⟨b, 2, none⟩ v2) :=
  ((h.setCell (p := ⟨b, 0, none⟩) hb _).setCell (p := ⟨b, 1, none⟩) hb _).setCell (p := ⟨b, 2, none⟩) hb _

theorem other_three {w : World} {b k : Nat} (hk : k ≠ b) (v0 v1 v2 : Value) : (((w.setCell ⟨b, 0, none⟩ v0).setCell ⟨b, 1, none⟩ v1).setCell ⟨b, 2, none⟩ v2).heap[k]? = w.heap[k]? := by
  rw [Below.heap_setCell _ _ _ _ hk, Below.heap_setCell _ _ _ _ hk, Below.heap_setCell _ _ _ _ hk]

theorem row_same {w w' : World} {base e size n : Nat} {v : Value} {xs : List Value} (h : w.ownsRow base e size v n xs) (hs : ∀ k, v.ownBlock = some k → w'.heap[k]? = w.heap[k]?) : w'.ownsRow base e size v n xs := by
  refine ⟨h.1, ?_⟩
  rcases h.2 with hn | ⟨g, cap, cur, rfl, hb, hgg, rest⟩
  · exact .inl hn
  · exact .inr ⟨g, cap, cur, rfl, hb, (hs g rfl).trans hgg, rest⟩

theorem row_up {w : World} {base base' e size n : Nat} {v : Value} {xs : List Value} (h : w.ownsRow base e size v n xs) (hb : base' ≤ base) : w.ownsRow base' e size v n xs := by
  refine ⟨h.1, ?_⟩
  rcases h.2 with hn | ⟨g, cap, cur, rfl, hg, rest⟩
  · exact .inl hn
  · exact .inr ⟨g, cap, cur, rfl, Nat.le_trans hb hg, rest⟩

/-- Three cells of a block, as the walk wants them. -/
theorem three_cells {w : World} {b : Nat} {x0 x1 x2 : Value} {t : TypeId} (h : w.heap[b]? = some (.cells #[x0, x1, x2] t (0, 0))) :
    (w.cell? ⟨b, 0, none⟩ = some x0 ∧ w.cell? ⟨b, 1, none⟩ = some x1 ∧ w.cell? ⟨b, 2, none⟩ = some x2) ∧ (w.frozen? ⟨b, 0, none⟩ = false ∧ w.frozen? ⟨b, 1, none⟩ = false ∧ w.frozen? ⟨b, 2, none⟩ = false) :=
  ⟨⟨Lib.cell_of_heap h 0, Lib.cell_of_heap h 1, Lib.cell_of_heap h 2⟩, Lib.frozen_of_heap h 0, Lib.frozen_of_heap h 1, Lib.frozen_of_heap h 2⟩

abbrev zero34 : Obj := .cells #[.int .i64 0, .slice none 0 0, .int .i64 0] 34

/-- An answer. -/
structure Ans where
  st : Int
  data : List UInt8
  tk : Int

/-- A value is this answer; its bytes are its own. -/
def AnsAt (base : Nat) (w : World) (v : Value) (x : Ans) : Prop :=
  ∃ a c, v = .agg #[.int .i64 x.st, .slice a x.data.length c, .int .i64 x.tk] ∧ w.ownsRow base 5 1 (.slice a x.data.length c) x.data.length (bytesV x.data) ∧ x.data.length ≤ 1099511627776

theorem bare_any (st : Int) (w : World) : Calls Try.prog 44 #[.int .i64 st] w fun e w' => e = .returned (.agg #[.int .i64 st, .slice none 0 0, .int .i64 1]) ∧ Below w.heap.size w w' := by
  go_enter Try.func44, Try.ntmps44
  go_wp2
  exact bodyPost_ret (v := .agg #[.int .i64 st, .slice none 0 0, .int .i64 1]) (by simp [results, Try.results44, go_sem]) rfl ⟨rfl, (Below.refl _ _).alloc (Nat.le_refl _) _⟩

theorem whole_any {w : World} {a : Option Addr} {n : Nat} {l : List UInt8} (c : Nat) (h : Bytes w a n l) (hbig : n ≤ 140737488355328) :
    Calls Try.prog 45 #[.slice a n c] w fun e w' => ∃ a' c', e = .returned (.agg #[.int .i64 200, .slice a' n c', .int .i64 1]) ∧ w'.ownsRow w.heap.size 5 1 (.slice a' n c') n (bytesV l) ∧ Below w.heap.size w w' := by
  have HC := hide (clone_any c (bytes_below h ((Below.refl w.heap.size w).alloc (Nat.le_refl _) (.cells #[.int .i64 0, .slice none 0 0, .int .i64 0] 34))) hbig)
  go_enter Try.func45, Try.ntmps45
  go_wp2_with (go_at_call 39; fail)
  refine (unhide HC).mono ?_
  rintro e w2 ⟨a', c', rfl, hown, b2⟩
  have hblk : w2.heap[w.heap.size]? = some (.cells #[.int .i64 0, .slice none 0 0, .int .i64 0] 34 (0, 0)) := (b2.block w.heap.size (by show w.heap.size < (w.heap.push _).size; simp)).trans (heap_new w _)
  obtain ⟨⟨c0, c1, c2⟩, f0, f1, f2⟩ := three_cells hblk
  have H3 := hide (set_three hblk (.int .i64 200) (.slice a' n c') (.int .i64 1))
  have HB := hide (below_three (Nat.le_refl _) (below_trans ((Below.refl w.heap.size w).alloc (Nat.le_refl _) zero34) b2) (.int .i64 200) (.slice a' n c') (.int .i64 1))
  have HO : Hid ((((w2.setCell ⟨w.heap.size, 0, none⟩ (.int .i64 200)).setCell ⟨w.heap.size, 1, none⟩ (.slice a' n c')).setCell ⟨w.heap.size, 2, none⟩ (.int .i64 1)).ownsRow w.heap.size 5 1 (.slice a' n c') n (bytesV l)) := by
    refine row_up (row_same hown (fun k hk => other_three (fun e => ?_) _ _ _)) (by show w.heap.size ≤ (w.heap.push _).size; simp)
    have := (hown.lt k hk).1
    have e2 : (w.alloc zero34).heap.size = w.heap.size + 1 := by show (w.heap.push _).size = _; simp
    rw [e2] at this
    omega
  clear hown b2 hblk HC
  go_wp2
  obtain ⟨w3, hw3⟩ : ∃ w3, ((w2.setCell ⟨w.heap.size, 0, none⟩ (.int .i64 200)).setCell ⟨w.heap.size, 1, none⟩ (.slice a' n c')).setCell ⟨w.heap.size, 2, none⟩ (.int .i64 1) = w3 := ⟨_, rfl⟩
  rw [hw3] at H3 HB HO ⊢
  obtain ⟨⟨d0, d1, d2⟩, _⟩ := three_cells (unhide H3)
  exact bodyPost_ret (v := .agg #[.int .i64 200, .slice a' n c', .int .i64 1]) (by simp [results, Try.results45, go_sem, d0, d1, d2]) rfl ⟨a', c', rfl, unhide HO, unhide HB⟩

/-- The world in which a closure's parameter is boxed and its result has a block. -/
abbrev two34 (w : World) (x0 x1 x2 : Value) : World := (w.alloc (.cells #[x0, x1, x2] 34)).alloc zero34
theorem two_size (w : World) (x0 x1 x2 : Value) : (two34 w x0 x1 x2).heap.size = w.heap.size + 2 := by
  show ((w.heap.push _).push _).size = _
  simp
theorem two_below (w : World) (x0 x1 x2 : Value) : Below w.heap.size w (two34 w x0 x1 x2) := ((Below.refl _ _).alloc (Nat.le_refl _) _).alloc (by simp) _
theorem two_box (w : World) (x0 x1 x2 : Value) : (two34 w x0 x1 x2).heap[w.heap.size]? = some (.cells #[x0, x1, x2] 34 (0, 0)) := by
  show ((w.heap.push _).push _)[w.heap.size]? = _
  rw [Array.getElem?_push_lt (by simp)]
  simp
theorem two_res (w : World) (x0 x1 x2 : Value) : (two34 w x0 x1 x2).heap[w.heap.size + 1]? = some (.cells #[.int .i64 0, .slice none 0 0, .int .i64 0] 34 (0, 0)) := by
  have : (w.alloc (.cells #[x0, x1, x2] 34)).heap.size = w.heap.size + 1 := by show (w.heap.push _).size = _; simp
  rw [← this]
  exact heap_new _ _

/-- What is known behind the store into the result's block. -/
theorem res_done {B b : Nat} {a w : World} {x0 x1 x2 : Value} (hblk : w.heap[b]? = some (.cells #[x0, x1, x2] 34 (0, 0))) (hb : B ≤ b) (h : Below B a w) (v0 v1 v2 : Value) :
    ∀ w3, (((w.setCell ⟨b, 0, none⟩ v0).setCell ⟨b, 1, none⟩ v1).setCell ⟨b, 2, none⟩ v2) = w3 → (w3.cell? ⟨b, 0, none⟩ = some v0 ∧ w3.cell? ⟨b, 1, none⟩ = some v1 ∧ w3.cell? ⟨b, 2, none⟩ = some v2) ∧ Below B a w3 ∧ ∀ k, k ≠ b → w3.heap[k]? = w.heap[k]? := by
  intro w3 e
  subst e
  exact ⟨(three_cells (set_three hblk v0 v1 v2)).1, below_three hb h _ _ _, fun k hk => other_three hk _ _ _⟩

theorem eff67 {w : World} {b : Nat} {st : Int} {x0 x1 x2 : Value} (hc : w.cell? ⟨b, 0, none⟩ = some (.int .i64 st)) :
    Calls Try.prog 67 #[.agg #[x0, x1, x2], .pointer (some ⟨b, 0, none⟩)] w fun e w' => e = .returned (.agg #[.int .i64 st, .slice none 0 0, .int .i64 1]) ∧ Below w.heap.size w w' := by
  have hb := lt_of_cell hc
  have c1 : (two34 w x0 x1 x2).cell? ⟨b, 0, none⟩ = some (.int .i64 st) := ((two_below w x0 x1 x2).cell (p := ⟨b, 0, none⟩) hb).trans hc
  go_enter Try.func67, Try.ntmps67
  go_wp2_with (go_at_call 44; fail)
  refine (bare_any st (two34 w x0 x1 x2)).mono ?_
  rintro e w2 ⟨rfl, b2⟩
  have hblk : w2.heap[w.heap.size + 1]? = some (.cells #[.int .i64 0, .slice none 0 0, .int .i64 0] 34 (0, 0)) := (b2.block (w.heap.size + 1) (by rw [two_size]; omega)).trans (two_res w x0 x1 x2)
  obtain ⟨⟨d0, d1, d2⟩, f0, f1, f2⟩ := three_cells hblk
  have HD := hide (res_done hblk (B := w.heap.size) (a := w) (by omega) (below_trans (two_below w x0 x1 x2) b2) (.int .i64 st) (.slice none 0 0) (.int .i64 1))
  clear hblk b2 c1
  go_wp2
  obtain ⟨⟨e0, e1, e2⟩, hB, _⟩ := (unhide HD) _ rfl
  exact bodyPost_ret (v := .agg #[.int .i64 st, .slice none 0 0, .int .i64 1]) (by simp [results, Try.results67, go_sem, e0, e1, e2]) rfl ⟨rfl, hB⟩

theorem eff70 {w : World} {b : Nat} {a : Option Addr} {n c : Nat} {l : List UInt8} {x0 x1 x2 : Value} (hc : w.cell? ⟨b, 0, none⟩ = some (.slice a n c)) (hl : Bytes w a n l) (hbig : n ≤ 140737488355328) :
    Calls Try.prog 70 #[.agg #[x0, x1, x2], .pointer (some ⟨b, 0, none⟩)] w fun e w' => ∃ a' c', e = .returned (.agg #[.int .i64 200, .slice a' n c', .int .i64 1]) ∧ w'.ownsRow w.heap.size 5 1 (.slice a' n c') n (bytesV l) ∧ Below w.heap.size w w' := by
  have hb := lt_of_cell hc
  have c1 : (two34 w x0 x1 x2).cell? ⟨b, 0, none⟩ = some (.slice a n c) := ((two_below w x0 x1 x2).cell (p := ⟨b, 0, none⟩) hb).trans hc
  have HW := hide (whole_any c (bytes_below hl (two_below w x0 x1 x2)) hbig)
  go_enter Try.func70, Try.ntmps70
  go_wp2_with (go_at_call 45; fail)
  refine (unhide HW).mono ?_
  rintro e w2 ⟨a', c', rfl, hown, b2⟩
  have hblk : w2.heap[w.heap.size + 1]? = some (.cells #[.int .i64 0, .slice none 0 0, .int .i64 0] 34 (0, 0)) := (b2.block (w.heap.size + 1) (by rw [two_size]; omega)).trans (two_res w x0 x1 x2)
  obtain ⟨⟨d0, d1, d2⟩, f0, f1, f2⟩ := three_cells hblk
  have HD := hide (res_done hblk (B := w.heap.size) (a := w) (by omega) (below_trans (two_below w x0 x1 x2) b2) (.int .i64 200) (.slice a' n c') (.int .i64 1))
  have HO := hide hown
  clear hblk b2 c1 HW hown
  go_wp2
  obtain ⟨⟨e0, e1, e2⟩, hB, hK⟩ := (unhide HD) _ rfl
  exact bodyPost_ret (v := .agg #[.int .i64 200, .slice a' n c', .int .i64 1]) (by simp [results, Try.results70, go_sem, e0, e1, e2]) rfl
    ⟨a', c', rfl, row_up (row_same (unhide HO) (fun k hk => hK k (fun e => by have := ((unhide HO).lt k hk).1; rw [two_size] at this; omega))) (by rw [two_size]; omega), hB⟩

theorem eff71 {w : World} {b : Nat} {m st tk : Int} {a : Option Addr} {n c : Nat} (hc : w.cell? ⟨b, 0, none⟩ = some (.int .i64 m)) :
    Calls Try.prog 71 #[.agg #[.int .i64 st, .slice a n c, .int .i64 tk], .pointer (some ⟨b, 0, none⟩)] w fun e w' => e = .returned (.agg #[.int .i64 st, .slice a n c, .int .i64 m]) ∧ Below w.heap.size w w' := by
  have hb := lt_of_cell hc
  have c1 : (two34 w (.int .i64 st) (.slice a n c) (.int .i64 tk)).cell? ⟨b, 0, none⟩ = some (.int .i64 m) := ((two_below w _ _ _).cell (p := ⟨b, 0, none⟩) hb).trans hc
  go_enter Try.func71, Try.ntmps71
  go_wp2
  exact bodyPost_ret (v := .agg #[.int .i64 st, .slice a n c, .int .i64 m]) (by simp [results, Try.results71, go_sem]) rfl ⟨rfl, ((Below.refl _ _).alloc (Nat.le_refl _) _).alloc (by simp) _⟩

theorem bytes_cut {w : World} {a : Option Addr} {n k : Nat} {l : List UInt8} (h : Bytes w a n l) (hk : k ≤ n) : Bytes w a k (l.take k) := by
  have := h.len
  refine ⟨by simp; omega, fun ha => by have := h.nil ha; omega, fun ad ha i hi => ?_⟩
  rw [h.cell ad ha i (by omega)]
  have e : (l.take k).getD i 0 = l.getD i 0 := by simp [List.getD, hi]
  rw [e]

theorem eff68 {w : World} {b : Nat} {m st tk : Int} {a : Option Addr} {n c k : Nat} {l : List UInt8} (hc : w.cell? ⟨b, 0, none⟩ = some (.int .i64 m)) (hl : Bytes w a n l) (hbig : n ≤ 1099511627776) (hnc : n ≤ c) (hcn : a = none → c = 0) (hk : min m (n : Int) = (k : Int)) (hkn : k ≤ n) :
    Calls Try.prog 68 #[.agg #[.int .i64 st, .slice a n c, .int .i64 tk], .pointer (some ⟨b, 0, none⟩)] w fun e w' => ∃ a' c', e = .returned (.agg #[.int .i64 200, .slice a' k c', .int .i64 1]) ∧ w'.ownsRow w.heap.size 5 1 (.slice a' k c') k (bytesV (l.take k)) ∧ Below w.heap.size w w' := by
  have hb := lt_of_cell hc
  have c1 : (two34 w (.int .i64 st) (.slice a n c) (.int .i64 tk)).cell? ⟨b, 0, none⟩ = some (.int .i64 m) := ((two_below w _ _ _).cell (p := ⟨b, 0, none⟩) hb).trans hc
  have HW : Hid (∀ c', Calls Try.prog 45 #[.slice a k c'] (two34 w (.int .i64 st) (.slice a n c) (.int .i64 tk)) fun e w' => ∃ a' c', e = .returned (.agg #[.int .i64 200, .slice a' k c', .int .i64 1]) ∧ w'.ownsRow (two34 w (.int .i64 st) (.slice a n c) (.int .i64 tk)).heap.size 5 1 (.slice a' k c') k (bytesV (l.take k)) ∧ Below (two34 w (.int .i64 st) (.slice a n c) (.int .i64 tk)).heap.size (two34 w (.int .i64 st) (.slice a n c) (.int .i64 tk)) w') :=
    fun c' => whole_any c' (bytes_cut (bytes_below hl (two_below w _ _ _)) hkn) (by omega)
  have hkc : k ≤ c := by omega
  have hk0 : (0 : Int) ≤ (k : Int) := by omega
  cases a with
  | none =>
    obtain rfl : n = 0 := hl.nil rfl
    obtain rfl : c = 0 := hcn rfl
    obtain rfl : k = 0 := by omega
    have hz : min m (0 : Int) = 0 := by simpa using hk
    clear hl hk
    go_enter Try.func68, Try.ntmps68
    go_wp2_with (go_at_call 45; fail)
    refine ((unhide HW) _).mono ?_
    rintro e w2 ⟨a', c', rfl, hown, b2⟩
    have hblk : w2.heap[w.heap.size + 1]? = some (.cells #[.int .i64 0, .slice none 0 0, .int .i64 0] 34 (0, 0)) := (b2.block (w.heap.size + 1) (by rw [two_size]; omega)).trans (two_res w _ _ _)
    obtain ⟨⟨d0, d1, d2⟩, f0, f1, f2⟩ := three_cells hblk
    have HD := hide (res_done hblk (B := w.heap.size) (a := w) (by omega) (below_trans (two_below w _ _ _) b2) (.int .i64 200) (.slice a' 0 c') (.int .i64 1))
    have HO := hide hown
    clear hblk b2 c1 HW hown
    go_wp2
    obtain ⟨⟨e0, e1, e2⟩, hB, hK⟩ := (unhide HD) _ rfl
    exact bodyPost_ret (v := .agg #[.int .i64 200, .slice a' 0 c', .int .i64 1]) (by simp [results, Try.results68, go_sem, e0, e1, e2]) rfl
      ⟨a', c', rfl, row_up (row_same (unhide HO) (fun k hk => hK k (fun e => by have := ((unhide HO).lt k hk).1; rw [two_size] at this; omega))) (by rw [two_size]; omega), hB⟩
  | some ad =>
    clear hl
    go_enter Try.func68, Try.ntmps68
    go_wp2_with (go_at_call 45; fail)
    refine ((unhide HW) _).mono ?_
    rintro e w2 ⟨a', c', rfl, hown, b2⟩
    have hblk : w2.heap[w.heap.size + 1]? = some (.cells #[.int .i64 0, .slice none 0 0, .int .i64 0] 34 (0, 0)) := (b2.block (w.heap.size + 1) (by rw [two_size]; omega)).trans (two_res w _ _ _)
    obtain ⟨⟨d0, d1, d2⟩, f0, f1, f2⟩ := three_cells hblk
    have HD := hide (res_done hblk (B := w.heap.size) (a := w) (by omega) (below_trans (two_below w _ _ _) b2) (.int .i64 200) (.slice a' k c') (.int .i64 1))
    have HO := hide hown
    clear hblk b2 c1 HW hown
    go_wp2
    obtain ⟨⟨e0, e1, e2⟩, hB, hK⟩ := (unhide HD) _ rfl
    exact bodyPost_ret (v := .agg #[.int .i64 200, .slice a' k c', .int .i64 1]) (by simp [results, Try.results68, go_sem, e0, e1, e2]) rfl
      ⟨a', c', rfl, row_up (row_same (unhide HO) (fun k hk => hK k (fun e => by have := ((unhide HO).lt k hk).1; rw [two_size] at this; omega))) (by rw [two_size]; omega), hB⟩

theorem grown_drew {w w' : World} {r : Option Nat} (h : w.grownBy w' r) : w.grownBy w'.drew r := ⟨h.os, h.tape, h.output, h.size, h.block⟩
theorem grown_of_below {w w' : World} (h : Below w.heap.size w w') (r : Option Nat) : w.grownBy w' r := ⟨h.os, h.tape, h.output, h.size, fun k hk _ => h.block k hk⟩

/-- A bit of a byte turned. -/
def flipB (y : UInt8) (r : Nat) : UInt8 := UInt8.ofNat (bits .xor .u8 (y.toNat : Int) (2 ^ r % 256)).toNat
theorem flip_all : ∀ y : Fin 256, ∀ r : Fin 8, 0 ≤ bits .xor .u8 ((y.val : Nat) : Int) (2 ^ r.val % 256) ∧ bits .xor .u8 ((y.val : Nat) : Int) (2 ^ r.val % 256) < 256 := by decide +kernel
theorem flipB_val (y : UInt8) {r : Nat} (hr : r < 8) : bits .xor .u8 (y.toNat : Int) (2 ^ r % 256) = ((flipB y r).toNat : Int) := by
  have h := flip_all ⟨y.toNat, y.toNat_lt⟩ ⟨r, hr⟩
  simp only at h
  unfold flipB
  rw [UInt8.toNat_ofNat']
  omega
/-- A bit turned. -/
def flipL (l : List UInt8) (m : Nat) : List UInt8 := if m / 8 < l.length then l.set (m / 8) (flipB (l.getD (m / 8) 0) (m % 8)) else l

theorem row_at {w : World} {base g n c q : Nat} {l : List UInt8} (h : w.ownsRow base 5 1 (.slice (some ⟨g, 0, none⟩) n c) n (bytesV l)) (hq : q < n) : w.cell? ⟨g, q, none⟩ = some (.int .u8 ((l.getD q 0).toNat : Int)) ∧ w.frozen? ⟨g, q, none⟩ = false := by
  have hn : l.length = n := by have := h.1; simpa [bytesV] using this
  rcases h.2 with ⟨e, _⟩ | ⟨g', cap, cur, e, hb, hblk, hcap, hcm, hcs, hcur⟩
  · cases e
  · cases e
    refine ⟨?_, Lib.frozen_of_heap hblk q⟩
    rw [Lib.cell_of_heap hblk]
    have h1 : cur.toList[q]? = (bytesV l)[q]? := by rw [← hcur, List.getElem?_take_of_lt (by omega)]
    have h2 : cur[q]? = cur.toList[q]? := by simp
    have hql : q < l.length := by omega
    rw [h2, h1]
    simp [bytesV, hql, List.getD]

theorem row_set {w : World} {base g n c q : Nat} {l : List UInt8} (h : w.ownsRow base 5 1 (.slice (some ⟨g, 0, none⟩) n c) n (bytesV l)) (_hq : q < n) (z : UInt8) :
    (w.setCell ⟨g, q, none⟩ (.int .u8 (z.toNat : Int))).ownsRow base 5 1 (.slice (some ⟨g, 0, none⟩) n c) n (bytesV (l.set q z)) := by
  have hn : l.length = n := by have := h.1; simpa [bytesV] using this
  rcases h.2 with ⟨e, _⟩ | ⟨g', cap, cur, e, hb, hblk, hcap, hcm, hcs, hcur⟩
  · cases e
  · cases e
    refine ⟨by simp [bytesV, hn], Or.inr ⟨g, c, _, rfl, hb, heap_set_at hblk _, hcap, hcm, by simp [hcs], ?_⟩⟩
    rw [Array.toList_setIfInBounds, List.take_set, hcur]
    simp [bytesV, List.map_set]

theorem eff69_far {w : World} {b : Nat} {st tk : Int} {m : Nat} {a : Option Addr} {n c : Nat} (hc : w.cell? ⟨b, 0, none⟩ = some (.int .i64 (m : Int))) (hm : ¬ m / 8 < n) (hms : m ≤ 9223372036854775807) :
    Calls Try.prog 69 #[.agg #[.int .i64 st, .slice a n c, .int .i64 tk], .pointer (some ⟨b, 0, none⟩)] w fun e w' => e = .returned (.agg #[.int .i64 st, .slice a n c, .int .i64 tk]) ∧ Below w.heap.size w w' := by
  have hb := lt_of_cell hc
  have c1 : (two34 w (.int .i64 st) (.slice a n c) (.int .i64 tk)).cell? ⟨b, 0, none⟩ = some (.int .i64 (m : Int)) := ((two_below w _ _ _).cell (p := ⟨b, 0, none⟩) hb).trans hc
  have hq : (m : Int).tdiv 8 = ((m / 8 : Nat) : Int) := (Int.ofNat_tdiv m 8).symm
  obtain ⟨q, hq2⟩ : ∃ q, m / 8 = q := ⟨_, rfl⟩
  rw [hq2] at hq hm
  have hqb : q ≤ 1152921504606846976 := by omega
  have hq3 : ¬ (q : Int) < (n : Int) := by omega
  clear hq2
  go_enter Try.func69, Try.ntmps69
  go_wp2
  exact bodyPost_ret (v := .agg #[.int .i64 st, .slice a n c, .int .i64 tk]) (by simp [results, Try.results69, go_sem]) rfl ⟨rfl, ((Below.refl _ _).alloc (Nat.le_refl _) _).alloc (by simp) _⟩

set_option maxHeartbeats 1000000 in
theorem eff69_near {w : World} {b base g : Nat} {st tk : Int} {m n c q r : Nat} {y : UInt8} {l : List UInt8} (hc : w.cell? ⟨b, 0, none⟩ = some (.int .i64 (m : Int))) (hr : w.ownsRow base 5 1 (.slice (some ⟨g, 0, none⟩) n c) n (bytesV l)) (hq : m / 8 = q) (hr8 : m % 8 = r) (hqn : q < n) (_hms : m ≤ 9223372036854775807) (hy : l.getD q 0 = y) (hnb : n ≤ 1099511627776) :
    Calls Try.prog 69 #[.agg #[.int .i64 st, .slice (some ⟨g, 0, none⟩) n c, .int .i64 tk], .pointer (some ⟨b, 0, none⟩)] w fun e w' => e = .returned (.agg #[.int .i64 st, .slice (some ⟨g, 0, none⟩) n c, .int .i64 tk]) ∧ w'.ownsRow base 5 1 (.slice (some ⟨g, 0, none⟩) n c) n (bytesV (l.set q (flipB y r))) ∧ w.grownBy w' (some g) := by
  have hb := lt_of_cell hc
  have c1 : (two34 w (.int .i64 st) (.slice (some ⟨g, 0, none⟩) n c) (.int .i64 tk)).cell? ⟨b, 0, none⟩ = some (.int .i64 (m : Int)) := ((two_below w _ _ _).cell (p := ⟨b, 0, none⟩) hb).trans hc
  have cy : w.cell? ⟨g, q, none⟩ = some (.int .u8 (y.toNat : Int)) := by rw [← hy]; exact (row_at hr hqn).1
  have fy : w.frozen? ⟨g, q, none⟩ = false := (row_at hr hqn).2
  have hg := lt_of_cell cy
  have cy2 : (two34 w (.int .i64 st) (.slice (some ⟨g, 0, none⟩) n c) (.int .i64 tk)).cell? ⟨g, q, none⟩ = some (.int .u8 (y.toNat : Int)) := ((two_below w _ _ _).cell (p := ⟨g, q, none⟩) hg).trans cy
  have fy2 : (two34 w (.int .i64 st) (.slice (some ⟨g, 0, none⟩) n c) (.int .i64 tk)).frozen? ⟨g, q, none⟩ = false := ((two_below w _ _ _).frozen (p := ⟨g, q, none⟩) hg).trans fy
  have hq1 : (m : Int).tdiv 8 = (q : Int) := by rw [← hq]; exact (Int.ofNat_tdiv m 8).symm
  have hr1 : (m : Int).tmod 8 = (r : Int) := by rw [← hr8]; exact (Int.ofNat_tmod m 8).symm
  have hq3 : (q : Int) < (n : Int) := by omega
  have hr7 : r < 8 := by omega
  have HR := hide (row_set hr hqn (flipB y r))
  have HB : Hid (w.grownBy (w.setCell ⟨g, q, none⟩ (.int .u8 ((flipB y r).toNat : Int))) (some g)) := ⟨rfl, rfl, rfl, by simp [World.setCell], fun k _ hk => Below.heap_setCell _ _ _ k (fun e => hk (by rw [e]))⟩
  have hz := flipB_val y hr7
  clear hr hq hr8 hy
  go_enter Try.func69, Try.ntmps69
  go_wp2
  go_region
  obtain ⟨w2, hw2⟩ : ∃ w2, w.setCell ⟨g, q, none⟩ (.int .u8 ((flipB y r).toNat : Int)) = w2 := ⟨_, rfl⟩
  have hsz : w2.heap.size = w.heap.size := by rw [← hw2]; simp [World.setCell]
  rw [hw2] at HR HB ⊢
  rw [← hsz]
  clear hw2 hz c1 cy cy2 fy fy2 hc
  go_wp2
  exact bodyPost_ret (v := .agg #[.int .i64 st, .slice (some ⟨g, 0, none⟩) n c, .int .i64 tk]) (by simp [results, Try.results69, go_sem]) rfl ⟨rfl, (((unhide HR).alloc _).alloc _).drew, grown_drew (((unhide HB).trans (World.grownBy_alloc _ _ _)).trans (World.grownBy_alloc _ _ _))⟩

end Go.Proofs.Ytmbcjdlpdibalaa
