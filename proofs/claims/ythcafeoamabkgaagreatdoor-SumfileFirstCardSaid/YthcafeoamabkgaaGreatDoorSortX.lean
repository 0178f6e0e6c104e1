/-
  sorted and Parse at every text.
-/
import Derived.Test.YthcafeoamabkgaaGreatDoorLess
import Derived.Test.YthcafeoamabkgaaGreatDoorReadX
import Derived.Deep.RegionHeld3
import Derived.Test.YthcafeoamabkgaaGreatDoorSortZ
import Derived.Shelf.SlSortCmp.WholeK
import Derived.Test.YthcafeoamabkgaaGreatDoorFrsX
namespace Go.Proofs.YthcafeoamabkgaaGreatDoor
open Go.RowKit

set_option maxRecDepth 100000 in
set_option maxHeartbeats 1000000 in
theorem compareMods_any {p q : Md} {w : World} (hg : Gd w) : Gives 94 #[modV p, modV q] w (.int .i64 (cmpM p q)) := by
  unfold Gives
  obtain ⟨r, hr⟩ : ∃ r, ltM p q = r := ⟨_, rfl⟩
  have HL := hide (fun w (hg : Gd w) => less_any (p := p) (q := q) hg)
  rw [hr] at HL
  obtain ⟨n, hn⟩ : ∃ n, cmpM p q = n := ⟨_, rfl⟩
  have h3 := orders_m.three p q
  have h0 := orders_m.eq p q
  have hrn : r = decide (n < 0) := by rw [← hr, ← hn]
  rw [hn] at h3 h0 ⊢
  clear hr hn
  obtain ⟨p1, p2⟩ := p
  obtain ⟨q1, q2⟩ := q
  have b2 : Bel w.heap.size w ((w.alloc (.cells #[.string (ba p1), .string (ba p2)] 36)).alloc (.cells #[.string (ba q1), .string (ba q2)] 36)) := ((Bel.refl _ _).alloc (Nat.le_refl _) _).alloc (by simp) _
  have HB := hide b2
  have HG := hide hg
  clear b2 hg
  by_cases e : p1 = q1 ∧ p2 = q2
  · obtain ⟨rfl, rfl⟩ := e
    have hn : n = 0 := h0.2 rfl
    subst hn
    clear h3 h0 hrn HL
    go_enter Tryz.func94, Tryz.ntmps94
    go_wp2
    go_ret
    exact ⟨rfl, unhide HB⟩
  · have hn0 : ¬ n = 0 := fun h => e (by have := h0.1 h; simpa using this)
    have hf : (∃ h : ¬ p1 = q1, True) ∨ (p1 = q1 ∧ ¬ p2 = q2) := by
      by_cases e1 : p1 = q1
      · exact Or.inr ⟨e1, fun e2 => e ⟨e1, e2⟩⟩
      · exact Or.inl ⟨e1, trivial⟩
    clear h0 e
    rcases h3 with h | h | h
    · have hr : r = true := by rw [hrn, h]; rfl
      subst hr h
      clear hrn hn0
      rcases hf with ⟨e1, _⟩ | ⟨e1, e2⟩
      · have x1 : ((ba p1).toList == (ba q1).toList) = false := by rw [ba_list, ba_list]; simpa using e1
        clear e1
        go_enter Tryz.func94, Tryz.ntmps94
        go_wp2_with (go_at_call 139; fail)
        refine ((unhide HL) _ ((unhide HG).below (unhide HB))).mono ?_
        rintro e w1 ⟨rfl, b1⟩
        have HB1 := hide (below_trans (unhide HB) b1)
        clear b1
        go_wp2
        go_ret
        exact ⟨rfl, unhide HB1⟩
      · have x1 : ((ba p2).toList == (ba q2).toList) = false := by rw [ba_list, ba_list]; simpa using e2
        subst e1
        clear e2
        go_enter Tryz.func94, Tryz.ntmps94
        go_wp2_with (go_at_call 139; fail)
        refine ((unhide HL) _ ((unhide HG).below (unhide HB))).mono ?_
        rintro e w1 ⟨rfl, b1⟩
        have HB1 := hide (below_trans (unhide HB) b1)
        clear b1
        go_wp2
        go_ret
        exact ⟨rfl, unhide HB1⟩
    · exact absurd h hn0
    · have hr : r = false := by rw [hrn, h]; rfl
      subst hr h
      clear hrn hn0
      rcases hf with ⟨e1, _⟩ | ⟨e1, e2⟩
      · have x1 : ((ba p1).toList == (ba q1).toList) = false := by rw [ba_list, ba_list]; simpa using e1
        clear e1
        go_enter Tryz.func94, Tryz.ntmps94
        go_wp2_with (go_at_call 139; fail)
        refine ((unhide HL) _ ((unhide HG).below (unhide HB))).mono ?_
        rintro e w1 ⟨rfl, b1⟩
        have HB1 := hide (below_trans (unhide HB) b1)
        clear b1
        go_wp2
        go_ret
        exact ⟨rfl, unhide HB1⟩
      · have x1 : ((ba p2).toList == (ba q2).toList) = false := by rw [ba_list, ba_list]; simpa using e2
        subst e1
        clear e2
        go_enter Tryz.func94, Tryz.ntmps94
        go_wp2_with (go_at_call 139; fail)
        refine ((unhide HL) _ ((unhide HG).below (unhide HB))).mono ?_
        rintro e w1 ⟨rfl, b1⟩
        have HB1 := hide (below_trans (unhide HB) b1)
        clear b1
        go_wp2
        go_ret
        exact ⟨rfl, unhide HB1⟩

/-- The order of lines. -/
def cmpL (x y : Ln) : Int := orI (cmpM (x.p, x.v) (y.p, y.v)) (Lib.compareInt x.k y.k)

set_option maxRecDepth 100000 in
set_option maxHeartbeats 4000000 in
theorem compareLines_any {x y : Ln} {w : World} (hg : Gd w) : Gives 48 #[lnV x, lnV y] w (.int .i64 (cmpL x y)) := by
  unfold Gives cmpL
  obtain ⟨p, v, k, s⟩ := x
  obtain ⟨p', v', k', s'⟩ := y
  simp only
  obtain ⟨n, hn⟩ : ∃ n, cmpM (p, v) (p', v') = n := ⟨_, rfl⟩
  obtain ⟨m, hm⟩ : ∃ m, Lib.compareInt k k' = m := ⟨_, rfl⟩
  rw [hn, hm]
  have HNN := hide hn
  have HMM := hide hm
  clear hn hm
  go_enter Tryz.func48, Tryz.ntmps48
  go_wp2_with fail
  obtain ⟨w2, hw2⟩ : ∃ w2, w2 = (w.alloc (.cells #[.string (ba p), .string (ba v), .int .i64 k, .string (ba s)] 38)).alloc (.cells #[.string (ba p'), .string (ba v'), .int .i64 k', .string (ba s')] 38) := ⟨_, rfl⟩
  rw [← hw2]
  have kx : Blk w2 w.heap.size #[.string (ba p), .string (ba v), .int .i64 k, .string (ba s)] 38 := by rw [hw2]; exact (Blk.new w _ 38).alloc _
  have ky : Blk w2 (w.heap.size + 1) #[.string (ba p'), .string (ba v'), .int .i64 k', .string (ba s')] 38 := by
    rw [hw2]
    have := Blk.new (w.alloc (.cells #[.string (ba p), .string (ba v), .int .i64 k, .string (ba s)] 38)) #[.string (ba p'), .string (ba v'), .int .i64 k', .string (ba s')] 38
    have e : (w.alloc (.cells #[.string (ba p), .string (ba v), .int .i64 k, .string (ba s)] 38)).heap.size = w.heap.size + 1 := by simp
    rw [e] at this
    exact this
  have b2 : Bel w.heap.size w w2 := by rw [hw2]; exact ((Bel.refl _ _).alloc (Nat.le_refl _) _).alloc (by simp) _
  have c0 : w2.cell? ⟨w.heap.size, 0, none⟩ = some (.string (ba p)) := kx.cell 0
  have c1 : w2.cell? ⟨w.heap.size, 1, none⟩ = some (.string (ba v)) := kx.cell 1
  have c2 : w2.cell? ⟨w.heap.size, 2, none⟩ = some (.int .i64 k) := kx.cell 2
  have d0 : w2.cell? ⟨w.heap.size + 1, 0, none⟩ = some (.string (ba p')) := ky.cell 0
  have d1 : w2.cell? ⟨w.heap.size + 1, 1, none⟩ = some (.string (ba v')) := ky.cell 1
  have d2 : w2.cell? ⟨w.heap.size + 1, 2, none⟩ = some (.int .i64 k') := ky.cell 2
  have H95 : Hid (∀ W : World, Calls Tryz.prog 95 #[.int .i64 k, .int .i64 k'] W fun e w' => e = .returned (.int .i64 m) ∧ w' = W) := by
    intro W
    rw [← unhide HMM]
    exact Tryz.cmp_Compare_int k k' W
  have H94 : Hid (∀ W : World, W.heap = w2.heap → W.os = w2.os → W.tape = w2.tape → W.output = w2.output → w2.drawn ≤ W.drawn → Calls Tryz.prog 94 #[.agg #[.string (ba p), .string (ba v)], .agg #[.string (ba p'), .string (ba v')]] W fun e w4 => e = .returned (.int .i64 n) ∧ Bel w.heap.size w w4 ∧ w4.cell? ⟨w.heap.size, 0, none⟩ = some (.string (ba p)) ∧ w4.cell? ⟨w.heap.size, 1, none⟩ = some (.string (ba v)) ∧ w4.cell? ⟨w.heap.size, 2, none⟩ = some (.int .i64 k) ∧ w4.cell? ⟨w.heap.size + 1, 0, none⟩ = some (.string (ba p')) ∧ w4.cell? ⟨w.heap.size + 1, 1, none⟩ = some (.string (ba v')) ∧ w4.cell? ⟨w.heap.size + 1, 2, none⟩ = some (.int .i64 k')) := by
    intro W e1 e2 e3 e4 e5
    have hbW : Bel w.heap.size w W := ⟨e2.trans b2.os, e3.trans b2.tape, e4.trans b2.output, by rw [e1]; exact b2.size, fun k hk => by rw [e1]; exact b2.block k hk, Nat.le_trans b2.drawn e5⟩
    have ex := kx.same e1
    have ey := ky.same e1
    have h := compareMods_any (p := (p, v)) (q := (p', v')) (hg.below hbW)
    rw [unhide HNN] at h
    refine h.mono ?_
    rintro e w4 ⟨rfl, b4⟩
    exact ⟨rfl, hbW.trans (b4.mono hbW.size), (ex.below b4).cell 0, (ex.below b4).cell 1, (ex.below b4).cell 2, (ey.below b4).cell 0, (ey.below b4).cell 1, (ey.below b4).cell 2⟩
  clear hw2 kx ky b2 HNN HMM hg
  go_region_held3 (fun w' => w'.cell? ⟨w.heap.size, 0, none⟩ = some (.string (ba p)) ∧ w'.cell? ⟨w.heap.size, 1, none⟩ = some (.string (ba v)) ∧ w'.cell? ⟨w.heap.size, 2, none⟩ = some (.int .i64 k) ∧ w'.cell? ⟨w.heap.size + 1, 0, none⟩ = some (.string (ba p')) ∧ w'.cell? ⟨w.heap.size + 1, 1, none⟩ = some (.string (ba v')) ∧ w'.cell? ⟨w.heap.size + 1, 2, none⟩ = some (.int .i64 k'))
    (go_keep)
    (first | (go_at_call 94; refine (unhide H94 _ (by rfl) (by rfl) (by rfl) (by rfl) (by first | exact Nat.le_refl _ | exact Nat.le_succ _ | simp)).mono ?_; rintro e w4 ⟨rfl, b4, r0, r1, r2, r3, r4, r5⟩) | (go_at_call 95; refine (unhide H95 _).mono ?_; rintro e w3 ⟨rfl, rfl⟩) | (go_at_call 93; refine (or_two (x := n) (y := m) (by simp) (by simp)).mono ?_; rintro e w5 ⟨rfl, rfl⟩))
  have HB := hide b4
  clear b4
  go_wp2
  go_ret
  exact ⟨rfl, (unhide HB).alloc (unhide HB).size _⟩

end Go.Proofs.YthcafeoamabkgaaGreatDoor

namespace Go.Proofs.YthcafeoamabkgaaGreatDoor
open Go.RowKit Go.Sort Go.Shelf

instance : Inhabited Ln := ⟨noLn⟩
def lnL (x : Ln) : List Value := [.string (ba x.p), .string (ba x.v), .int .i64 x.k, .string (ba x.s)]

theorem orders_int : Orders Lib.compareInt where
  turn a b := by unfold Lib.compareInt; split <;> split <;> (try split) <;> (try split) <;> omega
  eq a b := by unfold Lib.compareInt; split <;> (try split) <;> omega
  lt a b c := by unfold Lib.compareInt; split <;> split <;> (try split) <;> (try split) <;> (try split) <;> (try split) <;> omega
  three a b := by unfold Lib.compareInt; split <;> (try split) <;> omega

def keyL (x : Ln) : Md × Int := ((x.p, x.v), x.k)
def cmpK (a b : Md × Int) : Int := orI (cmpM a.1 b.1) (Lib.compareInt a.2 b.2)
theorem orders_k : Orders cmpK := orders_or orders_m orders_int
theorem cmpL_key (x y : Ln) : cmpL x y = cmpK (keyL x) (keyL y) := rfl

theorem swo_L : SWO (ltOf cmpL) where
  irrefl x := by
    unfold ltOf
    rw [cmpL_key, orders_k.self]
    rfl
  trans x y z h1 h2 := by
    unfold ltOf at *
    rw [cmpL_key] at *
    exact decide_eq_true (orders_k.lt _ _ _ (of_decide_eq_true h1) (of_decide_eq_true h2))
  ntrans x y z h1 h2 := by
    unfold ltOf at *
    rw [cmpL_key] at *
    have h1 := of_decide_eq_false h1
    have h2 := of_decide_eq_false h2
    refine decide_eq_false fun h => ?_
    have t1 := orders_k.turn (keyL x) (keyL y)
    have t2 := orders_k.turn (keyL y) (keyL z)
    rcases Int.lt_or_eq_of_le (Int.not_lt.1 h1) with a | a
    · rcases Int.lt_or_eq_of_le (Int.not_lt.1 h2) with b | b
      · have := orders_k.lt _ _ _ (by omega : cmpK (keyL z) (keyL y) < 0) (by omega : cmpK (keyL y) (keyL x) < 0)
        have t3 := orders_k.turn (keyL x) (keyL z)
        omega
      · have e := (orders_k.eq _ _).1 b.symm
        rw [← e] at h
        omega
    · have e := (orders_k.eq _ _).1 a.symm
      rw [e] at h
      omega

theorem low_sort {w0 w : World} {B blk off m : Nat} {dk : Array Ln} {os : Array Obj} (h : Go.RowKit.Below B w0 w) (hB : B ≤ blk) (hw : B ≤ w.heap.size) : Go.RowKit.Below B w0 (sortWorldK lnL 4 w blk off m dk os) := by
  have hsz : (putRowK lnL 4 (Sort.ahead w m) blk off dk).heap.size = w.heap.size := by
    unfold putRowK
    rw [size_putRow]
    rfl
  refine ⟨h.os, h.tape, h.output, ?_, fun k hk => ?_⟩
  · show w0.heap.size ≤ ((putRowK lnL 4 (Sort.ahead w m) blk off dk).heap ++ os).size
    rw [Array.size_append, hsz]
    have := h.size
    omega
  · show (grow (putRowK lnL 4 (Sort.ahead w m) blk off dk) os).heap[k]? = _
    rw [heap_grow_old _ _ (by rw [hsz]; omega)]
    show (w.heap.modify blk _)[k]? = _
    rw [Array.getElem?_modify, if_neg (by omega)]
    exact h.block k hk

theorem cmp_lays {w0 w : World} {blk off n : Nat} (hg : Gd w0) (h : Go.RowKit.Below w0.heap.size w0 w) (hB : w0.heap.size ≤ blk) (hw : w0.heap.size ≤ w.heap.size) : CmpLays Tryz.prog 48 #[] lnL 4 cmpL blk off n w := by
  intro m os dk _ x y
  have e : (#[Value.agg (lnL x).toArray, .agg (lnL y).toArray] ++ #[] : Array Value) = #[lnV x, lnV y] := by simp [lnL]
  rw [e]
  refine (compareLines_any (x := x) (y := y) (hg.low (low_sort h hB hw))).mono ?_
  rintro e w' ⟨rfl, b⟩
  exact ⟨rfl, b.grow⟩

theorem lnsV_get : ∀ (xs : List Ln) (j : Nat), j < xs.length * 4 → (lnsV xs)[j]? = some ((lnL (xs.toArray[j / 4]!))[j % 4]!)
  | [], j, h => by simp at h
  | x :: xs, 0, _ => by simp [lnsV, lnL]
  | x :: xs, 1, _ => by simp [lnsV, lnL]
  | x :: xs, 2, _ => by simp [lnsV, lnL]
  | x :: xs, 3, _ => by simp [lnsV, lnL]
  | x :: xs, j + 4, h => by
    have ih := lnsV_get xs j (by simp at h; omega)
    have e1 : (j + 4) / 4 = j / 4 + 1 := by omega
    have e2 : (j + 4) % 4 = j % 4 := by omega
    have hj : j / 4 < xs.length := by simp at h; omega
    rw [e1, e2]
    simp only [lnsV, List.getElem?_cons_succ]
    rw [ih]
    simp [hj]

/-- No later line is less than an earlier one. -/
def Rising (l : List Ln) : Prop := ∀ i j (hi : i < l.length) (hj : j < l.length), i < j → ¬ cmpL l[j] l[i] < 0

theorem sort_L {w0 w : World} {g cap : Nat} {xs : List Ln} {cur : Array Value} (hg : Gd w0) (h : Go.RowKit.Below w0.heap.size w0 w) (hB : w0.heap.size ≤ g) (hw : w0.heap.size ≤ w.heap.size) (hblk : w.heap[g]? = some (.cells cur 38 (0, 0))) (hcap : xs.length ≤ cap) (hcm : cap ≤ maxLen) (hcs : cur.size = cap * 4) (hcur : cur.toList.take (xs.length * 4) = lnsV xs) (hn : xs.length ≤ 1000000) :
    Calls Tryz.prog 92 #[.slice (some ⟨g, 0, none⟩) xs.length cap, .func (.func 48) #[] #[]] w fun e w' => e = .returned (.tuple #[]) ∧ ∃ ys : List Ln, ys.Perm xs ∧ Rising ys ∧ Lines w0.heap.size w' (.slice (some ⟨g, 0, none⟩) xs.length cap) ys ∧ Go.RowKit.Below w0.heap.size w0 w' := by
  have at' : ∀ j, j < xs.length * 4 → cur[j]? = (lnsV xs)[j]? := by
    intro j hj
    have h1 : cur.toList[j]? = (lnsV xs)[j]? := by rw [← hcur, List.getElem?_take_of_lt hj]
    have h2 : cur[j]? = cur.toList[j]? := by simp
    rw [h2, h1]
  have hH : HoldsK lnL 4 w g 0 xs.toArray := by
    intro j hj
    rw [size_flatK] at hj
    have hj' : j < xs.length * 4 := by simpa using hj
    refine ⟨?_, Lib.frozen_of_heap hblk _⟩
    rw [Nat.zero_add, Lib.cell_of_heap hblk, at' j hj', lnsV_get xs j hj']
    show _ = some (flatK lnL 4 xs.toArray)[j]!
    rw [get_flatK _ _ _ _ hj]
  have hs := AnyQ.slices_SortFunc Tryz.sort92 4 Tryz.isAgg38 Tryz.sizeOf38 lnL (fun x => rfl) (fun x u hu => by simp [lnL] at hu; rcases hu with rfl | rfl | rfl | rfl <;> rfl) cmpL swo_L 48 #[] g 0 cap xs.toArray w (enters_of Tryz.func48 (by kernel_rfl) rfl) (cmp_lays hg h hB hw) hH (Array.getElem?_eq_some_iff.1 hblk).1 (by simp; omega)
  have e0 : xs.toArray.size = xs.length := by simp
  rw [e0] at hs
  refine hs.mono ?_
  rintro e w' ⟨rfl, d', n, os, hp, hso, rfl⟩
  obtain ⟨p1, _, p3⟩ := hp
  have hlen : d'.size = xs.length := by rw [p1, e0]
  have hperm : d'.toList.Perm xs := by
    have q1 : d'.extract 0 xs.length = d' := by rw [← hlen]; simp
    have q2 : xs.toArray.extract 0 xs.length = xs.toArray := by simp
    rw [q1, q2] at p3
    simpa using p3
  refine ⟨rfl, d'.toList, hperm, ?_, ?_, low_sort h hB hw⟩
  · intro i j hi hj hij
    have hi' : i < d'.size := by simpa using hi
    have hj' : j < d'.size := by simpa using hj
    have := hso i j (Nat.zero_le _) hij (by rw [← hlen]; exact hj')
    rw [getElem!_pos d' i hi', getElem!_pos d' j hj'] at this
    have := of_decide_eq_false this
    simpa using this
  · have hgl : g < w.heap.size := (Array.getElem?_eq_some_iff.1 hblk).1
    have hb' : (sortWorldK lnL 4 w g 0 n d' os).heap[g]? = some (.cells (putCells id 0 (flatK lnL 4 d') cur) 38 (0, 0)) := by
      show (grow (putRowK lnL 4 (Sort.ahead w n) g 0 d') os).heap[g]? = _
      have hsz : (putRowK lnL 4 (Sort.ahead w n) g 0 d').heap.size = w.heap.size := by
        unfold putRowK
        rw [size_putRow]
        rfl
      rw [heap_grow_old _ _ (by rw [hsz]; exact hgl)]
      show (w.heap.modify g _)[g]? = _
      rw [Array.getElem?_modify, if_pos rfl, hblk]
      rfl
    have hl2 : d'.toList.length = xs.length := by simpa using hlen
    refine ⟨lnsV_length _, Or.inr ⟨g, cap, _, by rw [hl2], hB, hb', by rw [hl2]; exact hcap, hcm, by simp [putCells, hcs], ?_⟩⟩
    rw [hl2]
    apply List.ext_getElem?
    intro j
    by_cases hj : j < xs.length * 4
    · rw [List.getElem?_take_of_lt hj]
      have hjc : j < cur.size := by rw [hcs]; omega
      have hjf : j < d'.size * 4 := by rw [hlen]; exact hj
      have h3 := lnsV_get d'.toList j (by rw [hl2]; exact hj)
      rw [h3]
      have e3 : (putCells id 0 (flatK lnL 4 d') cur).toList[j]? = (putCells id 0 (flatK lnL 4 d') cur)[j]? := by simp
      rw [e3]
      unfold putCells
      rw [Array.getElem?_mapIdx, Array.getElem?_eq_getElem hjc]
      simp only [Option.map_some]
      rw [if_pos ⟨Nat.zero_le _, by rw [size_flatK]; omega⟩, Nat.sub_zero, get_flatK _ _ _ _ hjf]
      simp
    · rw [List.getElem?_eq_none (by rw [List.length_take]; omega), List.getElem?_eq_none (by rw [lnsV_length, hl2]; omega)]

end Go.Proofs.YthcafeoamabkgaaGreatDoor

namespace Go.Proofs.YthcafeoamabkgaaGreatDoor
open Go.RowKit Go.WideMaps Go.Maps

/-- Lines that are the same in a rising order, in new memory. -/
def SortedSaid (w : World) (xs : List Ln) (v' : Value) (w' : World) : Prop := ∃ ys : List Ln, ys.Perm xs ∧ Rising ys ∧ Lines w.heap.size w' v' ys ∧ Below w.heap.size w w'

theorem rising_nil : Rising [] := fun i j hi => by simp at hi

set_option maxHeartbeats 1000000 in
theorem sorted_any {B : Nat} {w : World} {v : Value} {xs : List Ln} (hg : Gd w) (h : Lines B w v xs) (hn : xs.length ≤ 1000000) :
    Calls Tryz.prog 47 #[v, .func (.func 48) #[] #[]] w fun e w' => ∃ v', e = .returned v' ∧ SortedSaid w xs v' w' := by
  have HC := hide (clone_L h hn)
  have HN := hide hn
  have HG := hide hg
  clear h hn hg
  go_enter Tryz.func47, Tryz.ntmps47
  go_wp2_with (go_at_call 91; fail)
  refine (unhide HC).mono ?_
  rintro e w1 ⟨v', rfl, hr, hb⟩
  have HS : Hid (Calls Tryz.prog 92 #[v', .func (.func 48) #[] #[]] w1 fun e w' => e = .returned (.tuple #[]) ∧ SortedSaid w xs v' w') := by
    rcases hr.2 with ⟨rfl, h0⟩ | ⟨g, cap, cur, rfl, hB, hblk, hcap, hcm, hcs, hcur⟩
    · refine (AnyF.slices_SortFunc_none Tryz.sort92 none 0 _ w1).mono ?_
      rintro e w' ⟨rfl, rfl⟩
      have e0 : xs = [] := List.length_eq_zero_iff.1 h0
      subst e0
      exact ⟨rfl, [], List.Perm.refl _, rising_nil, hr, hb⟩
    · refine (sort_L (unhide HG) hb hB hb.size hblk hcap hcm hcs hcur (unhide HN)).mono ?_
      rintro e w' ⟨rfl, ys, h1, h2, h3, h4⟩
      exact ⟨rfl, ys, h1, h2, h3, h4⟩
  clear hr hb HC
  go_wp2_with (go_at_call 92; fail)
  refine (unhide HS).mono ?_
  rintro e w2 ⟨rfl, hs⟩
  have HD := hide hs
  clear hs
  go_wp2
  go_ret
  exact ⟨v', rfl, unhide HD⟩

theorem readR_len : ∀ (f : Nat) (ks : List En) (xs : List Ln) (k : Nat) (t : Str), (readR f ks xs k t).1.length ≤ xs.length + f
  | 0, _, xs, _, _ => by simp [readR]
  | f + 1, ks, xs, k, t => by
    unfold readR
    split
    · simp
    · split
      · simp
      · split
        · simp
        · split
          · have := readR_len f (checkK ks ‹Ln›) (xs ++ [‹Ln›]) (k + 1) (behind 10 t)
            simp at this
            omega
          · simp

/-- What Parse answers. -/
def ParseSaid (w : World) (R : List Ln × Nat × Int) (e : Ending) (w' : World) : Prop :=
  ∃ v', e = .returned (.tuple #[v', .int .i64 (R.2.1 : Nat), .int .i64 R.2.2]) ∧ SortedSaid w R.1 v' w'

set_option maxHeartbeats 2000000 in
/-- Parse, at every text that is not too long. -/
theorem parse_all {w : World} {t : Str} (hg : Gd w) (ht : t.length ≤ 65536) : Calls Tryz.prog 16 #[.string (ba t)] w (ParseSaid w (readR t.length [] [] 1 t)) := by
  have hn := readR_len t.length [] [] 1 t
  obtain ⟨R, hR⟩ : ∃ R, readR t.length [] [] 1 t = R := ⟨_, rfl⟩
  have HT := hide ht
  have HR := hide hR
  have HG := hide hg
  rw [hR] at hn ⊢
  have HN : Hid (R.1.length ≤ 1000000) := hide (by simp at hn; omega)
  have HC := hide (lineCheck_any w)
  clear hR hg hn ht
  go_enter Tryz.func16, Tryz.ntmps16
  go_wp2_with (go_at_call 45; fail)
  refine (unhide HC).mono ?_
  rintro e w1 ⟨rfl, k1, s1, b1⟩
  obtain ⟨W, hW⟩ : ∃ W, w1.alloc (.cells (ckC (w.heap.size + 1)) 82) = W := ⟨_, rfl⟩
  have PW : PSt w W w1.heap.size (w.heap.size + 1) w.heap.size 0 [] := by
    rw [← hW]
    have al := (Below.refl w1.heap.size w1).alloc (Nat.le_refl _) (.cells (ckC (w.heap.size + 1)) 82)
    exact ⟨b1.alloc b1.size _, Blk.new _ _ _, k1.alloc _, s1.low al, Nat.le_refl _⟩
  have HL := hide (readLines_any (unhide HG) PW (unhide HT))
  rw [unhide HR] at HL
  have HW := hide hW
  clear hW PW k1 s1 b1
  go_wp2_with (go_at_call 50; fail)
  rw [unhide HW]
  refine (unhide HL).mono ?_
  rintro e w2 ⟨v2, rfl, l2, b2⟩
  have HS := hide (sorted_any ((unhide HG).low b2) l2 (unhide HN))
  have HB := hide b2
  clear l2 b2
  go_wp2_with (go_at_call 47; fail)
  refine (unhide HS).mono ?_
  rintro e w3 ⟨v3, rfl, ys, y1, y2, y3, y4⟩
  have HD : Hid (SortedSaid w R.1 v3 w3) := ⟨ys, y1, y2, lines_mono y3 (unhide HB).size, low_trans (unhide HB) y4⟩
  clear y1 y2 y3 y4
  go_wp2
  go_ret3
  exact ⟨v3, rfl, unhide HD⟩

set_option maxHeartbeats 1000000 in
/-- Parse, at a text that is too long. -/
theorem parse_long {w : World} {t : Str} (hg : Gd w) (ht : 65536 < t.length) : Calls Tryz.prog 16 #[.string (ba t)] w (ParseSaid w ([], 0, 13)) := by
  have hsz := ba_size t
  have hq : (65536 : Int) < (t.length : Int) := by omega
  have HR : Hid (∀ w' ck, Calls Tryz.prog 50 #[.string (ba t), .func (.func 51) #[] #[.pointer (some ⟨ck, 0, none⟩)]] w' fun e w'' => e = .returned (.tuple #[.slice none 0 0, .int .i64 0, .int .i64 13]) ∧ w'' = w') := by
    intro w' ck
    clear hg ht
    go_enter Tryz.func50, Tryz.ntmps50
    go_wp2
    go_ret3
    exact ⟨rfl, rfl⟩
  have HG := hide hg
  have HC := hide (lineCheck_any w)
  clear hg
  go_enter Tryz.func16, Tryz.ntmps16
  go_wp2_with (go_at_call 45; fail)
  refine (unhide HC).mono ?_
  rintro e w1 ⟨rfl, k1, s1, b1⟩
  have HB : Hid (Below w.heap.size w (w1.alloc (.cells (ckC (w.heap.size + 1)) 82))) := hide (b1.alloc b1.size _)
  clear k1 s1 b1
  go_wp2_with (go_at_call 50; fail)
  refine ((unhide HR) _ _).mono ?_
  rintro e w2 ⟨rfl, hw⟩
  rw [hw]; clear hw w2
  have HS := hide (sorted_any (xs := []) ((unhide HG).low (unhide HB)) (lines_nil 0 _) (by simp))
  go_wp2_with (go_at_call 47; fail)
  refine (unhide HS).mono ?_
  rintro e w3 ⟨v3, rfl, ys, y1, y2, y3, y4⟩
  have HD : Hid (SortedSaid w [] v3 w3) := ⟨ys, y1, y2, lines_mono y3 (unhide HB).size, low_trans (unhide HB) y4⟩
  clear y1 y2 y3 y4
  go_wp2
  go_ret3
  exact ⟨v3, rfl, unhide HD⟩

end Go.Proofs.YthcafeoamabkgaaGreatDoor
