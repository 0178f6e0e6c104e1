/-
  Lines are sorted: what the library's sort asks of compareLines.
-/
import Derived.Test.YthcafeoamabkgaaGreatDoorSortA
import Derived.Test.YthcafeoamabkgaaGreatDoorSortZ
import Derived.Shelf.SlSortCmp.WholeK
namespace Go.Proofs.YthcafeoamabkgaaGreatDoor
open Go.RowKit Go.Sort Go.Shelf

instance : Inhabited Ln := ⟨noLn⟩
def lnL (x : Ln) : List Value := [.string (ba x.p), .string (ba x.v), .int .i64 x.k, .string (ba x.s)]

theorem orders_int : Orders Lib.compareInt where
  turn a b := by unfold Lib.compareInt; split <;> split <;> (try split) <;> (try split) <;> omega
  eq a b := by unfold Lib.compareInt; split <;> (try split) <;> omega
  lt a b c := by unfold Lib.compareInt; split <;> split <;> (try split) <;> (try split) <;> (try split) <;> (try split) <;> omega
  three a b := by unfold Lib.compareInt; split <;> (try split) <;> omega

def keyL (x : Ln) : Md × Int := ((x.p, x.v), x.k)
def cmpK (a b : Md × Int) : Int := orI (cmpM a.1 b.1) (Lib.compareInt a.2 b.2)
theorem orders_k : Orders cmpK := orders_or orders_m orders_int
theorem cmpL_key (x y : Ln) : cmpL x y = cmpK (keyL x) (keyL y) := rfl

theorem swo_L : SWO (ltOf cmpL) where
  irrefl x := by
    unfold ltOf
    rw [cmpL_key, orders_k.self]
    rfl
  trans x y z h1 h2 := by
    unfold ltOf at *
    rw [cmpL_key] at *
    exact decide_eq_true (orders_k.lt _ _ _ (of_decide_eq_true h1) (of_decide_eq_true h2))
  ntrans x y z h1 h2 := by
    unfold ltOf at *
    rw [cmpL_key] at *
    have h1 := of_decide_eq_false h1
    have h2 := of_decide_eq_false h2
    refine decide_eq_false fun h => ?_
    have t1 := orders_k.turn (keyL x) (keyL y)
    have t2 := orders_k.turn (keyL y) (keyL z)
    rcases Int.lt_or_eq_of_le (Int.not_lt.1 h1) with a | a
    · rcases Int.lt_or_eq_of_le (Int.not_lt.1 h2) with b | b
      · have := orders_k.lt _ _ _ (by omega : cmpK (keyL z) (keyL y) < 0) (by omega : cmpK (keyL y) (keyL x) < 0)
        have t3 := orders_k.turn (keyL x) (keyL z)
        omega
      · have e := (orders_k.eq _ _).1 b.symm
        rw [← e] at h
        omega
    · have e := (orders_k.eq _ _).1 a.symm
      rw [e] at h
      omega

theorem low_sort {w0 w : World} {B blk off m : Nat} {dk : Array Ln} {os : Array Obj} (h : Go.RowKit.Below B w0 w) (hB : B ≤ blk) (hw : B ≤ w.heap.size) : Go.RowKit.Below B w0 (sortWorldK lnL 4 w blk off m dk os) := by
  have hsz : (putRowK lnL 4 (Sort.ahead w m) blk off dk).heap.size = w.heap.size := by
    unfold putRowK
    rw [size_putRow]
    rfl
  refine ⟨h.os, h.tape, h.output, ?_, fun k hk => ?_⟩
  · show w0.heap.size ≤ ((putRowK lnL 4 (Sort.ahead w m) blk off dk).heap ++ os).size
    rw [Array.size_append, hsz]
    have := h.size
    omega
  · show (grow (putRowK lnL 4 (Sort.ahead w m) blk off dk) os).heap[k]? = _
    rw [heap_grow_old _ _ (by rw [hsz]; omega)]
    show (w.heap.modify blk _)[k]? = _
    rw [Array.getElem?_modify, if_neg (by omega)]
    exact h.block k hk

theorem cmp_lays {w0 w : World} {blk off n : Nat} (hg : Gd w0) (h : Go.RowKit.Below w0.heap.size w0 w) (hB : w0.heap.size ≤ blk) (hw : w0.heap.size ≤ w.heap.size) : CmpLays Tryz.prog 48 #[] lnL 4 cmpL blk off n w := by
  intro m os dk _ x y
  have e : (#[Value.agg (lnL x).toArray, .agg (lnL y).toArray] ++ #[] : Array Value) = #[lnV x, lnV y] := by simp [lnL]
  rw [e]
  refine (compareLines_any (x := x) (y := y) (hg.low (low_sort h hB hw))).mono ?_
  rintro e w' ⟨rfl, b⟩
  exact ⟨rfl, b.grow⟩

theorem lnsV_get : ∀ (xs : List Ln) (j : Nat), j < xs.length * 4 → (lnsV xs)[j]? = some ((lnL (xs.toArray[j / 4]!))[j % 4]!)
  | [], j, h => by simp at h
  | x :: xs, 0, _ => by simp [lnsV, lnL]
  | x :: xs, 1, _ => by simp [lnsV, lnL]
  | x :: xs, 2, _ => by simp [lnsV, lnL]
  | x :: xs, 3, _ => by simp [lnsV, lnL]
  | x :: xs, j + 4, h => by
    have ih := lnsV_get xs j (by simp at h; omega)
    have e1 : (j + 4) / 4 = j / 4 + 1 := by omega
    have e2 : (j + 4) % 4 = j % 4 := by omega
    have hj : j / 4 < xs.length := by simp at h; omega
    rw [e1, e2]
    simp only [lnsV, List.getElem?_cons_succ]
    rw [ih]
    simp [hj]

/-- No later line is less than an earlier one. -/
def Rising (l : List Ln) : Prop := ∀ i j (hi : i < l.length) (hj : j < l.length), i < j → ¬ cmpL l[j] l[i] < 0

theorem sort_L {w0 w : World} {g cap : Nat} {xs : List Ln} {cur : Array Value} (hg : Gd w0) (h : Go.RowKit.Below w0.heap.size w0 w) (hB : w0.heap.size ≤ g) (hw : w0.heap.size ≤ w.heap.size) (hblk : w.heap[g]? = some (.cells cur 38 (0, 0))) (hcap : xs.length ≤ cap) (hcm : cap ≤ maxLen) (hcs : cur.size = cap * 4) (hcur : cur.toList.take (xs.length * 4) = lnsV xs) (hn : xs.length ≤ 1000000) :
    Calls Tryz.prog 92 #[.slice (some ⟨g, 0, none⟩) xs.length cap, .func (.func 48) #[] #[]] w fun e w' => e = .returned (.tuple #[]) ∧ ∃ ys : List Ln, ys.Perm xs ∧ Rising ys ∧ Lines w0.heap.size w' (.slice (some ⟨g, 0, none⟩) xs.length cap) ys ∧ Go.RowKit.Below w0.heap.size w0 w' := by
  have at' : ∀ j, j < xs.length * 4 → cur[j]? = (lnsV xs)[j]? := by
    intro j hj
    have h1 : cur.toList[j]? = (lnsV xs)[j]? := by rw [← hcur, List.getElem?_take_of_lt hj]
    have h2 : cur[j]? = cur.toList[j]? := by simp
    rw [h2, h1]
  have hH : HoldsK lnL 4 w g 0 xs.toArray := by
    intro j hj
    rw [size_flatK] at hj
    have hj' : j < xs.length * 4 := by simpa using hj
    refine ⟨?_, Lib.frozen_of_heap hblk _⟩
    rw [Nat.zero_add, Lib.cell_of_heap hblk, at' j hj', lnsV_get xs j hj']
    show _ = some (flatK lnL 4 xs.toArray)[j]!
    rw [get_flatK _ _ _ _ hj]
  have hs := AnyQ.slices_SortFunc Tryz.sort92 4 Tryz.isAgg38 Tryz.sizeOf38 lnL (fun x => rfl) (fun x u hu => by simp [lnL] at hu; rcases hu with rfl | rfl | rfl | rfl <;> rfl) cmpL swo_L 48 #[] g 0 cap xs.toArray w (enters_of Tryz.func48 (by kernel_rfl) rfl) (cmp_lays hg h hB hw) hH (Array.getElem?_eq_some_iff.1 hblk).1 (by simp; omega)
  have e0 : xs.toArray.size = xs.length := by simp
  rw [e0] at hs
  refine hs.mono ?_
  rintro e w' ⟨rfl, d', n, os, hp, hso, rfl⟩
  obtain ⟨p1, _, p3⟩ := hp
  have hlen : d'.size = xs.length := by rw [p1, e0]
  have hperm : d'.toList.Perm xs := by
    have q1 : d'.extract 0 xs.length = d' := by rw [← hlen]; simp
    have q2 : xs.toArray.extract 0 xs.length = xs.toArray := by simp
    rw [q1, q2] at p3
    simpa using p3
  refine ⟨rfl, d'.toList, hperm, ?_, ?_, low_sort h hB hw⟩
  · intro i j hi hj hij
    have hi' : i < d'.size := by simpa using hi
    have hj' : j < d'.size := by simpa using hj
    have := hso i j (Nat.zero_le _) hij (by rw [← hlen]; exact hj')
    rw [getElem!_pos d' i hi', getElem!_pos d' j hj'] at this
    have := of_decide_eq_false this
    simpa using this
  · have hgl : g < w.heap.size := (Array.getElem?_eq_some_iff.1 hblk).1
    have hb' : (sortWorldK lnL 4 w g 0 n d' os).heap[g]? = some (.cells (putCells id 0 (flatK lnL 4 d') cur) 38 (0, 0)) := by
      show (grow (putRowK lnL 4 (Sort.ahead w n) g 0 d') os).heap[g]? = _
      have hsz : (putRowK lnL 4 (Sort.ahead w n) g 0 d').heap.size = w.heap.size := by
        unfold putRowK
        rw [size_putRow]
        rfl
      rw [heap_grow_old _ _ (by rw [hsz]; exact hgl)]
      show (w.heap.modify g _)[g]? = _
      rw [Array.getElem?_modify, if_pos rfl, hblk]
      rfl
    have hl2 : d'.toList.length = xs.length := by simpa using hlen
    refine ⟨lnsV_length _, Or.inr ⟨g, cap, _, by rw [hl2], hB, hb', by rw [hl2]; exact hcap, hcm, by simp [putCells, hcs], ?_⟩⟩
    rw [hl2]
    apply List.ext_getElem?
    intro j
    by_cases hj : j < xs.length * 4
    · rw [List.getElem?_take_of_lt hj]
      have hjc : j < cur.size := by rw [hcs]; omega
      have hjf : j < d'.size * 4 := by rw [hlen]; exact hj
      have h3 := lnsV_get d'.toList j (by rw [hl2]; exact hj)
      rw [h3]
      have e3 : (putCells id 0 (flatK lnL 4 d') cur).toList[j]? = (putCells id 0 (flatK lnL 4 d') cur)[j]? := by simp
      rw [e3]
      unfold putCells
      rw [Array.getElem?_mapIdx, Array.getElem?_eq_getElem hjc]
      simp only [Option.map_some]
      rw [if_pos ⟨Nat.zero_le _, by rw [size_flatK]; omega⟩, Nat.sub_zero, get_flatK _ _ _ _ hjf]
      simp
    · rw [List.getElem?_eq_none (by rw [List.length_take]; omega), List.getElem?_eq_none (by rw [lnsV_length, hl2]; omega)]

end Go.Proofs.YthcafeoamabkgaaGreatDoor
