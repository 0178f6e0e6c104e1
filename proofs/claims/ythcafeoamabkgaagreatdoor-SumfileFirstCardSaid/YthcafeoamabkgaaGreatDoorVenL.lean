/-
  Vendored modules, sorted: what the library's sort asks of the comparison.
-/
import Derived.Test.YthcafeoamabkgaaGreatDoorVenK
namespace Go.Proofs.YthcafeoamabkgaaGreatDoor
open Go.RowKit Go.Sort Go.Shelf

theorem low_sortV {w0 w : World} {B blk off m : Nat} {dk : Array VE} {os : Array Obj} (h : Go.RowKit.Below B w0 w) (hB : B ≤ blk) (hw : B ≤ w.heap.size) : Go.RowKit.Below B w0 (sortWorldK vdE 4 w blk off m dk os) := by
  have hsz : (putRowK vdE 4 (Sort.ahead w m) blk off dk).heap.size = w.heap.size := by
    unfold putRowK
    rw [size_putRow]
    rfl
  refine ⟨h.os, h.tape, h.output, ?_, fun k hk => ?_⟩
  · show w0.heap.size ≤ ((putRowK vdE 4 (Sort.ahead w m) blk off dk).heap ++ os).size
    rw [Array.size_append, hsz]
    have := h.size
    omega
  · show (grow (putRowK vdE 4 (Sort.ahead w m) blk off dk) os).heap[k]? = _
    rw [heap_grow_old _ _ (by rw [hsz]; omega)]
    show (w.heap.modify blk _)[k]? = _
    rw [Array.getElem?_modify, if_neg (by omega)]
    exact h.block k hk

theorem cmp_laysV {w0 w : World} {blk off n : Nat} (hg : Gd w0) (h : Go.RowKit.Below w0.heap.size w0 w) (hB : w0.heap.size ≤ blk) (hw : w0.heap.size ≤ w.heap.size) : CmpLays Tryz.prog 101 #[] vdE 4 cmpVd blk off n w := by
  intro m os dk _ x y
  have e : (#[Value.agg (vdE x).toArray, .agg (vdE y).toArray] ++ #[] : Array Value) = #[.agg (vdE x).toArray, .agg (vdE y).toArray] := by simp
  rw [e]
  refine (cmpVd_any (x := x) (y := y) (hg.low (low_sortV h hB hw))).mono ?_
  rintro e w' ⟨rfl, b⟩
  exact ⟨rfl, b.grow⟩

theorem vdsV_lenM (xs : List VE) : (vdsV (xs.map vv)).length = xs.length * 4 := by rw [vdsV_length, List.length_map]
theorem vdsV_get : ∀ (xs : List VE) (j : Nat), j < xs.length * 4 → (vdsV (xs.map vv))[j]? = some ((vdE (xs.toArray[j / 4]!))[j % 4]!)
  | [], j, h => by simp at h
  | x :: xs, 0, _ => by simp [vdsV, vdE, vv]
  | x :: xs, 1, _ => by simp [vdsV, vdE, vv]
  | x :: xs, 2, _ => by simp [vdsV, vdE, vv]
  | x :: xs, 3, _ => by simp [vdsV, vdE, vv]
  | x :: xs, j + 4, h => by
    have ih := vdsV_get xs j (by simp at h; omega)
    have e1 : (j + 4) / 4 = j / 4 + 1 := by omega
    have e2 : (j + 4) % 4 = j % 4 := by omega
    have hj : j / 4 < xs.length := by simp at h; omega
    rw [e1, e2]
    simp only [List.map_cons, vdsV, List.getElem?_cons_succ]
    rw [ih]
    simp [hj]

/-- No later module is less than an earlier one. -/
def RisingV (l : List VE) : Prop := ∀ i j (hi : i < l.length) (hj : j < l.length), i < j → ¬ cmpVd l[j] l[i] < 0

theorem sort_V {w0 w : World} {g cap : Nat} {xs : List VE} {cur : Array Value} (hg : Gd w0) (h : Go.RowKit.Below w0.heap.size w0 w) (hB : w0.heap.size ≤ g) (hw : w0.heap.size ≤ w.heap.size) (hblk : w.heap[g]? = some (.cells cur 81 (0, 0))) (hcap : xs.length ≤ cap) (hcm : cap ≤ maxLen) (hcs : cur.size = cap * 4) (hcur : cur.toList.take (xs.length * 4) = vdsV (xs.map vv)) (hn : xs.length ≤ 1000000) :
    Calls Tryz.prog 147 #[.slice (some ⟨g, 0, none⟩) xs.length cap, .func (.func 101) #[] #[]] w fun e w' => e = .returned (.tuple #[]) ∧ ∃ ys : List VE, ys.Perm xs ∧ RisingV ys ∧ w'.ownsRow w0.heap.size 81 4 (.slice (some ⟨g, 0, none⟩) xs.length cap) ys.length (vdsV (ys.map vv)) ∧ Go.RowKit.Below w0.heap.size w0 w' := by
  have at' : ∀ j, j < xs.length * 4 → cur[j]? = (vdsV (xs.map vv))[j]? := by
    intro j hj
    have h1 : cur.toList[j]? = (vdsV (xs.map vv))[j]? := by rw [← hcur, List.getElem?_take_of_lt hj]
    have h2 : cur[j]? = cur.toList[j]? := by simp
    rw [h2, h1]
  have hH : HoldsK vdE 4 w g 0 xs.toArray := by
    intro j hj
    rw [size_flatK] at hj
    have hj' : j < xs.length * 4 := by simpa using hj
    refine ⟨?_, Lib.frozen_of_heap hblk _⟩
    rw [Nat.zero_add, Lib.cell_of_heap hblk, at' j hj', vdsV_get xs j hj']
    show _ = some (flatK vdE 4 xs.toArray)[j]!
    rw [get_flatK _ _ _ _ hj]
  have hs := AnyQ.slices_SortFunc Tryz.sort147 4 Tryz.isAgg81 Tryz.sizeOf81 vdE (fun x => rfl) (fun x u hu => by simp [vdE] at hu; rcases hu with rfl | rfl | rfl | rfl <;> rfl) cmpVd swo_V 101 #[] g 0 cap xs.toArray w (enters_of Tryz.func101 (by kernel_rfl) rfl) (cmp_laysV hg h hB hw) hH (Array.getElem?_eq_some_iff.1 hblk).1 (by simp; omega)
  have e0 : xs.toArray.size = xs.length := by simp
  rw [e0] at hs
  refine hs.mono ?_
  rintro e w' ⟨rfl, d', n, os, hp, hso, rfl⟩
  obtain ⟨p1, _, p3⟩ := hp
  have hlen : d'.size = xs.length := by rw [p1, e0]
  have hperm : d'.toList.Perm xs := by
    have q1 : d'.extract 0 xs.length = d' := by rw [← hlen]; simp
    have q2 : xs.toArray.extract 0 xs.length = xs.toArray := by simp
    rw [q1, q2] at p3
    simpa using p3
  refine ⟨rfl, d'.toList, hperm, ?_, ?_, low_sortV h hB hw⟩
  · intro i j hi hj hij
    have hi' : i < d'.size := by simpa using hi
    have hj' : j < d'.size := by simpa using hj
    have := hso i j (Nat.zero_le _) hij (by rw [← hlen]; exact hj')
    rw [getElem!_pos d' i hi', getElem!_pos d' j hj'] at this
    have := of_decide_eq_false this
    simpa using this
  · have hgl : g < w.heap.size := (Array.getElem?_eq_some_iff.1 hblk).1
    have hb' : (sortWorldK vdE 4 w g 0 n d' os).heap[g]? = some (.cells (putCells id 0 (flatK vdE 4 d') cur) 81 (0, 0)) := by
      show (grow (putRowK vdE 4 (Sort.ahead w n) g 0 d') os).heap[g]? = _
      have hsz : (putRowK vdE 4 (Sort.ahead w n) g 0 d').heap.size = w.heap.size := by
        unfold putRowK
        rw [size_putRow]
        rfl
      rw [heap_grow_old _ _ (by rw [hsz]; exact hgl)]
      show (w.heap.modify g _)[g]? = _
      rw [Array.getElem?_modify, if_pos rfl, hblk]
      rfl
    have hl2 : d'.toList.length = xs.length := by simpa using hlen
    refine ⟨(by rw [vdsV_length, List.length_map]), Or.inr ⟨g, cap, _, by rw [hl2], hB, hb', by rw [hl2]; exact hcap, hcm, by simp [putCells, hcs], ?_⟩⟩
    rw [hl2]
    apply List.ext_getElem?
    intro j
    by_cases hj : j < xs.length * 4
    · rw [List.getElem?_take_of_lt hj]
      have hjc : j < cur.size := by rw [hcs]; omega
      have hjf : j < d'.size * 4 := by rw [hlen]; exact hj
      have h3 := vdsV_get d'.toList j (by rw [hl2]; exact hj)
      rw [h3]
      have e3 : (putCells id 0 (flatK vdE 4 d') cur).toList[j]? = (putCells id 0 (flatK vdE 4 d') cur)[j]? := by simp
      rw [e3]
      unfold putCells
      rw [Array.getElem?_mapIdx, Array.getElem?_eq_getElem hjc]
      simp only [Option.map_some]
      rw [if_pos ⟨Nat.zero_le _, by rw [size_flatK]; omega⟩, Nat.sub_zero, get_flatK _ _ _ _ hjf]
      simp
    · rw [List.getElem?_eq_none (by rw [List.length_take]; omega), List.getElem?_eq_none (by rw [vdsV_lenM, hl2]; omega)]


theorem vdsV_one (l : List VE) : ∀ u ∈ vdsV (l.map vv), u.oneCell' = true := by
  induction l with
  | nil => intro u hu; cases hu
  | cons x l ih =>
    intro u hu
    simp only [List.map_cons, vdsV, List.mem_cons] at hu
    rcases hu with rfl | rfl | rfl | rfl | h
    · rfl
    · rfl
    · rfl
    · rfl
    · exact ih u h

/-- A list of vendored modules, as it can be read. -/
def RowV (w : World) (a : Option Addr) (zs : List VE) : Prop := zs = [] ∨ ∃ B O, a = some ⟨B, O, none⟩ ∧ B < w.heap.size ∧ ∀ j u, (vdsV (zs.map vv))[j]? = some u → w.cell? ⟨B, O + j, none⟩ = some u

theorem clone_V {w : World} {a : Option Addr} {n c : Nat} {zs : List VE} (hn : zs.length = n) (hN : n ≤ 1000000) (hp : PlainA a) (h : RowV w a zs) :
    Calls Tryz.prog 146 #[.slice a n c] w fun e w' => ∃ v', e = .returned v' ∧ w'.ownsRow w.heap.size 81 4 v' zs.length (vdsV (zs.map vv)) ∧ Go.RowKit.Below w.heap.size w w' := by
  subst hn
  cases a with
  | none =>
    refine (AnyE.slices_Clone_nil Tryz.clone146 zs.length c w).mono ?_
    rintro e w' ⟨rfl, rfl⟩
    have h0 : zs = [] := by
      rcases h with h0 | ⟨_, _, e, _⟩
      · exact h0
      · cases e
    subst h0
    exact ⟨_, rfl, ⟨rfl, Or.inl ⟨rfl, rfl⟩⟩, Go.RowKit.Below.refl _ _⟩
  | some ad =>
    obtain ⟨B, O, rfl⟩ := hp ad rfl
    obtain ⟨i0, hi, hz0, hz1, hz2⟩ := info_parts info81
    refine (AnyE.slices_Clone Tryz.clone146 i0 _ 4 64 hi hz0 hz1 hz2 rfl (by omega) Tryz.sizeOf81 B O zs.length c (vdsV (zs.map vv)) w (vdsV_lenM zs) (by unfold maxLen; omega) (by omega) (fun j u hu => ?_) (vdsV_one zs)).mono ?_
    · rcases h with h0 | ⟨B', O', e1, _, h1⟩
      · rw [h0] at hu; simp [vdsV] at hu
      · cases e1
        exact h1 j u hu
    · rintro e w' ⟨v', rfl, hown, _, hb'⟩
      exact ⟨v', rfl, hown, hb'⟩

/-- What sorted answers. -/
def SortV (w : World) (zs : List VE) (v' : Value) (w' : World) : Prop := ∃ ys : List VE, ys.Perm zs ∧ RisingV ys ∧ w'.ownsRow w.heap.size 81 4 v' ys.length (vdsV (ys.map vv)) ∧ Go.RowKit.Below w.heap.size w w'

set_option maxHeartbeats 1000000 in
theorem sortedV_any {w : World} {a : Option Addr} {n c : Nat} {zs : List VE} (hg : Gd w) (hn : zs.length = n) (hN : n ≤ 1000000) (hp : PlainA a) (h : RowV w a zs) :
    Calls Tryz.prog 100 #[.slice a n c, .func (.func 101) #[] #[]] w fun e w' => ∃ v', e = .returned v' ∧ SortV w zs v' w' := by
  have HC := hide (clone_V (c := c) hn hN hp h)
  have HN : Hid (zs.length ≤ 1000000) := hide (by omega)
  have HG := hide hg
  clear h hn hp hg
  go_enter Tryz.func100, Tryz.ntmps100
  go_wp2_with (go_at_call 146; fail)
  refine (unhide HC).mono ?_
  rintro e w1 ⟨v', rfl, hr, hb⟩
  have HS : Hid (Calls Tryz.prog 147 #[v', .func (.func 101) #[] #[]] w1 fun e w' => e = .returned (.tuple #[]) ∧ SortV w zs v' w') := by
    rcases hr.2 with ⟨rfl, h0⟩ | ⟨g, cap, cur, rfl, hB, hblk, hcap, hcm, hcs, hcur⟩
    · refine (AnyF.slices_SortFunc_none Tryz.sort147 none 0 _ w1).mono ?_
      rintro e w' ⟨rfl, rfl⟩
      have e0 : zs = [] := List.length_eq_zero_iff.1 h0
      subst e0
      exact ⟨rfl, [], List.Perm.refl _, fun i j hi => by simp at hi, hr, hb⟩
    · refine (sort_V (unhide HG) hb hB hb.size hblk hcap hcm hcs hcur (unhide HN)).mono ?_
      rintro e w' ⟨rfl, ys, h1, h2, h3, h4⟩
      exact ⟨rfl, ys, h1, h2, h3, h4⟩
  clear hr hb HC
  go_wp2_with (go_at_call 147; fail)
  refine (unhide HS).mono ?_
  rintro e w2 ⟨rfl, hs⟩
  have HD := hide hs
  clear hs
  go_wp2
  go_ret
  exact ⟨v', rfl, unhide HD⟩

end Go.Proofs.YthcafeoamabkgaaGreatDoor
