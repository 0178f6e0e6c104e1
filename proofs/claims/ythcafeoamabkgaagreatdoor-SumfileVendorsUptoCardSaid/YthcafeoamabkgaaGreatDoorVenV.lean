/-
  ParseVendor.
-/
import Derived.Test.YthcafeoamabkgaaGreatDoorSrtX
import Derived.Test.YthcafeoamabkgaaGreatDoorFmtX
import Derived.Test.YthcafeoamabkgaaGreatDoorVenX
import Derived.Test.YthcafeoamabkgaaGreatDoorVenY
import Derived.Test.YthcafeoamabkgaaGreatDoorVenZ
namespace Go.Proofs
def Tryz.clone146_ren : Go.Shelf.Ren := ⟨fun | 41 => 146 | n => n, fun | 22 => 23 | 23 => 81 | 4 => 4 | n => n, fun | n => n⟩
theorem Tryz.clone146 : Go.Proofs.SlLaysE0.n41 Tryz.prog Tryz.clone146_ren := {
  mixed := by kernel_rfl
  f41 := ⟨Tryz.f146.name, by decide, Tryz.func146.trans (congrArg some (by kernel_rfl))⟩
  t4 := Tryz.underlying4
  a4 := Tryz.isAgg4
  z4 := Tryz.sizeOf4
  v4 := Tryz.zeroValue4
  t22 := Tryz.underlying23
  a22 := Tryz.isAgg23
  z22 := Tryz.sizeOf23
  v22 := Tryz.zeroValue23 }

namespace YthcafeoamabkgaaGreatDoor
open Go.RowKit Go.Sort Go.Shelf

/-- A list of texts, as it can be read. -/
def RowS (w : World) (a : Option Addr) (ps : List Str) : Prop := ps = [] ∨ ∃ B O, a = some ⟨B, O, none⟩ ∧ B < w.heap.size ∧ ∀ j (hj : j < ps.length), w.cell? ⟨B, O + j, none⟩ = some (.string (ba ps[j]))

theorem RowS.low {w w' : World} {a : Option Addr} {ps : List Str} (h : RowS w a ps) (b : Go.RowKit.Below w.heap.size w w') : RowS w' a ps := by
  rcases h with h | ⟨B, O, h1, h2, h3⟩
  · exact Or.inl h
  · exact Or.inr ⟨B, O, h1, Nat.lt_of_lt_of_le h2 b.size, fun j hj => (b.cell (p := ⟨B, O + j, none⟩) h2).trans (h3 j hj)⟩

theorem clone_S {w : World} {a : Option Addr} {n c : Nat} {ps : List Str} (hn : ps.length = n) (hN : n ≤ 1000000) (hp : ps = [] ∨ PlainA a) (h : RowS w a ps) :
    Calls Tryz.prog 148 #[.slice a n c] w fun e w' => ∃ v', e = .returned v' ∧ w'.ownsRow w.heap.size 9 1 v' ps.length (strsV ps) ∧ Go.RowKit.Below w.heap.size w w' := by
  subst hn
  cases a with
  | none =>
    refine (Tryz.slices_Clone_string_nil ps.length c w).mono ?_
    rintro e w' ⟨rfl, rfl⟩
    have h0 : ps = [] := by
      rcases h with h0 | ⟨_, _, e, _⟩
      · exact h0
      · cases e
    subst h0
    exact ⟨_, rfl, ⟨rfl, Or.inl ⟨rfl, rfl⟩⟩, Go.RowKit.Below.refl _ _⟩
  | some ad =>
    rcases hp with rfl | hp
    · refine (Tryz.slices_Clone_string_zero ad c w).mono ?_
      rintro e w' ⟨v', rfl, h1, _, h2⟩
      exact ⟨v', rfl, h1, h2⟩
    obtain ⟨B, O, rfl⟩ := hp ad rfl
    have e : ((ps.map ba).take ps.length).map Value.string = strsV ps := by
      rw [List.take_of_length_le (by simp)]
      simp [strsV]
    have hc := Tryz.slices_Clone_string B O ps.length c (ps.map ba) w (by simp) (by omega) (fun j hj => by
      rw [List.length_map] at hj
      rcases h with h0 | ⟨B', O', e1, _, h1⟩
      · rw [h0] at hj; cases hj
      · cases e1
        rw [h1 j hj]
        simp [List.getD, hj])
    rw [e] at hc
    refine hc.mono ?_
    rintro e w' ⟨v', rfl, h1, _, h2⟩
    exact ⟨v', rfl, h1, h2⟩

/-- What sorted answers. -/
def SortS (w : World) (ps : List Str) (v' : Value) (w' : World) : Prop := ∃ qs : List Str, qs.Perm ps ∧ RisingS qs ∧ w'.ownsRow w.heap.size 9 1 v' qs.length (strsV qs) ∧ Go.RowKit.Below w.heap.size w w'

set_option maxHeartbeats 1000000 in
theorem sortedS_any {w : World} {a : Option Addr} {n c : Nat} {ps : List Str} (hn : ps.length = n) (hN : n ≤ 1000000) (hp : ps = [] ∨ PlainA a) (h : RowS w a ps) :
    Calls Tryz.prog 102 #[.slice a n c, .func (.func 103) #[] #[]] w fun e w' => ∃ v', e = .returned v' ∧ SortS w ps v' w' := by
  have HC := hide (clone_S (c := c) hn hN hp h)
  have HN : Hid (ps.length ≤ 1000000) := hide (by omega)
  clear h hn hp
  go_enter Tryz.func102, Tryz.ntmps102
  go_wp2_with (go_at_call 148; fail)
  refine (unhide HC).mono ?_
  rintro e w1 ⟨v', rfl, hr, hb⟩
  have HS : Hid (Calls Tryz.prog 149 #[v', .func (.func 103) #[] #[]] w1 fun e w' => e = .returned (.tuple #[]) ∧ SortS w ps v' w') := by
    rcases hr.2 with ⟨rfl, h0⟩ | ⟨g, cap, cur, rfl, hB, hblk, hcap, hcm, hcs, hcur⟩
    · refine (AnyF.slices_SortFunc_none (ρ := Tryz.sort149_ren) { Tryz.sort149 with } none 0 _ w1).mono ?_
      rintro e w' ⟨rfl, rfl⟩
      have e0 : ps = [] := List.length_eq_zero_iff.1 h0
      subst e0
      exact ⟨rfl, [], List.Perm.refl _, fun i j hi => by simp at hi, hr, hb⟩
    · refine (sort_S hb hB hb.size hblk hcap hcm hcs hcur (unhide HN)).mono ?_
      rintro e w' ⟨rfl, ys, h1, h2, h3, h4⟩
      have hl := h1.length_eq
      exact ⟨rfl, ys, h1, h2, h3, h4⟩
  clear hr hb HC
  go_wp2_with (go_at_call 149; fail)
  refine (unhide HS).mono ?_
  rintro e w2 ⟨rfl, hs⟩
  have HD := hide hs
  clear hs
  go_wp2
  go_ret
  exact ⟨v', rfl, unhide HD⟩

/-- A vendored module with the slice of its packages. -/
abbrev VE : Type := Vd × (Option Addr × Nat × Nat)
instance : Inhabited VE := ⟨⟨⟨([], []), false, []⟩, none, 0, 0⟩⟩
def vv (z : VE) : Vd × Value := (z.1, .slice z.2.1 z.2.2.1 z.2.2.2)
def vdE (z : VE) : List Value := [.string (ba z.1.m.1), .string (ba z.1.m.2), .bool z.1.x, .slice z.2.1 z.2.2.1 z.2.2.2]
def cmpVd (x y : VE) : Int := cmpM x.1.m y.1.m
theorem swo_V : SWO (ltOf cmpVd) := swo_of orders_m (fun z : VE => z.1.m) fun _ _ => rfl

set_option maxRecDepth 100000 in
set_option maxHeartbeats 2000000 in
theorem cmpVd_any {x y : VE} {w : World} (hg : Gd w) : Calls Tryz.prog 101 #[.agg (vdE x).toArray, .agg (vdE y).toArray] w fun e w' => e = .returned (.int .i64 (cmpVd x y)) ∧ Bel w.heap.size w w' := by
  obtain ⟨⟨m1, x1, k1⟩, a1, n1, c1⟩ := x
  obtain ⟨⟨m2, x2, k2⟩, a2, n2, c2⟩ := y
  obtain ⟨p1, v1⟩ := m1
  obtain ⟨p2, v2⟩ := m2
  obtain ⟨W, hW⟩ : ∃ W, (w.alloc (.cells #[.string (ba p1), .string (ba v1), .bool x1, .slice a1 n1 c1] 81)).alloc (.cells #[.string (ba p2), .string (ba v2), .bool x2, .slice a2 n2 c2] 81) = W := ⟨_, rfl⟩
  have b1 : Bel w.heap.size w W := by rw [← hW]; exact ((Bel.refl _ _).alloc (Nat.le_refl _) _).alloc (by simp) _
  have q1 : Blk W w.heap.size #[.string (ba p1), .string (ba v1), .bool x1, .slice a1 n1 c1] 81 := by rw [← hW]; exact (Blk.new _ _ _).alloc _
  have q2 : Blk W (w.heap.size + 1) #[.string (ba p2), .string (ba v2), .bool x2, .slice a2 n2 c2] 81 := by
    rw [← hW]
    have := Blk.new (w.alloc (.cells #[.string (ba p1), .string (ba v1), .bool x1, .slice a1 n1 c1] 81)) #[.string (ba p2), .string (ba v2), .bool x2, .slice a2 n2 c2] 81
    simpa using this
  have l1 : W.cell? ⟨w.heap.size, 0, none⟩ = some (.string (ba p1)) := q1.cell 0
  have l2 : W.cell? ⟨w.heap.size, 1, none⟩ = some (.string (ba v1)) := q1.cell 1
  have l3 : W.cell? ⟨w.heap.size + 1, 0, none⟩ = some (.string (ba p2)) := q2.cell 0
  have l4 : W.cell? ⟨w.heap.size + 1, 1, none⟩ = some (.string (ba v2)) := q2.cell 1
  have HC := hide (compareMods_any (p := (p1, v1)) (q := (p2, v2)) (hg.below b1))
  obtain ⟨r, hr⟩ : ∃ r, cmpM (p1, v1) (p2, v2) = r := ⟨_, rfl⟩
  have HR : Hid (cmpVd ((⟨(p1, v1), x1, k1⟩ : Vd), a1, n1, c1) ((⟨(p2, v2), x2, k2⟩ : Vd), a2, n2, c2) = r) := hide hr
  rw [unhide HR]
  rw [hr] at HC
  have HB := hide b1
  show Calls Tryz.prog 101 #[.agg #[.string (ba p1), .string (ba v1), .bool x1, .slice a1 n1 c1], .agg #[.string (ba p2), .string (ba v2), .bool x2, .slice a2 n2 c2]] w _
  clear b1 q1 q2 hg hr
  go_enter Tryz.func101, Tryz.ntmps101
  go_wp2_with (go_at_call 94; fail)
  refine (unhide HC).mono ?_
  rintro e w2 ⟨rfl, b2⟩
  have HB2 := hide (below_trans (unhide HB) b2)
  clear b2
  go_wp2
  go_ret
  exact ⟨rfl, unhide HB2⟩

end YthcafeoamabkgaaGreatDoor
end Go.Proofs

namespace Go.Proofs.YthcafeoamabkgaaGreatDoor
open Go.RowKit Go.Sort Go.Shelf

theorem low_sortV {w0 w : World} {B blk off m : Nat} {dk : Array VE} {os : Array Obj} (h : Go.RowKit.Below B w0 w) (hB : B ≤ blk) (hw : B ≤ w.heap.size) : Go.RowKit.Below B w0 (sortWorldK vdE 4 w blk off m dk os) := by
  have hsz : (putRowK vdE 4 (Sort.ahead w m) blk off dk).heap.size = w.heap.size := by
    unfold putRowK
    rw [size_putRow]
    rfl
  refine ⟨h.os, h.tape, h.output, ?_, fun k hk => ?_⟩
  · show w0.heap.size ≤ ((putRowK vdE 4 (Sort.ahead w m) blk off dk).heap ++ os).size
    rw [Array.size_append, hsz]
    have := h.size
    omega
  · show (grow (putRowK vdE 4 (Sort.ahead w m) blk off dk) os).heap[k]? = _
    rw [heap_grow_old _ _ (by rw [hsz]; omega)]
    show (w.heap.modify blk _)[k]? = _
    rw [Array.getElem?_modify, if_neg (by omega)]
    exact h.block k hk

theorem cmp_laysV {w0 w : World} {blk off n : Nat} (hg : Gd w0) (h : Go.RowKit.Below w0.heap.size w0 w) (hB : w0.heap.size ≤ blk) (hw : w0.heap.size ≤ w.heap.size) : CmpLays Tryz.prog 101 #[] vdE 4 cmpVd blk off n w := by
  intro m os dk _ x y
  have e : (#[Value.agg (vdE x).toArray, .agg (vdE y).toArray] ++ #[] : Array Value) = #[.agg (vdE x).toArray, .agg (vdE y).toArray] := by simp
  rw [e]
  refine (cmpVd_any (x := x) (y := y) (hg.low (low_sortV h hB hw))).mono ?_
  rintro e w' ⟨rfl, b⟩
  exact ⟨rfl, b.grow⟩

theorem vdsV_lenM (xs : List VE) : (vdsV (xs.map vv)).length = xs.length * 4 := by rw [vdsV_length, List.length_map]
theorem vdsV_get : ∀ (xs : List VE) (j : Nat), j < xs.length * 4 → (vdsV (xs.map vv))[j]? = some ((vdE (xs.toArray[j / 4]!))[j % 4]!)
  | [], j, h => by simp at h
  | x :: xs, 0, _ => by simp [vdsV, vdE, vv]
  | x :: xs, 1, _ => by simp [vdsV, vdE, vv]
  | x :: xs, 2, _ => by simp [vdsV, vdE, vv]
  | x :: xs, 3, _ => by simp [vdsV, vdE, vv]
  | x :: xs, j + 4, h => by
    have ih := vdsV_get xs j (by simp at h; omega)
    have e1 : (j + 4) / 4 = j / 4 + 1 := by omega
    have e2 : (j + 4) % 4 = j % 4 := by omega
    have hj : j / 4 < xs.length := by simp at h; omega
    rw [e1, e2]
    simp only [List.map_cons, vdsV, List.getElem?_cons_succ]
    rw [ih]
    simp [hj]

/-- No later module is less than an earlier one. -/
def RisingV (l : List VE) : Prop := ∀ i j (hi : i < l.length) (hj : j < l.length), i < j → ¬ cmpVd l[j] l[i] < 0

theorem sort_V {w0 w : World} {g cap : Nat} {xs : List VE} {cur : Array Value} (hg : Gd w0) (h : Go.RowKit.Below w0.heap.size w0 w) (hB : w0.heap.size ≤ g) (hw : w0.heap.size ≤ w.heap.size) (hblk : w.heap[g]? = some (.cells cur 81 (0, 0))) (hcap : xs.length ≤ cap) (hcm : cap ≤ maxLen) (hcs : cur.size = cap * 4) (hcur : cur.toList.take (xs.length * 4) = vdsV (xs.map vv)) (hn : xs.length ≤ 1000000) :
    Calls Tryz.prog 147 #[.slice (some ⟨g, 0, none⟩) xs.length cap, .func (.func 101) #[] #[]] w fun e w' => e = .returned (.tuple #[]) ∧ ∃ ys : List VE, ys.Perm xs ∧ RisingV ys ∧ w'.ownsRow w0.heap.size 81 4 (.slice (some ⟨g, 0, none⟩) xs.length cap) ys.length (vdsV (ys.map vv)) ∧ Go.RowKit.Below w0.heap.size w0 w' := by
  have at' : ∀ j, j < xs.length * 4 → cur[j]? = (vdsV (xs.map vv))[j]? := by
    intro j hj
    have h1 : cur.toList[j]? = (vdsV (xs.map vv))[j]? := by rw [← hcur, List.getElem?_take_of_lt hj]
    have h2 : cur[j]? = cur.toList[j]? := by simp
    rw [h2, h1]
  have hH : HoldsK vdE 4 w g 0 xs.toArray := by
    intro j hj
    rw [size_flatK] at hj
    have hj' : j < xs.length * 4 := by simpa using hj
    refine ⟨?_, Lib.frozen_of_heap hblk _⟩
    rw [Nat.zero_add, Lib.cell_of_heap hblk, at' j hj', vdsV_get xs j hj']
    show _ = some (flatK vdE 4 xs.toArray)[j]!
    rw [get_flatK _ _ _ _ hj]
  have hs := AnyQ.slices_SortFunc Tryz.sort147 4 Tryz.isAgg81 Tryz.sizeOf81 vdE (fun x => rfl) (fun x u hu => by simp [vdE] at hu; rcases hu with rfl | rfl | rfl | rfl <;> rfl) cmpVd swo_V 101 #[] g 0 cap xs.toArray w (enters_of Tryz.func101 (by kernel_rfl) rfl) (cmp_laysV hg h hB hw) hH (Array.getElem?_eq_some_iff.1 hblk).1 (by simp; omega)
  have e0 : xs.toArray.size = xs.length := by simp
  rw [e0] at hs
  refine hs.mono ?_
  rintro e w' ⟨rfl, d', n, os, hp, hso, rfl⟩
  obtain ⟨p1, _, p3⟩ := hp
  have hlen : d'.size = xs.length := by rw [p1, e0]
  have hperm : d'.toList.Perm xs := by
    have q1 : d'.extract 0 xs.length = d' := by rw [← hlen]; simp
    have q2 : xs.toArray.extract 0 xs.length = xs.toArray := by simp
    rw [q1, q2] at p3
    simpa using p3
  refine ⟨rfl, d'.toList, hperm, ?_, ?_, low_sortV h hB hw⟩
  · intro i j hi hj hij
    have hi' : i < d'.size := by simpa using hi
    have hj' : j < d'.size := by simpa using hj
    have := hso i j (Nat.zero_le _) hij (by rw [← hlen]; exact hj')
    rw [getElem!_pos d' i hi', getElem!_pos d' j hj'] at this
    have := of_decide_eq_false this
    simpa using this
  · have hgl : g < w.heap.size := (Array.getElem?_eq_some_iff.1 hblk).1
    have hb' : (sortWorldK vdE 4 w g 0 n d' os).heap[g]? = some (.cells (putCells id 0 (flatK vdE 4 d') cur) 81 (0, 0)) := by
      show (grow (putRowK vdE 4 (Sort.ahead w n) g 0 d') os).heap[g]? = _
      have hsz : (putRowK vdE 4 (Sort.ahead w n) g 0 d').heap.size = w.heap.size := by
        unfold putRowK
        rw [size_putRow]
        rfl
      rw [heap_grow_old _ _ (by rw [hsz]; exact hgl)]
      show (w.heap.modify g _)[g]? = _
      rw [Array.getElem?_modify, if_pos rfl, hblk]
      rfl
    have hl2 : d'.toList.length = xs.length := by simpa using hlen
    refine ⟨(by rw [vdsV_length, List.length_map]), Or.inr ⟨g, cap, _, by rw [hl2], hB, hb', by rw [hl2]; exact hcap, hcm, by simp [putCells, hcs], ?_⟩⟩
    rw [hl2]
    apply List.ext_getElem?
    intro j
    by_cases hj : j < xs.length * 4
    · rw [List.getElem?_take_of_lt hj]
      have hjc : j < cur.size := by rw [hcs]; omega
      have hjf : j < d'.size * 4 := by rw [hlen]; exact hj
      have h3 := vdsV_get d'.toList j (by rw [hl2]; exact hj)
      rw [h3]
      have e3 : (putCells id 0 (flatK vdE 4 d') cur).toList[j]? = (putCells id 0 (flatK vdE 4 d') cur)[j]? := by simp
      rw [e3]
      unfold putCells
      rw [Array.getElem?_mapIdx, Array.getElem?_eq_getElem hjc]
      simp only [Option.map_some]
      rw [if_pos ⟨Nat.zero_le _, by rw [size_flatK]; omega⟩, Nat.sub_zero, get_flatK _ _ _ _ hjf]
      simp
    · rw [List.getElem?_eq_none (by rw [List.length_take]; omega), List.getElem?_eq_none (by rw [vdsV_lenM, hl2]; omega)]


theorem vdsV_one (l : List VE) : ∀ u ∈ vdsV (l.map vv), u.oneCell' = true := by
  induction l with
  | nil => intro u hu; cases hu
  | cons x l ih =>
    intro u hu
    simp only [List.map_cons, vdsV, List.mem_cons] at hu
    rcases hu with rfl | rfl | rfl | rfl | h
    · rfl
    · rfl
    · rfl
    · rfl
    · exact ih u h

/-- A list of vendored modules, as it can be read. -/
def RowV (w : World) (a : Option Addr) (zs : List VE) : Prop := zs = [] ∨ ∃ B O, a = some ⟨B, O, none⟩ ∧ B < w.heap.size ∧ ∀ j u, (vdsV (zs.map vv))[j]? = some u → w.cell? ⟨B, O + j, none⟩ = some u

theorem clone_V {w : World} {a : Option Addr} {n c : Nat} {zs : List VE} (hn : zs.length = n) (hN : n ≤ 1000000) (hp : PlainA a) (h : RowV w a zs) :
    Calls Tryz.prog 146 #[.slice a n c] w fun e w' => ∃ v', e = .returned v' ∧ w'.ownsRow w.heap.size 81 4 v' zs.length (vdsV (zs.map vv)) ∧ Go.RowKit.Below w.heap.size w w' := by
  subst hn
  cases a with
  | none =>
    refine (AnyE.slices_Clone_nil Tryz.clone146 zs.length c w).mono ?_
    rintro e w' ⟨rfl, rfl⟩
    have h0 : zs = [] := by
      rcases h with h0 | ⟨_, _, e, _⟩
      · exact h0
      · cases e
    subst h0
    exact ⟨_, rfl, ⟨rfl, Or.inl ⟨rfl, rfl⟩⟩, Go.RowKit.Below.refl _ _⟩
  | some ad =>
    obtain ⟨B, O, rfl⟩ := hp ad rfl
    obtain ⟨i0, hi, hz0, hz1, hz2⟩ := info_parts info81
    refine (AnyE.slices_Clone Tryz.clone146 i0 _ 4 64 hi hz0 hz1 hz2 rfl (by omega) Tryz.sizeOf81 B O zs.length c (vdsV (zs.map vv)) w (vdsV_lenM zs) (by unfold maxLen; omega) (by omega) (fun j u hu => ?_) (vdsV_one zs)).mono ?_
    · rcases h with h0 | ⟨B', O', e1, _, h1⟩
      · rw [h0] at hu; simp [vdsV] at hu
      · cases e1
        exact h1 j u hu
    · rintro e w' ⟨v', rfl, hown, _, hb'⟩
      exact ⟨v', rfl, hown, hb'⟩

/-- What sorted answers. -/
def SortV (w : World) (zs : List VE) (v' : Value) (w' : World) : Prop := ∃ ys : List VE, ys.Perm zs ∧ RisingV ys ∧ w'.ownsRow w.heap.size 81 4 v' ys.length (vdsV (ys.map vv)) ∧ Go.RowKit.Below w.heap.size w w'

set_option maxHeartbeats 1000000 in
theorem sortedV_any {w : World} {a : Option Addr} {n c : Nat} {zs : List VE} (hg : Gd w) (hn : zs.length = n) (hN : n ≤ 1000000) (hp : PlainA a) (h : RowV w a zs) :
    Calls Tryz.prog 100 #[.slice a n c, .func (.func 101) #[] #[]] w fun e w' => ∃ v', e = .returned v' ∧ SortV w zs v' w' := by
  have HC := hide (clone_V (c := c) hn hN hp h)
  have HN : Hid (zs.length ≤ 1000000) := hide (by omega)
  have HG := hide hg
  clear h hn hp hg
  go_enter Tryz.func100, Tryz.ntmps100
  go_wp2_with (go_at_call 146; fail)
  refine (unhide HC).mono ?_
  rintro e w1 ⟨v', rfl, hr, hb⟩
  have HS : Hid (Calls Tryz.prog 147 #[v', .func (.func 101) #[] #[]] w1 fun e w' => e = .returned (.tuple #[]) ∧ SortV w zs v' w') := by
    rcases hr.2 with ⟨rfl, h0⟩ | ⟨g, cap, cur, rfl, hB, hblk, hcap, hcm, hcs, hcur⟩
    · refine (AnyF.slices_SortFunc_none Tryz.sort147 none 0 _ w1).mono ?_
      rintro e w' ⟨rfl, rfl⟩
      have e0 : zs = [] := List.length_eq_zero_iff.1 h0
      subst e0
      exact ⟨rfl, [], List.Perm.refl _, fun i j hi => by simp at hi, hr, hb⟩
    · refine (sort_V (unhide HG) hb hB hb.size hblk hcap hcm hcs hcur (unhide HN)).mono ?_
      rintro e w' ⟨rfl, ys, h1, h2, h3, h4⟩
      exact ⟨rfl, ys, h1, h2, h3, h4⟩
  clear hr hb HC
  go_wp2_with (go_at_call 147; fail)
  refine (unhide HS).mono ?_
  rintro e w2 ⟨rfl, hs⟩
  have HD := hide hs
  clear hs
  go_wp2
  go_ret
  exact ⟨v', rfl, unhide HD⟩

end Go.Proofs.YthcafeoamabkgaaGreatDoor

namespace Go.Proofs.YthcafeoamabkgaaGreatDoor
open Go.RowKit

theorem rowT_mono {w : World} {A B n k : Nat} {T : TypeId} {v : Value} {xs : List Value} (h : w.ownsRow B T k v n xs) (hAB : A ≤ B) : w.ownsRow A T k v n xs := by
  refine ⟨h.1, ?_⟩
  rcases h.2 with h | ⟨g, cap, cur, e, hb, rest⟩
  · exact Or.inl h
  · exact Or.inr ⟨g, cap, cur, e, Nat.le_trans hAB hb, rest⟩
theorem rowT_cell {w : World} {base n k g cap : Nat} {T : TypeId} {xs : List Value} (h : w.ownsRow base T k (.slice (some ⟨g, 0, none⟩) n cap) n xs) {j : Nat} {u : Value} (hu : xs[j]? = some u) : w.cell? ⟨g, j, none⟩ = some u := by
  rcases h.2 with ⟨e, _⟩ | ⟨g', cap', cur, e, _, hb, _, _, _, ht⟩
  · cases e
  · cases e
    have hj : j < n * k := by
      have := (List.getElem?_eq_some_iff.1 hu).1
      rwa [h.1] at this
    rw [Lib.cell_of_heap hb]
    rw [← ht, List.getElem?_take_of_lt hj] at hu
    simpa using hu

theorem vds_at (rs : List (Vd × Value)) (z : Vd × Value) (r : List (Vd × Value)) : (vdsV (rs ++ z :: r))[rs.length * 4]? = some (.string (ba z.1.m.1)) ∧ (vdsV (rs ++ z :: r))[rs.length * 4 + 1]? = some (.string (ba z.1.m.2)) ∧ (vdsV (rs ++ z :: r))[rs.length * 4 + 2]? = some (.bool z.1.x) ∧ (vdsV (rs ++ z :: r))[rs.length * 4 + 3]? = some z.2 := by
  have h : ∀ j, (vdsV (rs ++ z :: r))[rs.length * 4 + j]? = (vdsV (z :: r))[j]? := fun j => by
    rw [vdsV_append, List.getElem?_append_right (by rw [vdsV_length]; omega), vdsV_length, Nat.add_sub_cancel_left]
  exact ⟨h 0, h 1, h 2, h 3⟩
theorem vds_setm (rs : List (Vd × Value)) (z : Vd × Value) (r : List (Vd × Value)) (s : Value) (pk : List Str) : (vdsV (rs ++ z :: r)).set (rs.length * 4 + 3) s = vdsV ((rs ++ [((⟨z.1.m, z.1.x, pk⟩ : Vd), s)]) ++ r) := by
  rw [vdsV_append, List.append_assoc, vdsV_append, List.set_append_right _ _ (by rw [vdsV_length]; omega), vdsV_length]
  congr 1
  rw [Nat.add_sub_cancel_left]
  rfl

/-- An element, and what stands for it behind the sort. -/
def Elt (z : VE) (r : Vd × Value) : Prop := r.1.m = z.1.m ∧ r.1.x = z.1.x ∧ r.1.pk.Perm z.1.pk ∧ RisingS r.1.pk

/-- How far the sort of the packages has come. -/
structure VMid (w wr : World) (v : Value) (ys : List VE) (i : Nat) (rs : List (Vd × Value)) : Prop where
  low : Below w.heap.size w wr
  len : rs.length = i
  elt : ∀ j (h1 : j < rs.length) (h2 : j < ys.length), Elt ys[j] rs[j]
  row : wr.ownsRow w.heap.size 81 4 v ys.length (vdsV (rs ++ (ys.drop i).map vv))
  all : VAll w wr rs

/-- What vendorSorted answers. -/
def VSorted (w : World) (zs : List VE) (v' : Value) (w' : World) : Prop :=
  ∃ ys : List VE, ys.Perm zs ∧ RisingV ys ∧ ∃ rs, VMid w w' v' ys ys.length rs

/-- The packages of each element, as they can be read. -/
def PacksR (w : World) (zs : List VE) : Prop := ∀ z ∈ zs, z.1.pk.length = z.2.2.1 ∧ z.2.2.1 ≤ 1000000 ∧ (z.1.pk = [] ∨ PlainA z.2.1) ∧ RowS w z.2.1 z.1.pk

theorem VMid.next {w wr w5 : World} {g cap i : Nat} {ys : List VE} {rs : List (Vd × Value)} {y : VE} {s : Value} (h : VMid w wr (.slice (some ⟨g, 0, none⟩) ys.length cap) ys i rs) (hi : i < ys.length) (hy : ys[i] = y) (b4 : Below wr.heap.size wr w5) (w4 : World) (h4 : w.heap.size ≤ w4.heap.size) (hs : ∃ qs : List Str, qs.Perm y.1.pk ∧ RisingS qs ∧ w5.ownsRow w4.heap.size 9 1 s qs.length (strsV qs)) :
    ∃ rs', VMid w (w5.setCell ⟨g, i * 4 + 3, none⟩ s) (.slice (some ⟨g, 0, none⟩) ys.length cap) ys (i + 1) rs' := by
  obtain ⟨qs, q1, q2, q3⟩ := hs
  have hli := h.len
  subst hli
  have hd : ys.drop rs.length = y :: ys.drop (rs.length + 1) := by rw [← hy]; exact List.drop_eq_getElem_cons hi
  have hrow := h.row
  rw [hd, List.map_cons] at hrow
  have hrow5 := rowT_low hrow b4
  obtain ⟨hg, cur, hb⟩ := rowT hrow5 (g := g) rfl
  have hset := rowT_set (j := rs.length * 4 + 3) hrow5 (by omega) s
  rw [vds_setm rs (vv y) _ s qs] at hset
  have far : ∀ k, k ≠ g → (w5.setCell ⟨g, rs.length * 4 + 3, none⟩ s).heap[k]? = w5.heap[k]? := fun k hk => Below.heap_setCell _ _ _ _ hk
  have h9 : ∀ {A : Nat} {v : Value} {m : Nat} {xs : List Value}, w5.ownsRow A 9 1 v m xs → (w5.setCell ⟨g, rs.length * 4 + 3, none⟩ s).ownsRow A 9 1 v m xs := fun hr => rowT_same hr fun b hbb => far b (fun e => by
    obtain ⟨_, c, hc⟩ := rowT hr hbb
    rw [e, hb] at hc
    simp at hc)
  refine ⟨rs ++ [((⟨(vv y).1.m, (vv y).1.x, qs⟩ : Vd), s)], ⟨(h.low.trans (b4.mono h.low.size)).setCell (p := ⟨g, rs.length * 4 + 3, none⟩) hg _, by simp, ?_, hset, ?_⟩⟩
  · intro j h1 h2
    by_cases hj : j < rs.length
    · rw [List.getElem_append_left hj]
      exact h.elt j hj h2
    · have ej : j = rs.length := by simp at h1; omega
      subst ej
      simp only [List.getElem_concat_length]
      rw [hy]
      exact ⟨rfl, rfl, q1, q2⟩
  · intro z hz
    rcases List.mem_append.1 hz with hz | hz
    · exact h9 (rowT_low (h.all z hz) b4)
    · rw [List.mem_singleton] at hz
      subst hz
      exact h9 (rowT_mono q3 h4)

set_option maxRecDepth 100000 in
set_option maxHeartbeats 4000000 in
theorem vendorSorted_any {w : World} {a : Option Addr} {n c : Nat} {zs : List VE} (hg : Gd w) (hn : zs.length = n) (hN : n ≤ 1000000) (hp : PlainA a) (h : RowV w a zs) (hk : PacksR w zs) :
    Calls Tryz.prog 57 #[.slice a n c] w fun e w' => ∃ v', e = .returned v' ∧ VSorted w zs v' w' := by
  have HC := hide (sortedV_any (c := c) hg hn hN hp h)
  have HK := hide hk
  have hn2 : zs.length ≤ 1000000 := by omega
  clear h hg hp hk hN hn
  go_enter Tryz.func57, Tryz.ntmps57
  go_wp2_with (go_at_call 100; fail)
  refine (unhide HC).mono ?_
  rintro e w1 ⟨v', rfl, ys, hpm, hri, hrow, hb⟩
  obtain ⟨a0, cap, rfl⟩ := slice_own hrow
  have hlen : ys.length ≤ 1000000 := by rw [hpm.length_eq]; exact hn2
  have HM := hide (show VMid w w1 (.slice a0 ys.length cap) ys 0 [] from ⟨hb, rfl, fun j hj => by simp at hj, hrow, fun z hz => by cases hz⟩)
  have HP := hide hpm
  have HR := hide hri
  clear hpm hri hrow hb HC hn2
  obtain ⟨N, hNl⟩ : ∃ N, ys.length = N := ⟨_, rfl⟩
  have HNL := hide hNl
  rw [hNl] at HM hlen ⊢
  clear hNl
  go_wp2
  go_loopw [4, 5, 10] (fun _ _ v10 wr => ∃ i : Nat, i ≤ N ∧ v10 = .int .i64 i ∧ ∃ rs, VMid w wr (.slice a0 N cap) ys i rs) (fun _ _ v10 _ => N - (intOf v10).toNat)
  case atStart => exact ⟨0, Nat.zero_le _, rfl, _, unhide HM⟩
  case round =>
    rename World => wr
    obtain ⟨i, hi, rfl, rs, hm⟩ := hrel
    clear HM
    by_cases hlt : i < N
    · have hN := unhide HNL
      have hi' : i < ys.length := by omega
      obtain ⟨g, rfl⟩ : ∃ g, a0 = some ⟨g, 0, none⟩ := by
        rcases hm.row.2 with ⟨_, h0⟩ | ⟨g, _, _, e, _⟩
        · omega
        · cases e; exact ⟨g, rfl⟩
      obtain ⟨y, hy⟩ : ∃ y, ys[i] = y := ⟨_, rfl⟩
      have hym : y ∈ zs := (unhide HP).mem_iff.1 (by rw [← hy]; exact List.getElem_mem hi')
      obtain ⟨k1, k2, k3, k4⟩ := unhide HK y hym
      have hli := hm.len
      have hrow := hm.row
      have hd : ys.drop i = y :: ys.drop (i + 1) := by rw [← hy]; exact List.drop_eq_getElem_cons hi'
      rw [hd, List.map_cons, hN] at hrow
      obtain ⟨a1, a2, a3, a4⟩ := vds_at rs (vv y) ((ys.drop (i + 1)).map vv)
      rw [hli] at a1 a2 a3 a4
      have c0 := rowT_cell hrow a1
      have c1 := rowT_cell hrow a2
      have c2 := rowT_cell hrow a3
      have c3 := rowT_cell hrow a4
      obtain ⟨_, cur, hblk⟩ := rowT hrow (g := g) rfl
      have hgl : g < wr.heap.size := (Array.getElem?_eq_some_iff.1 hblk).1
      obtain ⟨⟨⟨p, v⟩, x, pk⟩, ay, ny, cy⟩ := y
      simp only [vv] at c0 c1 c2 c3 k1 k2 k3 k4
      obtain ⟨W4, hW4⟩ : ∃ W4, wr.alloc (.cells #[.string (ba p), .string (ba v), .bool x, .slice ay ny cy] 81) = W4 := ⟨_, rfl⟩
      have b4 : Below wr.heap.size wr W4 := by rw [← hW4]; exact (Below.refl _ _).alloc (Nat.le_refl _) _
      have q4 : Blk W4 wr.heap.size #[.string (ba p), .string (ba v), .bool x, .slice ay ny cy] 81 := by rw [← hW4]; exact Blk.new _ _ _
      have l3 : W4.cell? ⟨wr.heap.size, 3, none⟩ = some (.slice ay ny cy) := q4.cell 3
      have HS := hide (sortedS_any (w := W4) (a := ay) (n := ny) (c := cy) (ps := pk) k1 k2 k3 (k4.low (low_trans hm.low b4)))
      have h4 : w.heap.size ≤ W4.heap.size := Nat.le_trans hm.low.size b4.size
      have HB4 := hide b4
      have HH4 := hide h4
      have HMM := hide hm
      have HY : Hid (∀ h : i < ys.length, ys[i] = ((⟨(p, v), x, pk⟩ : Vd), ay, ny, cy)) := hide (fun _ => hy)
      have HI := hide hi'
      have HC3 := hide (And.intro hgl (And.intro c3 hblk))
      have HW4 := hide hW4
      clear hm hy hi' hli hrow hd a1 a2 a3 a4 k1 k2 k3 k4 b4 q4 hym h4 hblk hgl hN hW4
      go_wp2_with (go_at_call 102; fail)
      rw [unhide HW4]
      refine (unhide HS).mono ?_
      rintro e w5 ⟨s, rfl, qs, q1, q2, q3, b5⟩
      obtain ⟨a9, c9, rfl⟩ := slice_own q3
      obtain ⟨n9, hn9⟩ : ∃ n9, qs.length = n9 := ⟨_, rfl⟩
      have b45 := low_trans (unhide HB4) b5
      have hb5 : w5.heap[g]? = some (.cells cur 81 (0, 0)) := (b45.block g (unhide HC3).1).trans (unhide HC3).2.2
      have e3 : w5.cell? ⟨g, i * 4 + 3, none⟩ = some (.slice ay ny cy) := (b45.cell (p := ⟨g, i * 4 + 3, none⟩) (unhide HC3).1).trans (unhide HC3).2.1
      have ef : w5.frozen? ⟨g, i * 4 + 3, none⟩ = false := Lib.frozen_of_heap hb5 _
      have hnext := VMid.next (g := g) (cap := cap) (s := .slice a9 qs.length c9) (by rw [unhide HNL]; exact unhide HMM) (unhide HI) (unhide HY (unhide HI)) b45 W4 (unhide HH4) ⟨qs, q1, q2, q3⟩
      rw [unhide HNL, hn9] at hnext
      rw [hn9]
      have HX := hide hnext
      clear hnext q1 q2 q3 b5 b45 hb5 hn9
      go_wp2
      go_roundw
      case rel => exact ⟨i + 1, by omega, by simp, unhide HX⟩
      case measure => simp [intOf]; omega
    · have hiN : i = N := by omega
      subst hiN
      have HD : Hid (VSorted w zs (.slice a0 i cap) wr) := hide ⟨ys, unhide HP, unhide HR, rs, by rw [unhide HNL]; exact hm⟩
      clear hm
      go_wp2
      go_ret
      exact ⟨_, rfl, unhide HD⟩

end Go.Proofs.YthcafeoamabkgaaGreatDoor

namespace Go.Proofs.YthcafeoamabkgaaGreatDoor
open Go.RowKit

/-- What a text says, as a vendor list. -/
def vendF (t : Str) : List Vd × Nat × Int := if 65536 < t.length then ([], 0, 13) else readV t.length [] [] none 1 t

theorem stepV_same {ms : List Md} {y : Option Vd} {l : Str} {y' : Vd} (h : stepV ms y l = .same y') : ∃ y0, y = some y0 ∧ y'.pk.length ≤ y0.pk.length + 1 := by
  unfold stepV at h
  split at h
  · split at h <;> cases h
  · split at h
    · cases h
    · rename_i y0
      split at h
      · cases h; exact ⟨y0, rfl, Nat.le_succ _⟩
      · split at h
        · split at h
          · cases h; exact ⟨y0, rfl, by simp⟩
          · cases h
        · cases h

theorem readV_len {K : Nat} : ∀ (f : Nat) (ms : List Md) (xs : List Vd) (y : Option Vd) (k : Nat) (t : Str), (∀ z ∈ xs, z.pk.length ≤ k) → xs.length ≤ k → (∀ z, y = some z → z.pk.length ≤ k) → k + t.length ≤ K → (∀ z ∈ (readV f ms xs y k t).1, z.pk.length ≤ K) ∧ (readV f ms xs y k t).1.length ≤ K + 1
  | f, ms, xs, y, k, t, h1, h2, h3, h4 => by
    have base : (∀ z ∈ xs ++ y.toList, z.pk.length ≤ K) ∧ (xs ++ y.toList).length ≤ K + 1 := by
      refine ⟨fun z hz => ?_, ?_⟩
      · rcases List.mem_append.1 hz with hz | hz
        · have := h1 z hz; omega
        · have := h3 z (by cases y <;> simp_all); omega
      · rw [List.length_append]
        have : y.toList.length ≤ 1 := by cases y <;> simp
        omega
    have bad : (∀ z ∈ ([] : List Vd), z.pk.length ≤ K) ∧ ([] : List Vd).length ≤ K + 1 := ⟨fun z hz => (by cases hz), Nat.zero_le _⟩
    cases f with
    | zero => exact base
    | succ f =>
      unfold readV
      by_cases h0 : t = []
      · rw [if_pos h0]; exact base
      · rw [if_neg h0]
        have hlt := behind_lt 10 h0
        cases hs : stepV ms y (ahead 10 t) with
        | bad e => exact bad
        | new m =>
          simp only
          split
          · refine readV_len f _ _ _ _ _ (fun z hz => ?_) ?_ (fun z hz => by cases hz; exact Nat.zero_le _) (by omega)
            · rcases List.mem_append.1 hz with hz | hz
              · have := h1 z hz; omega
              · have := h3 z (by cases y <;> simp_all); omega
            · rw [List.length_append]
              have : y.toList.length ≤ 1 := by cases y <;> simp
              omega
          · exact bad
        | same y' =>
          simp only
          obtain ⟨y0, e0, hy⟩ := stepV_same hs
          split
          · exact readV_len f _ _ _ _ _ (fun z hz => by have := h1 z hz; omega) (by omega) (fun z hz => by cases hz; have := h3 y0 e0; omega) (by omega)
          · exact bad

/-- A list that lies in memory, in the form in which it is sorted. -/
theorem vlist_ve {w0 w : World} {v : Value} {xs : List Vd} (h : VList w0 w v xs) (hb : ∀ z ∈ xs, z.pk.length ≤ 1000000) : ∃ (zs : List VE) (a : Option Addr) (c : Nat), zs.map Prod.fst = xs ∧ v = .slice a zs.length c ∧ PlainA a ∧ RowV w a zs ∧ PacksR w zs := by
  obtain ⟨zs, rfl, hrow, hall⟩ := h
  have key : ∀ l : List (Vd × Value), (∀ z ∈ l, w.ownsRow w0.heap.size 9 1 z.2 z.1.pk.length (strsV z.1.pk)) → (∀ z ∈ l, z.1.pk.length ≤ 1000000) → ∃ zs : List VE, zs.map vv = l ∧ PacksR w zs := by
    intro l
    induction l with
    | nil => intro _ _; exact ⟨[], rfl, fun z hz => by cases hz⟩
    | cons z l ih =>
      intro h1 h2
      obtain ⟨zs, e, hp⟩ := ih (fun z hz => h1 z (by simp [hz])) (fun z hz => h2 z (by simp [hz]))
      have hr := h1 z (by simp)
      obtain ⟨a, c, es⟩ := slice_own hr
      refine ⟨(z.1, a, z.1.pk.length, c) :: zs, by rw [List.map_cons, e]; congr 1; unfold vv; rw [← es], fun u hu => ?_⟩
      rcases List.mem_cons.1 hu with rfl | hu
      · refine ⟨rfl, h2 z (by simp), Or.inr ?_, ?_⟩
        · rcases hr.2 with ⟨e1, _⟩ | ⟨g, cap, cur, e1, _⟩
          · rw [es] at e1
            have ea : a = none := (Value.slice.inj e1).1
            intro ad h; rw [ea] at h; cases h
          · rw [es] at e1
            have ea : a = some ⟨g, 0, none⟩ := (Value.slice.inj e1).1
            intro ad h; rw [ea] at h; cases h; exact ⟨_, _, rfl⟩
        · rcases hr.2 with ⟨_, e0⟩ | ⟨g, cap, cur, e1, _⟩
          · exact Or.inl (List.length_eq_zero_iff.1 e0)
          · rw [es] at e1 hr; cases e1
            refine Or.inr ⟨g, 0, rfl, rowT_lt hr rfl, fun j hj => ?_⟩
            rw [Nat.zero_add]
            exact rowT_cell hr (by unfold strsV; rw [List.getElem?_map, List.getElem?_eq_getElem hj]; rfl)
      · exact hp u hu
  obtain ⟨ve, e, hp⟩ := key zs hall (fun z hz => hb _ (List.mem_map_of_mem hz))
  subst e
  have hl : (ve.map vv).length = ve.length := by simp
  unfold VRow at hrow
  rw [hl] at hrow
  obtain ⟨a, c, rfl⟩ := slice_own hrow
  refine ⟨ve, a, c, by rw [List.map_map]; rfl, rfl, ?_, ?_, hp⟩
  · rcases hrow.2 with ⟨e1, _⟩ | ⟨g, cap, cur, e1, _⟩
    · have ea : a = none := (Value.slice.inj e1).1
      intro ad h; rw [ea] at h; cases h
    · have ea : a = some ⟨g, 0, none⟩ := (Value.slice.inj e1).1
      intro ad h; rw [ea] at h; cases h; exact ⟨_, _, rfl⟩
  · rcases hrow.2 with ⟨_, e0⟩ | ⟨g, cap, cur, e1, _⟩
    · exact Or.inl (List.length_eq_zero_iff.1 e0)
    · cases e1
      exact Or.inr ⟨g, 0, rfl, rowT_lt hrow rfl, fun j u hu => by rw [Nat.zero_add]; exact rowT_cell hrow hu⟩

/-- What ParseVendor answers. -/
def VPSaid (w : World) (t : Str) (e : Ending) (w' : World) : Prop :=
  ∃ (v' : Value) (zs : List VE) (W : World), e = .returned (.tuple #[v', .int .i64 ((vendF t).2.1 : Nat), .int .i64 (vendF t).2.2]) ∧ zs.map Prod.fst = (vendF t).1 ∧ VSorted W zs v' w' ∧ Below w.heap.size w W

set_option maxRecDepth 100000 in
set_option maxHeartbeats 2000000 in
theorem vreadLines_long {w : World} {ck : Nat} {t : Str} (ht : 65536 < t.length) (hb : t.length < 4294967281) :
    Calls Tryz.prog 59 #[.string (ba t), .func (.func 60) #[.pointer (some ⟨ck, 0, none⟩)] #[]] w fun e w' => e = .returned (.tuple #[.slice none 0 0, .int .i64 0, .int .i64 13]) ∧ w' = w := by
  have hsz : (ba t).size = t.length := ba_size t
  have hq : (65536 : Int) < (t.length : Int) := by omega
  go_enter Tryz.func59, Tryz.ntmps59
  go_wp2
  go_ret3
  exact ⟨rfl, rfl⟩

set_option maxRecDepth 100000 in
set_option maxHeartbeats 4000000 in
theorem parseV_any {w : World} {t : Str} (hg : Gd w) (hb : t.length < 4294967281) : Calls Tryz.prog 20 #[.string (ba t)] w (VPSaid w t) := by
  have HC := hide (vendorCheck_any w)
  have HG := hide hg
  have HV : ∀ w1, RdAt w w1 (w.heap.size + 1) w.heap.size 0 [] (.slice none 0 0) [] none → Hid (Calls Tryz.prog 59 #[.string (ba t), .func (.func 60) #[.pointer (some ⟨w.heap.size + 1, 0, none⟩)] #[]] w1 (VReadsSaid w (vendF t))) := fun w1 hr => hide (by
    unfold vendF
    by_cases ht : 65536 < t.length
    · rw [if_pos ht]
      refine (vreadLines_long ht hb).mono ?_
      rintro e w' ⟨rfl, rfl⟩
      exact ⟨_, rfl, vlist_nil _ _, hr.low⟩
    · rw [if_neg ht]
      exact vreadLines_any (unhide HG) hr (by omega))
  have HL : Hid (∀ z ∈ (vendF t).1, z.pk.length ≤ 1000000) := hide (by
    unfold vendF
    by_cases ht : 65536 < t.length
    · rw [if_pos ht]; intro z hz; cases hz
    · rw [if_neg ht]
      intro z hz
      have := (readV_len (K := 65537) t.length [] [] none 1 t (fun z hz => by cases hz) (Nat.zero_le _) (fun z hz => by cases hz) (by omega)).1 z hz
      omega)
  have HL2 : Hid ((vendF t).1.length ≤ 1000000) := hide (by
    unfold vendF
    by_cases ht : 65536 < t.length
    · rw [if_pos ht]; exact Nat.zero_le _
    · rw [if_neg ht]
      have := (readV_len (K := 65537) t.length [] [] none 1 t (fun z hz => by cases hz) (Nat.zero_le _) (fun z hz => by cases hz) (by omega)).2
      omega)
  unfold VPSaid
  obtain ⟨R, hR⟩ : ∃ R, vendF t = R := ⟨_, rfl⟩
  rw [hR] at HV HL HL2 ⊢
  obtain ⟨xs, n, en⟩ := R
  have HVV := hide HV
  clear hg hR HV
  go_enter Tryz.func20, Tryz.ntmps20
  go_wp2_with (go_at_call 54; fail)
  refine (unhide HC).mono ?_
  rintro e w1 ⟨rfl, hr⟩
  have H59 := unhide HVV w1 hr
  clear hr HC
  go_wp2_with (go_at_call 59; fail)
  refine (unhide H59).mono ?_
  rintro e w2 ⟨v2, rfl, hl, b2⟩
  obtain ⟨zs, a, c, hz, rfl, h1, h2, h3⟩ := vlist_ve hl (unhide HL)
  have hzl : zs.length ≤ 1000000 := by
    have h4 := congrArg List.length hz
    rw [List.length_map] at h4
    have h5 := unhide HL2
    show zs.length ≤ 1000000
    rw [h4]
    exact h5
  have HS := hide (vendorSorted_any (c := c) ((unhide HG).low b2) rfl hzl h1 h2 h3)
  have HB2 := hide b2
  have HZ := hide hz
  clear hl b2 hz h1 h2 h3 hzl H59
  go_wp2_with (go_at_call 57; fail)
  refine (unhide HS).mono ?_
  rintro e w3 ⟨v3, rfl, hv⟩
  have HD := hide hv
  clear hv
  go_wp2
  go_ret3
  exact ⟨v3, zs, w2, rfl, unhide HZ, unhide HD, unhide HB2⟩

end Go.Proofs.YthcafeoamabkgaaGreatDoor
