/-
  Files in a row; sorted by their names.
-/
import Derived.Test.YtkablmjkffdloaaGreatDoorShaX
import Derived.Test.YtkablmjkffdloaaGreatDoorBel
import Derived.Test.YtkablmjkffdloaaGreatDoorPure
import Derived.Test.YtkablmjkffdloaaGreatDoorSLY
import Derived.Test.YtkablmjkffdloaaGreatDoorShelf
import Derived.Shelf.SlicesE.Clone
import Derived.Shelf.SlSortCmp.WholeK
namespace Go.Proofs
def Tryz.clone128_ren : Go.Shelf.Ren := ⟨fun | 41 => 128 | n => n, fun | 22 => 22 | 23 => 56 | 4 => 4 | n => n, fun | n => n⟩
theorem Tryz.clone128 : Go.Proofs.SlLaysE0.n41 Tryz.prog Tryz.clone128_ren := {
  mixed := by kernel_rfl
  f41 := ⟨Tryz.f128.name, by decide, Tryz.func128.trans (congrArg some (by kernel_rfl))⟩
  t4 := Tryz.underlying4
  a4 := Tryz.isAgg4
  z4 := Tryz.sizeOf4
  v4 := Tryz.zeroValue4
  t22 := Tryz.underlying22
  a22 := Tryz.isAgg22
  z22 := Tryz.sizeOf22
  v22 := Tryz.zeroValue22 }

namespace YtkablmjkffdloaaGreatDoor
open Go.RowKit Go.Sort Go.Shelf

/-- A file as it lies in a row: its name, where its bytes lie. -/
structure Fl where
  nm : Bs
  a : Option Addr
  n : Nat
  c : Nat
instance : Inhabited Fl := ⟨⟨[], none, 0, 0⟩⟩
def flL (x : Fl) : List Value := [.string ⟨x.nm.toArray⟩, .slice x.a x.n x.c]
def flsV : List Fl → List Value
  | [] => []
  | x :: xs => .string ⟨x.nm.toArray⟩ :: .slice x.a x.n x.c :: flsV xs
theorem flsV_append (l m : List Fl) : flsV (l ++ m) = flsV l ++ flsV m := by
  induction l with
  | nil => rfl
  | cons x l ih => simp [flsV, ih]
theorem flsV_length (l : List Fl) : (flsV l).length = l.length * 2 := by
  induction l with
  | nil => rfl
  | cons x l ih => simp [flsV, ih]; omega
theorem flsV_one (l : List Fl) : ∀ u ∈ flsV l, u.oneCell' = true := by
  induction l with
  | nil => intro u hu; cases hu
  | cons x l ih =>
    intro u hu
    simp only [flsV, List.mem_cons] at hu
    rcases hu with rfl | rfl | h
    · rfl
    · rfl
    · exact ih u h
/-- A row of files that is ours. -/
abbrev FRow (base : Nat) (w : World) (v : Value) (xs : List Fl) : Prop := w.ownsRow base 56 2 v xs.length (flsV xs)
theorem info56 : (Tryz.prog.info? 56).map (fun i => (i.zero, i.size, i.bytes)) = some (some (.agg #[.string ⟨#[]⟩, .slice none 0 0]), 2, 40) := by kernel_rfl
/-- Files lie at a slice, whoever owns it. -/
structure FAt (w : World) (a : Option Addr) (xs : List Fl) : Prop where
  els : xs = [] ∨ ∃ B O, a = some ⟨B, O, none⟩ ∧ ∀ j u, (flsV xs)[j]? = some u → w.cell? ⟨B, O + j, none⟩ = some u
theorem FAt.low {w w' : World} {a : Option Addr} {xs : List Fl} (h : FAt w a xs) (hb : Go.RowKit.Below w.heap.size w w') : FAt w' a xs := by
  rcases h.els with h0 | ⟨B, O, ha, he⟩
  · exact ⟨Or.inl h0⟩
  · exact ⟨Or.inr ⟨B, O, ha, fun j u hu => (hb.cell (lt_of_cell (he j u hu))).trans (he j u hu)⟩⟩
theorem FRow.at {base : Nat} {w : World} {v : Value} {xs : List Fl} (h : FRow base w v xs) : ∃ a c, v = .slice a xs.length c ∧ FAt w a xs ∧ xs.length ≤ c := by
  rcases h.2 with ⟨rfl, h0⟩ | ⟨g, cap, cur, rfl, hb, hblk, hcap, hcm, hcs, hcur⟩
  · exact ⟨none, 0, by rw [h0], ⟨Or.inl (List.length_eq_zero_iff.1 h0)⟩, by omega⟩
  · refine ⟨_, _, rfl, ⟨Or.inr ⟨g, 0, rfl, fun j u hu => ?_⟩⟩, hcap⟩
    have hj : j < xs.length * 2 := by
      have := (List.getElem?_eq_some_iff.1 hu).1
      rwa [flsV_length] at this
    have h1 : cur.toList[j]? = (flsV xs)[j]? := by rw [← hcur, List.getElem?_take_of_lt hj]
    have h2 : cur[j]? = cur.toList[j]? := by simp
    rw [Lib.cell_of_heap hblk, Nat.zero_add, h2, h1, hu]

/-- slices.Clone of files. -/
theorem clone_F {w : World} {a : Option Addr} {n c : Nat} {xs : List Fl} (hx : xs.length = n) (hform : (a = none ∧ n = 0 ∧ c = 0) ∨ ∃ B O, a = some ⟨B, O, none⟩) (h : FAt w a xs) (hn : n ≤ 1000000) (hc : n ≤ c) :
    Calls Tryz.prog 128 #[.slice a n c] w fun e w' => ∃ v', e = .returned v' ∧ FRow w.heap.size w' v' xs ∧ Go.RowKit.Below w.heap.size w w' := by
  rcases hform with ⟨rfl, rfl, rfl⟩ | ⟨B, O, rfl⟩
  · have hx0 : xs = [] := List.length_eq_zero_iff.1 hx
    subst hx0
    refine (AnyE.slices_Clone_nil Tryz.clone128 0 0 w).mono ?_
    rintro e w' ⟨rfl, rfl⟩
    exact ⟨_, rfl, World.ownsRow_nil _ _ _ _, Below.refl _ _⟩
  · obtain ⟨i0, hi, hz0, hz1, hz2⟩ := info_parts info56
    rw [← hx]
    refine (AnyE.slices_Clone Tryz.clone128 i0 _ 2 40 hi hz0 hz1 hz2 rfl (by omega) Tryz.sizeOf56 B O xs.length c (flsV xs) w (flsV_length xs) (by unfold maxLen; omega) (by omega) ?_ (flsV_one xs)).mono ?_
    · intro j u hu
      rcases h.els with e | ⟨B', O', ea, he⟩
      · rw [e] at hu; simp [flsV] at hu
      · cases ea
        exact he j u hu
    · rintro e w' ⟨v', rfl, hown, _, hb'⟩
      exact ⟨v', rfl, hown, hb'⟩

def cmpN (x y : Fl) : Int := Lib.compareBytes x.nm y.nm
theorem swo_N : SWO (ltOf cmpN) where
  irrefl x := by
    unfold ltOf cmpN
    rw [orders_bytes.self]
    rfl
  trans x y z h1 h2 := by
    unfold ltOf cmpN at *
    exact decide_eq_true (orders_bytes.lt _ _ _ (of_decide_eq_true h1) (of_decide_eq_true h2))
  ntrans x y z h1 h2 := by
    unfold ltOf cmpN at *
    have h1 := of_decide_eq_false h1
    have h2 := of_decide_eq_false h2
    refine decide_eq_false fun h => ?_
    have t1 := orders_bytes.turn x.nm y.nm
    have t2 := orders_bytes.turn y.nm z.nm
    rcases Int.lt_or_eq_of_le (Int.not_lt.1 h1) with a | a
    · rcases Int.lt_or_eq_of_le (Int.not_lt.1 h2) with b | b
      · have := orders_bytes.lt _ _ _ (by omega : Lib.compareBytes z.nm y.nm < 0) (by omega : Lib.compareBytes y.nm x.nm < 0)
        have t3 := orders_bytes.turn x.nm z.nm
        omega
      · have e := (orders_bytes.eq _ _).1 b.symm
        rw [← e] at h
        omega
    · have e := (orders_bytes.eq _ _).1 a.symm
      rw [e] at h
      omega

set_option maxRecDepth 100000 in
theorem cmp_any (x y : Fl) (w : World) : Calls Tryz.prog 130 #[.agg (flL x).toArray, .agg (flL y).toArray] w fun e w' => e = .returned (.int .i64 (cmpN x y)) ∧ Bel w.heap.size w w' := by
  obtain ⟨p, a1, n1, c1⟩ := x
  obtain ⟨q, a2, n2, c2⟩ := y
  unfold flL cmpN
  obtain ⟨P, hP⟩ : ∃ P : ByteArray, (⟨p.toArray⟩ : ByteArray) = P := ⟨_, rfl⟩
  obtain ⟨Q, hQ⟩ : ∃ Q : ByteArray, (⟨q.toArray⟩ : ByteArray) = Q := ⟨_, rfl⟩
  have HC := hide (fun wx => Tryz.strings_Compare P Q wx)
  have e1 : Lib.compareBytes P.data.toList Q.data.toList = Lib.compareBytes p q := by rw [← hP, ← hQ]
  rw [e1] at HC
  simp only [hP, hQ]
  clear hP hQ e1
  go_enter Tryz.func130, Tryz.ntmps130
  go_wp2_with (go_at_call 131; refine (unhide HC _).mono ?_; rintro e wn ⟨rfl, hwn⟩; rw [hwn]; clear hwn wn)
  go_ret
  exact ⟨rfl, ((Bel.refl _ _).alloc (Nat.le_refl _) _).alloc (by simp) _⟩

theorem low_sort {w0 w : World} {B blk off m : Nat} {dk : Array Fl} {os : Array Obj} (h : Go.RowKit.Below B w0 w) (hB : B ≤ blk) (hw : B ≤ w.heap.size) : Go.RowKit.Below B w0 (sortWorldK flL 2 w blk off m dk os) := by
  have hsz : (putRowK flL 2 (Sort.ahead w m) blk off dk).heap.size = w.heap.size := by
    unfold putRowK
    rw [size_putRow]
    rfl
  refine ⟨h.os, h.tape, h.output, ?_, fun k hk => ?_⟩
  · show w0.heap.size ≤ ((putRowK flL 2 (Sort.ahead w m) blk off dk).heap ++ os).size
    rw [Array.size_append, hsz]
    have := h.size
    omega
  · show (grow (putRowK flL 2 (Sort.ahead w m) blk off dk) os).heap[k]? = _
    rw [heap_grow_old _ _ (by rw [hsz]; omega)]
    show (w.heap.modify blk _)[k]? = _
    rw [Array.getElem?_modify, if_neg (by omega)]
    exact h.block k hk

theorem cmp_lays {w : World} {blk off n : Nat} : CmpLays Tryz.prog 130 #[] flL 2 cmpN blk off n w := by
  intro m os dk _ x y
  have e : (#[Value.agg (flL x).toArray, .agg (flL y).toArray] ++ #[] : Array Value) = #[.agg (flL x).toArray, .agg (flL y).toArray] := by simp
  rw [e]
  refine (cmp_any x y _).mono ?_
  rintro e w' ⟨rfl, b⟩
  exact ⟨rfl, b.grow⟩

theorem flsV_get : ∀ (xs : List Fl) (j : Nat), j < xs.length * 2 → (flsV xs)[j]? = some ((flL (xs.toArray[j / 2]!))[j % 2]!)
  | [], j, h => by simp at h
  | x :: xs, 0, _ => by simp [flsV, flL]
  | x :: xs, 1, _ => by simp [flsV, flL]
  | x :: xs, j + 2, h => by
    have ih := flsV_get xs j (by simp at h; omega)
    have e1 : (j + 2) / 2 = j / 2 + 1 := by omega
    have e2 : (j + 2) % 2 = j % 2 := by omega
    have hj : j / 2 < xs.length := by simp at h; omega
    rw [e1, e2]
    simp only [flsV, List.getElem?_cons_succ]
    rw [ih]
    simp [hj]

/-- No later file is less than an earlier one. -/
def Rising (l : List Fl) : Prop := ∀ i j (hi : i < l.length) (hj : j < l.length), i < j → ¬ cmpN l[j] l[i] < 0

theorem sort_F {w0 w : World} {g cap : Nat} {xs : List Fl} {cur : Array Value} (h : Go.RowKit.Below w0.heap.size w0 w) (hB : w0.heap.size ≤ g) (hw : w0.heap.size ≤ w.heap.size) (hblk : w.heap[g]? = some (.cells cur 56 (0, 0))) (hcap : xs.length ≤ cap) (hcm : cap ≤ maxLen) (hcs : cur.size = cap * 2) (hcur : cur.toList.take (xs.length * 2) = flsV xs) (hn : xs.length ≤ 1000000) :
    Calls Tryz.prog 129 #[.slice (some ⟨g, 0, none⟩) xs.length cap, .func (.func 130) #[] #[]] w fun e w' => e = .returned (.tuple #[]) ∧ ∃ ys : List Fl, ys.Perm xs ∧ Rising ys ∧ FRow w0.heap.size w' (.slice (some ⟨g, 0, none⟩) xs.length cap) ys ∧ Go.RowKit.Below w0.heap.size w0 w' := by
  have at' : ∀ j, j < xs.length * 2 → cur[j]? = (flsV xs)[j]? := by
    intro j hj
    have h1 : cur.toList[j]? = (flsV xs)[j]? := by rw [← hcur, List.getElem?_take_of_lt hj]
    have h2 : cur[j]? = cur.toList[j]? := by simp
    rw [h2, h1]
  have hH : HoldsK flL 2 w g 0 xs.toArray := by
    intro j hj
    rw [size_flatK] at hj
    have hj' : j < xs.length * 2 := by simpa using hj
    refine ⟨?_, Lib.frozen_of_heap hblk _⟩
    rw [Nat.zero_add, Lib.cell_of_heap hblk, at' j hj', flsV_get xs j hj']
    show _ = some (flatK flL 2 xs.toArray)[j]!
    rw [get_flatK _ _ _ _ hj]
  have hs := AnyQ.slices_SortFunc Tryz.sort129 2 Tryz.isAgg56 Tryz.sizeOf56 flL (fun x => rfl) (fun x u hu => by simp [flL] at hu; rcases hu with rfl | rfl <;> rfl) cmpN swo_N 130 #[] g 0 cap xs.toArray w (enters_of Tryz.func130 (by kernel_rfl) rfl) cmp_lays hH (Array.getElem?_eq_some_iff.1 hblk).1 (by simp; omega)
  have e0 : xs.toArray.size = xs.length := by simp
  rw [e0] at hs
  refine hs.mono ?_
  rintro e w' ⟨rfl, d', n, os, hp, hso, rfl⟩
  obtain ⟨p1, _, p3⟩ := hp
  have hlen : d'.size = xs.length := by rw [p1, e0]
  have hperm : d'.toList.Perm xs := by
    have q1 : d'.extract 0 xs.length = d' := by rw [← hlen]; simp
    have q2 : xs.toArray.extract 0 xs.length = xs.toArray := by simp
    rw [q1, q2] at p3
    simpa using p3
  refine ⟨rfl, d'.toList, hperm, ?_, ?_, low_sort h hB hw⟩
  · intro i j hi hj hij
    have hi' : i < d'.size := by simpa using hi
    have hj' : j < d'.size := by simpa using hj
    have := hso i j (Nat.zero_le _) hij (by rw [← hlen]; exact hj')
    rw [getElem!_pos d' i hi', getElem!_pos d' j hj'] at this
    have := of_decide_eq_false this
    simpa using this
  · have hgl : g < w.heap.size := (Array.getElem?_eq_some_iff.1 hblk).1
    have hb' : (sortWorldK flL 2 w g 0 n d' os).heap[g]? = some (.cells (putCells id 0 (flatK flL 2 d') cur) 56 (0, 0)) := by
      show (grow (putRowK flL 2 (Sort.ahead w n) g 0 d') os).heap[g]? = _
      have hsz : (putRowK flL 2 (Sort.ahead w n) g 0 d').heap.size = w.heap.size := by
        unfold putRowK
        rw [size_putRow]
        rfl
      rw [heap_grow_old _ _ (by rw [hsz]; exact hgl)]
      show (w.heap.modify g _)[g]? = _
      rw [Array.getElem?_modify, if_pos rfl, hblk]
      rfl
    have hl2 : d'.toList.length = xs.length := by simpa using hlen
    refine ⟨flsV_length _, Or.inr ⟨g, cap, _, by rw [hl2], hB, hb', by rw [hl2]; exact hcap, hcm, by simp [putCells, hcs], ?_⟩⟩
    rw [hl2]
    apply List.ext_getElem?
    intro j
    by_cases hj : j < xs.length * 2
    · rw [List.getElem?_take_of_lt hj]
      have hjc : j < cur.size := by rw [hcs]; omega
      have hjf : j < d'.size * 2 := by rw [hlen]; exact hj
      have h3 := flsV_get d'.toList j (by rw [hl2]; exact hj)
      rw [h3]
      have e3 : (putCells id 0 (flatK flL 2 d') cur).toList[j]? = (putCells id 0 (flatK flL 2 d') cur)[j]? := by simp
      rw [e3]
      unfold putCells
      rw [Array.getElem?_mapIdx, Array.getElem?_eq_getElem hjc]
      simp only [Option.map_some]
      rw [if_pos ⟨Nat.zero_le _, by rw [size_flatK]; omega⟩, Nat.sub_zero, get_flatK _ _ _ _ hjf]
      simp
    · rw [List.getElem?_eq_none (by rw [List.length_take]; omega), List.getElem?_eq_none (by rw [flsV_length, hl2]; omega)]


/-- The files by rising names, in new memory. -/
theorem byName_any {w : World} {a : Option Addr} {n c : Nat} {xs : List Fl} (hx : xs.length = n) (hform : (a = none ∧ n = 0 ∧ c = 0) ∨ ∃ B O, a = some ⟨B, O, none⟩) (h : FAt w a xs) (hn : n ≤ 1000000) (hc : n ≤ c) :
    Calls Tryz.prog 72 #[.slice a n c] w fun e w' => ∃ v' ys, e = .returned v' ∧ ys.Perm xs ∧ Rising ys ∧ FRow w.heap.size w' v' ys ∧ Go.RowKit.Below w.heap.size w w' := by
  have HC := hide (clone_F hx hform h hn hc)
  have HX := hide hx
  clear h hform hx hc
  go_enter Tryz.func72, Tryz.ntmps72
  go_wp2_with (go_at_call 128; fail)
  refine (unhide HC).mono ?_
  rintro e w1 ⟨v1, rfl, hr, hb⟩
  rcases hr.2 with ⟨hv, h0⟩ | ⟨g, cap, cur, hv, hB, hblk, hcap, hcm, hcs, hcur⟩
  · have hx0 : xs = [] := List.length_eq_zero_iff.1 h0
    subst hx0
    subst hv
    have HS := hide (fun fv wx => AnyF.slices_SortFunc_none Tryz.sort129 none 0 fv wx)
    have HB := hide hb
    clear hr hb h0
    go_wp2_with (go_at_call 129; fail)
    refine (unhide HS _ _).mono ?_
    rintro e w2 ⟨rfl, hw⟩
    rw [hw]
    clear hw w2
    go_wp2
    go_ret
    exact ⟨_, [], rfl, List.Perm.refl _, fun i j hi => by simp at hi, World.ownsRow_nil _ _ _ _, unhide HB⟩
  · subst hv
    have HS := hide (sort_F (xs := xs) hb hB hb.size hblk hcap hcm hcs hcur (by rw [unhide HX]; exact hn))
    clear hr hb hB hblk hcap hcm hcs hcur
    go_wp2_with (go_at_call 129; fail)
    refine (unhide HS).mono ?_
    rintro e w2 ⟨rfl, ys, hp, hri, hrow, hb2⟩
    have HR := hide (And.intro hp (And.intro hri (And.intro hrow hb2)))
    have hlen := hp.length_eq
    clear hp hri hrow hb2
    go_wp2
    go_ret
    exact ⟨_, ys, rfl, (unhide HR).1, (unhide HR).2.1, by have := (unhide HR).2.2.1; rw [← hlen] at this ⊢; exact this, (unhide HR).2.2.2⟩

end YtkablmjkffdloaaGreatDoor
end Go.Proofs
