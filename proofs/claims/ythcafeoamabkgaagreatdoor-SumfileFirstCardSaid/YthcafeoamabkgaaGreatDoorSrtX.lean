/-
  Lists of texts, sorted.
-/
import Derived.Shelf.SlGeneric
import Derived.Shelf.SlSortCmp.NoneTotal
import Derived.Shelf.SlSortCmp.Whole1
import Derived.Ground.SlsfProg
import Derived.Test.YthcafeoamabkgaaGreatDoorProg
import Derived.Test.YthcafeoamabkgaaGreatDoorSortX
import Derived.Test.YthcafeoamabkgaaGreatDoorMatX
namespace Go.Proofs
open Go.Shelf
def Tryz.sort149_ren : Go.Shelf.Ren := ⟨fun | 6 => 149 | 15 => 138 | 14 => 188 | 28 => 182 | 29 => 183 | 20 => 233 | 21 => 234 | 22 => 235 | 23 => 236 | 24 => 237 | 25 => 238 | 26 => 239 | 27 => 240 | 46 => 260 | 47 => 220 | 48 => 221 | 49 => 261 | 50 => 262 | 57 => 269 | n => n, fun | 22 => 69 | 24 => 9 | 25 => 129 | 3 => 3 | 39 => 168 | 0 => 0 | 53 => 221 | 55 => 223 | 4 => 4 | 46 => 214 | 45 => 213 | 50 => 218 | 5 => 5 | 9 => 9 | 66 => 234 | 70 => 238 | 76 => 258 | 77 => 259 | n => n, fun | n => n⟩
theorem Tryz.sort149 : Go.Proofs.SlLaysF.n6 Tryz.prog Tryz.sort149_ren := {
  mixed := by kernel_rfl
  f6 := ⟨Tryz.f149.name, by decide, Tryz.func149.trans (congrArg some (by kernel_rfl))⟩
  f14 := ⟨Tryz.f188.name, by decide, Tryz.func188.trans (congrArg some (by kernel_rfl))⟩
  f15 := Tryz.func138.trans (congrArg some (by kernel_rfl))
  f20 := ⟨Tryz.f233.name, by decide, Tryz.func233.trans (congrArg some (by kernel_rfl))⟩
  f21 := ⟨Tryz.f234.name, by decide, Tryz.func234.trans (congrArg some (by kernel_rfl))⟩
  f22 := ⟨Tryz.f235.name, by decide, Tryz.func235.trans (congrArg some (by kernel_rfl))⟩
  f23 := ⟨Tryz.f236.name, by decide, Tryz.func236.trans (congrArg some (by kernel_rfl))⟩
  f24 := ⟨Tryz.f237.name, by decide, Tryz.func237.trans (congrArg some (by kernel_rfl))⟩
  f25 := ⟨Tryz.f238.name, by decide, Tryz.func238.trans (congrArg some (by kernel_rfl))⟩
  f26 := ⟨Tryz.f239.name, by decide, Tryz.func239.trans (congrArg some (by kernel_rfl))⟩
  f27 := ⟨Tryz.f240.name, by decide, Tryz.func240.trans (congrArg some (by kernel_rfl))⟩
  f28 := Tryz.func182.trans (congrArg some (by kernel_rfl))
  f29 := Tryz.func183.trans (congrArg some (by kernel_rfl))
  f46 := ⟨Tryz.f260.name, by decide, Tryz.func260.trans (congrArg some (by kernel_rfl))⟩
  f47 := Tryz.func220.trans (congrArg some (by kernel_rfl))
  f48 := Tryz.func221.trans (congrArg some (by kernel_rfl))
  f49 := ⟨Tryz.f261.name, by decide, Tryz.func261.trans (congrArg some (by kernel_rfl))⟩
  f50 := ⟨Tryz.f262.name, by decide, Tryz.func262.trans (congrArg some (by kernel_rfl))⟩
  f57 := ⟨Tryz.f269.name, by decide, Tryz.func269.trans (congrArg some (by kernel_rfl))⟩
  t0 := Tryz.underlying0
  a0 := Tryz.isAgg0
  z0 := Tryz.sizeOf0
  v0 := Tryz.zeroValue0
  t3 := Tryz.underlying3
  a3 := Tryz.isAgg3
  z3 := Tryz.sizeOf3
  v3 := Tryz.zeroValue3
  t4 := Tryz.underlying4
  a4 := Tryz.isAgg4
  z4 := Tryz.sizeOf4
  v4 := Tryz.zeroValue4
  t5 := Tryz.underlying5
  a5 := Tryz.isAgg5
  z5 := Tryz.sizeOf5
  v5 := Tryz.zeroValue5
  t9 := Tryz.underlying9
  a9 := Tryz.isAgg9
  z9 := Tryz.sizeOf9
  v9 := Tryz.zeroValue9
  t22 := Tryz.underlying69
  a22 := Tryz.isAgg69
  z22 := Tryz.sizeOf69
  v22 := Tryz.zeroValue69
  a24 := Tryz.isAgg9
  z24 := Tryz.sizeOf9
  t25 := Tryz.underlying129
  a25 := Tryz.isAgg129
  z25 := Tryz.sizeOf129
  v25 := Tryz.zeroValue129
  t39 := Tryz.underlying168
  a39 := Tryz.isAgg168
  z39 := Tryz.sizeOf168
  v39 := Tryz.zeroValue168
  t45 := Tryz.underlying213
  a45 := Tryz.isAgg213
  z45 := Tryz.sizeOf213
  v45 := Tryz.zeroValue213
  t46 := Tryz.underlying214
  a46 := Tryz.isAgg214
  z46 := Tryz.sizeOf214
  v46 := Tryz.zeroValue214
  t50 := Tryz.underlying218
  a50 := Tryz.isAgg218
  z50 := Tryz.sizeOf218
  v50 := Tryz.zeroValue218
  t53 := Tryz.underlying221
  a53 := Tryz.isAgg221
  z53 := Tryz.sizeOf221
  v53 := Tryz.zeroValue221
  t55 := Tryz.underlying223
  a55 := Tryz.isAgg223
  z55 := Tryz.sizeOf223
  v55 := Tryz.zeroValue223
  t66 := Tryz.underlying234
  a66 := Tryz.isAgg234
  z66 := Tryz.sizeOf234
  v66 := Tryz.zeroValue234
  t70 := Tryz.underlying238
  a70 := Tryz.isAgg238
  z70 := Tryz.sizeOf238
  v70 := Tryz.zeroValue238
  t76 := Tryz.underlying258
  a76 := Tryz.isAgg258
  z76 := Tryz.sizeOf258
  v76 := Tryz.zeroValue258
  t77 := Tryz.underlying259
  a77 := Tryz.isAgg259
  z77 := Tryz.sizeOf259
  v77 := Tryz.zeroValue259 }
end Go.Proofs

namespace Go.Proofs.YthcafeoamabkgaaGreatDoor
open Go.RowKit Go.Sort Go.Shelf

abbrev strE (p : Str) : Value := .string (ba p)
theorem strE_one : OneCell strE := by intro x; rfl

theorem swo_of {α : Type} {f : α → α → Int} {β : Type} {g : β → β → Int} (ho : Orders g) (key : α → β) (hf : ∀ x y, f x y = g (key x) (key y)) : SWO (ltOf f) where
  irrefl x := by
    unfold ltOf
    rw [hf, ho.self]
    rfl
  trans x y z h1 h2 := by
    unfold ltOf at *
    rw [hf] at *
    exact decide_eq_true (ho.lt _ _ _ (of_decide_eq_true h1) (of_decide_eq_true h2))
  ntrans x y z h1 h2 := by
    unfold ltOf at *
    rw [hf] at *
    have h1 := of_decide_eq_false h1
    have h2 := of_decide_eq_false h2
    refine decide_eq_false fun h => ?_
    have t1 := ho.turn (key x) (key y)
    have t2 := ho.turn (key y) (key z)
    rcases Int.lt_or_eq_of_le (Int.not_lt.1 h1) with a | a
    · rcases Int.lt_or_eq_of_le (Int.not_lt.1 h2) with b | b
      · have := ho.lt _ _ _ (by omega : g (key z) (key y) < 0) (by omega : g (key y) (key x) < 0)
        have t3 := ho.turn (key x) (key z)
        omega
      · have e := (ho.eq _ _).1 b.symm
        rw [← e] at h
        omega
    · have e := (ho.eq _ _).1 a.symm
      rw [e] at h
      omega

theorem swo_S : SWO (ltOf Lib.compareBytes) := swo_of orders_bytes id fun _ _ => rfl

theorem low_sort1 {w0 w : World} {B blk off m : Nat} {dk : Array Str} {os : Array Obj} (h : Go.RowKit.Below B w0 w) (hB : B ≤ blk) (hw : B ≤ w.heap.size) : Go.RowKit.Below B w0 (sortWorld strE w blk off m dk os) := by
  have hsz : (putRow strE (Sort.ahead w m) blk off dk).heap.size = w.heap.size := by
    rw [size_putRow]
    rfl
  refine ⟨h.os, h.tape, h.output, ?_, fun k hk => ?_⟩
  · show w0.heap.size ≤ ((putRow strE (Sort.ahead w m) blk off dk).heap ++ os).size
    rw [Array.size_append, hsz]
    have := h.size
    omega
  · show (grow (putRow strE (Sort.ahead w m) blk off dk) os).heap[k]? = _
    rw [heap_grow_old _ _ (by rw [hsz]; omega)]
    show (w.heap.modify blk _)[k]? = _
    rw [Array.getElem?_modify, if_neg (by omega)]
    exact h.block k hk

theorem cmp_lays1 {blk off n : Nat} (w : World) : CmpLays1 Tryz.prog 103 #[] strE Lib.compareBytes blk off n w := by
  intro m os dk _ x y
  have e : (#[strE x, strE y] ++ #[] : Array Value) = #[.string (ba x), .string (ba y)] := by simp
  rw [e]
  refine (cmpBytes_any x y _).mono ?_
  rintro e w' ⟨rfl, rfl⟩
  exact ⟨rfl, (Bel.refl _ _).grow⟩

/-- No later text is less than an earlier one. -/
def RisingS (l : List Str) : Prop := ∀ i j (hi : i < l.length) (hj : j < l.length), i < j → ¬ Lib.compareBytes l[j] l[i] < 0

theorem strsV_get (xs : List Str) (j : Nat) (h : j < xs.length) : (strsV xs)[j]? = some (strE (xs.toArray[j]!)) := by
  unfold strsV
  rw [List.getElem?_map, List.getElem?_eq_getElem h]
  simp [h]
theorem strsV_length (xs : List Str) : (strsV xs).length = xs.length := by simp [strsV]

theorem sort_S {w0 w : World} {g cap : Nat} {xs : List Str} {cur : Array Value} (h : Go.RowKit.Below w0.heap.size w0 w) (hB : w0.heap.size ≤ g) (hw : w0.heap.size ≤ w.heap.size) (hblk : w.heap[g]? = some (.cells cur 9 (0, 0))) (hcap : xs.length ≤ cap) (hcm : cap ≤ maxLen) (hcs : cur.size = cap * 1) (hcur : cur.toList.take (xs.length * 1) = strsV xs) (hn : xs.length ≤ 1000000) :
    Calls Tryz.prog 149 #[.slice (some ⟨g, 0, none⟩) xs.length cap, .func (.func 103) #[] #[]] w fun e w' => e = .returned (.tuple #[]) ∧ ∃ ys : List Str, ys.Perm xs ∧ RisingS ys ∧ w'.ownsRow w0.heap.size 9 1 (.slice (some ⟨g, 0, none⟩) xs.length cap) ys.length (strsV ys) ∧ Go.RowKit.Below w0.heap.size w0 w' := by
  rw [Nat.mul_one] at hcs hcur
  have at' : ∀ j, j < xs.length → cur[j]? = (strsV xs)[j]? := by
    intro j hj
    have h1 : cur.toList[j]? = (strsV xs)[j]? := by rw [← hcur, List.getElem?_take_of_lt hj]
    have h2 : cur[j]? = cur.toList[j]? := by simp
    rw [h2, h1]
  have hH : Holds strE w g 0 xs.toArray := by
    intro j hj
    have hj' : j < xs.length := by simpa using hj
    refine ⟨?_, Lib.frozen_of_heap hblk _⟩
    rw [Nat.zero_add, Lib.cell_of_heap hblk, at' j hj', strsV_get xs j hj']
  have hs := Any.slices_SortFunc Tryz.sort149 strE strE_one Lib.compareBytes swo_S 103 #[] g 0 cap xs.toArray w (enters_of Tryz.func103 (by kernel_rfl) rfl) (cmp_lays1 w) hH (Array.getElem?_eq_some_iff.1 hblk).1 (by simp; omega)
  have e0 : xs.toArray.size = xs.length := by simp
  rw [e0] at hs
  refine hs.mono ?_
  rintro e w' ⟨rfl, d', n, os, hp, hso, rfl⟩
  obtain ⟨p1, _, p3⟩ := hp
  have hlen : d'.size = xs.length := by rw [p1, e0]
  have hperm : d'.toList.Perm xs := by
    have q1 : d'.extract 0 xs.length = d' := by rw [← hlen]; simp
    have q2 : xs.toArray.extract 0 xs.length = xs.toArray := by simp
    rw [q1, q2] at p3
    simpa using p3
  refine ⟨rfl, d'.toList, hperm, ?_, ?_, low_sort1 h hB hw⟩
  · intro i j hi hj hij
    have hi' : i < d'.size := by simpa using hi
    have hj' : j < d'.size := by simpa using hj
    have := hso i j (Nat.zero_le _) hij (by rw [← hlen]; exact hj')
    rw [getElem!_pos d' i hi', getElem!_pos d' j hj'] at this
    have := of_decide_eq_false this
    simpa using this
  · have hgl : g < w.heap.size := (Array.getElem?_eq_some_iff.1 hblk).1
    have hb' : (sortWorld strE w g 0 n d' os).heap[g]? = some (.cells (putCells strE 0 d' cur) 9 (0, 0)) := by
      show (grow (putRow strE (Sort.ahead w n) g 0 d') os).heap[g]? = _
      have hsz : (putRow strE (Sort.ahead w n) g 0 d').heap.size = w.heap.size := by
        rw [size_putRow]
        rfl
      rw [heap_grow_old _ _ (by rw [hsz]; exact hgl)]
      show (w.heap.modify g _)[g]? = _
      rw [Array.getElem?_modify, if_pos rfl, hblk]
      rfl
    have hl2 : d'.toList.length = xs.length := by simpa using hlen
    refine ⟨by rw [strsV_length, Nat.mul_one], Or.inr ⟨g, cap, _, by rw [hl2], hB, hb', by rw [hl2]; exact hcap, hcm, by simp [putCells, hcs], ?_⟩⟩
    rw [hl2, Nat.mul_one]
    apply List.ext_getElem?
    intro j
    by_cases hj : j < xs.length
    · rw [List.getElem?_take_of_lt hj]
      have hjc : j < cur.size := by rw [hcs]; omega
      have h3 := strsV_get d'.toList j (by rw [hl2]; exact hj)
      rw [h3]
      have e3 : (putCells strE 0 d' cur).toList[j]? = (putCells strE 0 d' cur)[j]? := by simp
      rw [e3]
      unfold putCells
      rw [Array.getElem?_mapIdx, Array.getElem?_eq_getElem hjc]
      simp only [Option.map_some]
      rw [if_pos ⟨Nat.zero_le _, by rw [hlen]; omega⟩, Nat.sub_zero]
    · rw [List.getElem?_eq_none (by rw [List.length_take]; omega), List.getElem?_eq_none (by rw [strsV_length, hl2]; omega)]

end Go.Proofs.YthcafeoamabkgaaGreatDoor
