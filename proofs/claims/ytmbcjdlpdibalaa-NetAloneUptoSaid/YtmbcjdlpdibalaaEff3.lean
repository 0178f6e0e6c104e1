/-
  How the effects are made: tell, cut, flip, forge, late, kinds, of.
-/
import Derived.Test.YtmbcjdlpdibalaaEff2
import Derived.Carry
namespace Go.Proofs.Ytmbcjdlpdibalaa
open Go.RowKit Go.WideMaps Go.Maps

/-- An element of a map, held as it is. -/
def heldR (v : Value) : Option (DataW Value × List MemPlace) := some (.held v, [])

theorem tell_any (st : Int) (w : World) : Calls Try.prog 49 #[.int .i64 st] w fun e w' => e = .returned (.func (.func 66) #[] #[.pointer (some ⟨w.heap.size, 0, none⟩)]) ∧ w' = w.alloc (.cells #[.int .i64 st] 3) := by
  go_enter Try.func49, Try.ntmps49
  go_wp2
  go_ret
  exact ⟨rfl, rfl⟩

theorem tell_is {st : Int} {w : World} {b : Nat} (hb : w.heap.size = b) : Calls Try.prog 49 #[.int .i64 st] w fun e w' => e = .returned (.func (.func 66) #[] #[.pointer (some ⟨b, 0, none⟩)]) ∧ w' = w.alloc (.cells #[.int .i64 st] 3) := by rw [← hb]; exact tell_any st w

abbrev kv (any : Bool) (f : Value) : Value := .agg #[.bool any, f]
abbrev tellV (b : Nat) : Value := .func (.func 66) #[] #[.pointer (some ⟨b, 0, none⟩)]
/-- What the map of kinds reads as. -/
def kindsD (B : Nat) : DataW Value :=
  (((((((DataW.map []).put (.int .i64 1) (.held (kv true (tellV (B + 1))))).put (.int .i64 2) (.held (kv false (.func (.func 50) #[] #[])))).put (.int .i64 3) (.held (kv false (.func (.func 51) #[] #[])))).put (.int .i64 4) (.held (kv true (.func (.func 52) #[] #[])))).put (.int .i64 5) (.held (kv false (.func (.func 53) #[] #[])))).put (.int .i64 6) (.held (kv true (tellV (B + 2))))).put (.int .i64 7) (.held (kv true (tellV (B + 3))))

theorem turned_size {w w' : World} {b : Nat} (h : w.mapTurned w' b) : w'.heap.size = w.heap.size := by
  obtain ⟨es, clock, es', clock', _, rfl⟩ := h
  simp [Go.ChangeMaps.setBlock]

theorem key3 (n : Int) (h : (Lit.int .i64 n).wf = true) : keyOf Try.prog 3 (.int .i64 n) = some (.int .i64 n) := keyOf_int_mk Try.underlying3 h

set_option maxHeartbeats 1000000 in
theorem kinds_any (w : World) : Calls Try.prog 40 #[] w fun e w' => e = .returned (.map (some w.heap.size)) ∧ w'.ownsMap Try.prog 3 heldR w.heap.size 7 (kindsD w.heap.size) ∧
    (w'.cell? ⟨w.heap.size + 1, 0, none⟩ = some (.int .i64 0) ∧ w'.cell? ⟨w.heap.size + 2, 0, none⟩ = some (.int .i64 404) ∧ w'.cell? ⟨w.heap.size + 3, 0, none⟩ = some (.int .i64 503)) ∧ Below w.heap.size w w' := by
  have hmm := @run_makeMap Try.prog
  obtain ⟨B, hB⟩ : ∃ B, w.heap.size = B := ⟨_, rfl⟩
  have s0 : (w.alloc (.map #[] 0)).heap.size = B + 1 := by show (w.heap.push _).size = _; simp [hB]
  obtain ⟨W1, hW1⟩ : ∃ W1, (w.alloc (.map #[] 0)).alloc (.cells #[.int .i64 0] 3) = W1 := ⟨_, rfl⟩
  have o0 : W1.ownsMap Try.prog 3 heldR B 0 (.map []) := by rw [← hW1, ← hB]; exact (World.ownsMap_made w Try.prog 3 heldR).alloc _
  have s1 : W1.heap.size = B + 2 := by rw [← hW1]; show ((w.heap.push _).push _).size = _; simp [hB]
  obtain ⟨W2, r1, o1, t1⟩ := o0.store lawI Try.underlying98 (by unfold maxLen; omega) (key3 1 (by decide)) (val := kv true (tellV (B + 1))) rfl
  obtain ⟨W3, r2, o2, t2⟩ := o1.store lawI Try.underlying98 (by unfold maxLen; omega) (key3 2 (by decide)) (val := kv false (.func (.func 50) #[] #[])) rfl
  obtain ⟨W4, r3, o3, t3⟩ := o2.store lawI Try.underlying98 (by unfold maxLen; omega) (key3 3 (by decide)) (val := kv false (.func (.func 51) #[] #[])) rfl
  obtain ⟨W5, r4, o4, t4⟩ := o3.store lawI Try.underlying98 (by unfold maxLen; omega) (key3 4 (by decide)) (val := kv true (.func (.func 52) #[] #[])) rfl
  obtain ⟨W6, r5, o5, t5⟩ := o4.store lawI Try.underlying98 (by unfold maxLen; omega) (key3 5 (by decide)) (val := kv false (.func (.func 53) #[] #[])) rfl
  have t15 := (((t1.trans t2).trans t3).trans t4).trans t5
  have s6 : W6.heap.size = B + 2 := (turned_size t15).trans s1
  obtain ⟨W7, hW7⟩ : ∃ W7, W6.alloc (.cells #[.int .i64 404] 3) = W7 := ⟨_, rfl⟩
  have o6 := o5.alloc (.cells #[.int .i64 404] 3)
  rw [hW7] at o6
  have s7 : W7.heap.size = B + 3 := by rw [← hW7]; show (W6.heap.push _).size = _; simp [s6]
  obtain ⟨W8, r6, o7, t6⟩ := o6.store lawI Try.underlying98 (by unfold maxLen; omega) (key3 6 (by decide)) (val := kv true (tellV (B + 2))) rfl
  have s8 : W8.heap.size = B + 3 := (turned_size t6).trans s7
  obtain ⟨W9, hW9⟩ : ∃ W9, W8.alloc (.cells #[.int .i64 503] 3) = W9 := ⟨_, rfl⟩
  have o8 := o7.alloc (.cells #[.int .i64 503] 3)
  rw [hW9] at o8
  have s9 : W9.heap.size = B + 4 := by rw [← hW9]; show (W8.heap.push _).size = _; simp [s8]
  obtain ⟨W10, r7, o9, t7⟩ := o8.store lawI Try.underlying98 (by unfold maxLen; omega) (key3 7 (by decide)) (val := kv true (tellV (B + 3))) rfl
  have HO := hide o9
  have g1 := t15.grown
  have g6 := t6.grown
  have g7 := t7.grown
  have k1 : W1.cell? ⟨B + 1, 0, none⟩ = some (.int .i64 0) := by rw [← hW1, ← s0]; exact Lib.cell_of_heap (heap_new _ _) 0
  have k1' : W10.cell? ⟨B + 1, 0, none⟩ = some (.int .i64 0) := by
    have a1 : W6.heap[B + 1]? = W1.heap[B + 1]? := g1.block _ (by omega) (by simp)
    have a2 : W7.heap[B + 1]? = W6.heap[B + 1]? := by rw [← hW7]; exact (World.grownBy_alloc W6 _ none).block _ (by omega) (by simp)
    have a3 : W8.heap[B + 1]? = W7.heap[B + 1]? := g6.block _ (by omega) (by simp)
    have a4 : W9.heap[B + 1]? = W8.heap[B + 1]? := by rw [← hW9]; exact (World.grownBy_alloc W8 _ none).block _ (by omega) (by simp)
    have a5 : W10.heap[B + 1]? = W9.heap[B + 1]? := g7.block _ (by omega) (by simp)
    rw [World.cell?_of_block (w := W1) (a := ⟨B + 1, 0, none⟩) (a5.trans (a4.trans (a3.trans (a2.trans a1))))]
    exact k1
  have k2' : W10.cell? ⟨B + 2, 0, none⟩ = some (.int .i64 404) := by
    have a0 : W7.cell? ⟨B + 2, 0, none⟩ = some (.int .i64 404) := by rw [← hW7, ← s6]; exact Lib.cell_of_heap (heap_new _ _) 0
    have a3 : W8.heap[B + 2]? = W7.heap[B + 2]? := g6.block _ (by omega) (by simp)
    have a4 : W9.heap[B + 2]? = W8.heap[B + 2]? := by rw [← hW9]; exact (World.grownBy_alloc W8 _ none).block _ (by omega) (by simp)
    have a5 : W10.heap[B + 2]? = W9.heap[B + 2]? := g7.block _ (by omega) (by simp)
    rw [World.cell?_of_block (w := W7) (a := ⟨B + 2, 0, none⟩) (a5.trans (a4.trans a3))]
    exact a0
  have k3' : W10.cell? ⟨B + 3, 0, none⟩ = some (.int .i64 503) := by
    have a0 : W9.cell? ⟨B + 3, 0, none⟩ = some (.int .i64 503) := by rw [← hW9, ← s8]; exact Lib.cell_of_heap (heap_new _ _) 0
    have a5 : W10.heap[B + 3]? = W9.heap[B + 3]? := g7.block _ (by omega) (by simp)
    rw [World.cell?_of_block (w := W9) (a := ⟨B + 3, 0, none⟩) a5]
    exact a0
  have HB : Hid (Below w.heap.size w W10) := by
    have b1 : Below w.heap.size w W1 := by rw [← hW1]; exact ((Below.refl _ _).alloc (Nat.le_refl _) _).alloc (by simp) _
    have b6 := b1.grown g1 (by omega) (fun k hk => by simp at hk; omega)
    have b7 : Below w.heap.size w W7 := by rw [← hW7]; exact b6.alloc (by omega) _
    have b8 := b7.grown g6 (by omega) (fun k hk => by simp at hk; omega)
    have b9 : Below w.heap.size w W9 := by rw [← hW9]; exact b8.alloc (by omega) _
    exact b9.grown g7 (by omega) (fun k hk => by simp at hk; omega)
  have HK := hide (And.intro k1' (And.intro k2' k3'))
  have HS0 := hide s0
  have HS6 := hide s6
  have HS8 := hide s8
  have HW1 := hide hW1
  have HW7 := hide hW7
  have HW9 := hide hW9
  rw [hB] at HB ⊢
  have HBB := hide hB
  clear o0 o1 o2 o3 o4 o5 o6 o7 o8 o9 t1 t2 t3 t4 t5 t6 t7 t15 g1 g6 g7 k1 k1' k2' k3' s0 s1 s6 s7 s8 s9 hW1 hW7 hW9 hB
  go_enter Try.func40, Try.ntmps40
  go_wp2_with (go_at_call 49; fail)
  refine (tell_is (unhide HS0)).mono ?_
  rintro e w1 ⟨rfl, hw⟩
  rw [unhide HW1] at hw
  rw [hw, unhide HBB]; clear hw w1
  go_wp2_with (go_at_call 49; fail)
  refine (tell_is (unhide HS6)).mono ?_
  rintro e w1 ⟨rfl, hw⟩
  rw [unhide HW7] at hw
  rw [hw]; clear hw w1
  go_wp2_with (go_at_call 49; fail)
  refine (tell_is (unhide HS8)).mono ?_
  rintro e w1 ⟨rfl, hw⟩
  rw [unhide HW9] at hw
  rw [hw]; clear hw w1
  go_wp2
  go_ret
  exact ⟨rfl, unhide HO, unhide HK, by have := unhide HB; exact this⟩

end Go.Proofs.Ytmbcjdlpdibalaa
