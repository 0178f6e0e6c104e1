/-
  The contracts of New, put, move, drop.
-/
import Derived.Test.YtbdbobikiikbgaaDoorErrs
import Derived.Laws.EntriesVeiled
namespace Go.Proofs.YtbdbobikiikbgaaDoor
open Go.RowKit Go.WideMaps Go.Maps

def newS (q : Int) : AS := { quota := min (max q 0) 67108864, newest := 0, names := .map [], durable := .map [], pending := [], size := 0, steps := 0, armed := 0, down := false, files := fun _ => none }

def newG (B : Nat) : Lie :=
  { F := B + 3, M := B, N := B + 1, D := B + 2, pv := .slice none 0 0, DM := .map [], cl := [], fb := fun _ => 0, dv := fun _ => .slice none 0 0,
    role := fun b => if b = B then some .files else if b = B + 1 then some .names else if b = B + 2 then some .durable else if b = B + 3 then some .fs else none }

theorem new_world (q : Int) (w : World) : Calls Tryd.prog 28 #[.int .i64 q] w fun e w' => e = .returned (.pointer (some ⟨w.heap.size + 3, 0, none⟩)) ∧
    w' = (((w.alloc (.map #[] 0)).alloc (.map #[] 0)).alloc (.map #[] 0)).alloc (.cells #[.int .i64 (min (max q 0) 67108864), .map (some w.heap.size), .int .i64 0, .map (some (w.heap.size + 1)), .map (some (w.heap.size + 2)), .slice none 0 0, .int .i64 0, .int .i64 0, .int .i64 0, .bool false] 65) := by
  have hmm := @run_makeMap Tryd.prog
  by_cases h0 : q < 0
  · have HM : Hid (min (max q 0) 67108864 = 0) := by show min (max q 0) 67108864 = 0; omega
    go_enter Tryd.func28, Tryd.ntmps28
    go_wp2
    go_ret
    exact ⟨rfl, by rw [HM.out]⟩
  · by_cases h1 : q ≤ 67108864
    · have HM : Hid (min (max q 0) 67108864 = q) := by show min (max q 0) 67108864 = q; omega
      go_enter Tryd.func28, Tryd.ntmps28
      go_wp2
      go_ret
      exact ⟨rfl, by rw [HM.out]⟩
    · have HM : Hid (min (max q 0) 67108864 = 67108864) := by show min (max q 0) 67108864 = 67108864; omega
      go_enter Tryd.func28, Tryd.ntmps28
      go_wp2
      go_ret
      exact ⟨rfl, by rw [HM.out]⟩

theorem put_world (name : ByteArray) (x : Int) (w : World) (hn : name.size < 4611686018427387904) : Calls Tryd.prog 43 #[.string name, .int .i64 x] w fun e w' =>
    e = .returned (.agg #[.string (dirB name), .func (.func 61) #[] #[.pointer (some ⟨w.heap.size, 0, none⟩), .pointer (some ⟨w.heap.size + 1, 0, none⟩)]]) ∧
    ∃ o, w' = ((w.alloc (.cells #[.string name] 9)).alloc (.cells #[.int .i64 x] 3)).alloc o := by
  have hd := fun W => dir_any name W hn
  have HD := hide hd
  clear hd
  go_enter Tryd.func43, Tryd.ntmps43
  go_wp2_with (go_at_call 17; refine (unhide HD _).mono ?_; rintro e w1 ⟨rfl, rfl⟩)
  exact bodyPost_ret (v := .agg #[.string (dirB name), .func (.func 61) #[] #[.pointer (some ⟨w.heap.size, 0, none⟩), .pointer (some ⟨w.heap.size + 1, 0, none⟩)]]) (by simp [results, Tryd.results43, go_sem]) rfl ⟨rfl, _, rfl⟩

theorem move_world (fr tgt : ByteArray) (w : World) (hn : tgt.size < 4611686018427387904) : Calls Tryd.prog 49 #[.string fr, .string tgt] w fun e w' =>
    e = .returned (.agg #[.string (dirB tgt), .func (.func 63) #[] #[.pointer (some ⟨w.heap.size + 1, 0, none⟩), .pointer (some ⟨w.heap.size, 0, none⟩)]]) ∧
    ∃ o, w' = ((w.alloc (.cells #[.string fr] 9)).alloc (.cells #[.string tgt] 9)).alloc o := by
  have hd := fun W => dir_any tgt W hn
  have HD := hide hd
  clear hd
  go_enter Tryd.func49, Tryd.ntmps49
  go_wp2_with (go_at_call 17; refine (unhide HD _).mono ?_; rintro e w1 ⟨rfl, rfl⟩)
  exact bodyPost_ret (v := .agg #[.string (dirB tgt), .func (.func 63) #[] #[.pointer (some ⟨w.heap.size + 1, 0, none⟩), .pointer (some ⟨w.heap.size, 0, none⟩)]]) (by simp [results, Tryd.results49, go_sem]) rfl ⟨rfl, _, rfl⟩

theorem drop_world (name : ByteArray) (w : World) (hn : name.size < 4611686018427387904) : Calls Tryd.prog 65 #[.string name] w fun e w' =>
    e = .returned (.agg #[.string (dirB name), .func (.func 72) #[] #[.pointer (some ⟨w.heap.size, 0, none⟩)]]) ∧
    ∃ o, w' = (w.alloc (.cells #[.string name] 9)).alloc o := by
  have hd := fun W => dir_any name W hn
  have HD := hide hd
  clear hd
  go_enter Tryd.func65, Tryd.ntmps65
  go_wp2_with (go_at_call 17; refine (unhide HD _).mono ?_; rintro e w1 ⟨rfl, rfl⟩)
  exact bodyPost_ret (v := .agg #[.string (dirB name), .func (.func 72) #[] #[.pointer (some ⟨w.heap.size, 0, none⟩)]]) (by simp [results, Tryd.results65, go_sem]) rfl ⟨rfl, _, rfl⟩

theorem alloc_at (w : World) (o : Obj) : (w.alloc o).heap[w.heap.size]? = some o := (MapKept.heap_alloc w o).1
theorem alloc_size (w : World) (o : Obj) : (w.alloc o).heap.size = w.heap.size + 1 := by simp

theorem new_rep (q : Int) (w : World) (hg : ∃ m, w.cell? ⟨0, 0, none⟩ = some (.int .i64 m)) : Calls Tryd.prog 28 #[.int .i64 q] w fun e w' =>
    e = .returned (.pointer (some ⟨(newG w.heap.size).F, 0, none⟩)) ∧ Rep w' (newG w.heap.size) (newS q) ∧ Below w.heap.size w w' := by
  refine (new_world q w).mono ?_
  rintro e w' ⟨rfl, rfl⟩
  have hb : Below w.heap.size w ((((w.alloc (.map #[] 0)).alloc (.map #[] 0)).alloc (.map #[] 0)).alloc (.cells #[.int .i64 (min (max q 0) 67108864), .map (some w.heap.size), .int .i64 0, .map (some (w.heap.size + 1)), .map (some (w.heap.size + 2)), .slice none 0 0, .int .i64 0, .int .i64 0, .int .i64 0, .bool false] 65)) :=
    ((((Below.refl _ _).alloc (Nat.le_refl _) _).alloc (by simp) _).alloc (by simp; omega) _).alloc (by simp; omega) _
  have hpos : 0 < w.heap.size := by
    obtain ⟨m, hm⟩ := hg; exact lt_of_cell hm
  have m0 := World.ownsMap_made (H := Unit) w Tryd.prog 3 fileElem
  have m1 := World.ownsMap_made (H := Unit) (w.alloc (.map #[] 0)) Tryd.prog 9 (plainElem Tryd.prog 3)
  have m2 := World.ownsMap_made (H := Unit) ((w.alloc (.map #[] 0)).alloc (.map #[] 0)) Tryd.prog 9 (plainElem Tryd.prog 3)
  refine ⟨rfl, ?_, hb⟩
  refine ⟨?_, ?_, ?_, ?_, ?_, ?_, ?_, ?_, rfl, ⟨rfl, Or.inl ⟨rfl, rfl⟩⟩, ?_, trivial, ?_, ?_, glob_of hg (hb.block 0 hpos), ?_, by simp [newG, newS, Maps.size], fun _ h => by cases h⟩
  · have := alloc_at (((w.alloc (.map #[] 0)).alloc (.map #[] 0)).alloc (.map #[] 0)) (.cells #[.int .i64 (min (max q 0) 67108864), .map (some w.heap.size), .int .i64 0, .map (some (w.heap.size + 1)), .map (some (w.heap.size + 2)), .slice none 0 0, .int .i64 0, .int .i64 0, .int .i64 0, .bool false] 65)
    rw [alloc_size, alloc_size, alloc_size] at this; exact this
  · simp [newG]
  · simp [newG]
  · simp [newG]
  · simp [newG]
  · have := (m1.alloc (.map #[] 0)).alloc (.cells #[.int .i64 (min (max q 0) 67108864), .map (some w.heap.size), .int .i64 0, .map (some (w.heap.size + 1)), .map (some (w.heap.size + 2)), .slice none 0 0, .int .i64 0, .int .i64 0, .int .i64 0, .bool false] 65)
    rw [alloc_size] at this; exact this
  · have := m2.alloc (.cells #[.int .i64 (min (max q 0) 67108864), .map (some w.heap.size), .int .i64 0, .map (some (w.heap.size + 1)), .map (some (w.heap.size + 2)), .slice none 0 0, .int .i64 0, .int .i64 0, .int .i64 0, .bool false] 65)
    rw [alloc_size, alloc_size] at this; exact this
  · exact ((m0.alloc _).alloc _).alloc _
  · intro g hg; cases hg
  · intro n f hf; cases hf
  · intro b hb
    have hlt : b < w.heap.size + 4 := by
      simp only [newG] at hb
      split at hb
      · omega
      · split at hb
        · omega
        · split at hb
          · omega
          · split at hb
            · omega
            · exact absurd rfl hb
    simp; omega
  · simp [newG]; omega

end Go.Proofs.YtbdbobikiikbgaaDoor
