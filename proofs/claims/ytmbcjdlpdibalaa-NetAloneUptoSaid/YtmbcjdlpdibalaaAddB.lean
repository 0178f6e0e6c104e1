/-
  Add where the kind is known.
-/
import Derived.Test.YtmbcjdlpdibalaaAdd
namespace Go.Proofs.Ytmbcjdlpdibalaa
open Go.RowKit Go.WideMaps Go.Maps Go.MuLone

theorem kinds_some {W : World} {B x : Nat} {kd : Int} {box : Obj} (hs : W.heap.size = B) (hx : x < B) (hkd : (Lit.int .i64 kd).wf = true) (hk : ∀ B, ∃ any i cap, kindOf B kd = some (any, i, cap)) (kc : W.cell? ⟨x, 2, none⟩ = some (.int .i64 kd)) (hbox : W.heap[x]? = some box) :
    Calls Try.prog 40 #[] W fun e w2 => ∃ any i cap, e = .returned (.map (some B)) ∧ Hid (kindOf B kd = some (any, i, cap)) ∧ (Instr.lookup 98 (.map (some B)) (.int .i64 kd) true).run Try.prog w2 = .ok (.tuple #[.agg #[.bool any, .func (.func i) #[] cap], .bool true]) w2 ∧
      (∀ o, (Instr.lookup 98 (.map (some B)) (.int .i64 kd) true).run Try.prog (w2.alloc o) = .ok (.tuple #[.agg #[.bool any, .func (.func i) #[] cap], .bool true]) (w2.alloc o)) ∧ w2.cell? ⟨x, 2, none⟩ = some (.int .i64 kd) ∧ (∀ o, (w2.alloc o).cell? ⟨x, 2, none⟩ = some (.int .i64 kd)) ∧ Hid (Below B W w2) ∧
      Hid (w2.heap[x]? = some box) ∧ Hid (B + 3 < w2.heap.size) ∧ Hid (w2.cell? ⟨B + 1, 0, none⟩ = some (.int .i64 0) ∧ w2.cell? ⟨B + 2, 0, none⟩ = some (.int .i64 404) ∧ w2.cell? ⟨B + 3, 0, none⟩ = some (.int .i64 503)) := by
  refine (kinds_look W hs hkd).mono ?_
  rintro e w2 ⟨rfl, b2, hsz2, hcc, hlk⟩
  obtain ⟨any, i, cap, hko⟩ := hk B
  have kc2 : w2.cell? ⟨x, 2, none⟩ = some (.int .i64 kd) := (b2.cell (p := ⟨x, 2, none⟩) hx).trans kc
  refine ⟨any, i, cap, rfl, hko, ?_, fun o => ?_, kc2, fun o => cell_same (a := ⟨x, 2, none⟩) ((World.grownBy_alloc w2 o none).block x (by omega) (by simp)) kc2, hide b2, hide ((b2.block x hx).trans hbox), hide hsz2, hide hcc⟩
  · have := hlk w2 rfl
    rw [hko] at this
    exact this
  · have := hlk (w2.alloc o) ((World.grownBy_alloc w2 o none).block _ (by omega) (by simp))
    rw [hko] at this
    exact this

theorem kd_a {w w2 : World} {box : Obj} {kd : Int} {any : Bool} {i : Nat} {cap : Array Value} {B : Nat} (hko : kindOf B kd = some (any, i, cap)) (hB : w.heap.size < B) (hsz : B + 3 < w2.heap.size) (hcc : w2.cell? ⟨B + 1, 0, none⟩ = some (.int .i64 0) ∧ w2.cell? ⟨B + 2, 0, none⟩ = some (.int .i64 404) ∧ w2.cell? ⟨B + 3, 0, none⟩ = some (.int .i64 503)) (hbox : w2.heap[w.heap.size]? = some box) (BB : Below w.heap.size w w2) :
    KindsDone w kd box (.pointer (some ⟨w2.heap.size, 0, none⟩)) (.bool true) (w2.alloc (.cells #[.bool any, .func (.func i) #[] cap] 96)) := by
  have g := fun k (hk : k < w2.heap.size) => (World.grownBy_alloc w2 (.cells #[.bool any, .func (.func i) #[] cap] 96) none).block k hk (by simp)
  refine ⟨w2.heap.size, B, rfl, by rw [hko]; rfl, by omega, hB, fun any' i' cap' h => ?_, ⟨cell_same (a := ⟨B + 1, 0, none⟩) (g _ (by show B + 1 < _; omega)) hcc.1, cell_same (a := ⟨B + 2, 0, none⟩) (g _ (by show B + 2 < _; omega)) hcc.2.1, cell_same (a := ⟨B + 3, 0, none⟩) (g _ (by show B + 3 < _; omega)) hcc.2.2⟩, ?_, (g _ (by omega)).trans hbox, BB.alloc BB.size _⟩
  · rw [hko] at h
    cases h
    exact heap_new w2 _
  · show B + 3 < (w2.heap.push _).size
    simp; omega

theorem kd_b {w w2 : World} {box : Obj} {kd : Int} {any : Bool} {i : Nat} {cap : Array Value} {B : Nat} (hko : kindOf B kd = some (any, i, cap)) (hB : w.heap.size + 1 < B) (hsz : B + 3 < w2.heap.size) (hcc : w2.cell? ⟨B + 1, 0, none⟩ = some (.int .i64 0) ∧ w2.cell? ⟨B + 2, 0, none⟩ = some (.int .i64 404) ∧ w2.cell? ⟨B + 3, 0, none⟩ = some (.int .i64 503)) (hbox : w2.heap[w.heap.size]? = some box) (hz : w2.heap[w.heap.size + 1]? = some z96) (BB : Below w.heap.size w w2) :
    KindsDone w kd box (.pointer (some ⟨w.heap.size + 1, 0, none⟩)) (.bool true) ((w2.setCell ⟨w.heap.size + 1, 0, none⟩ (.bool any)).setCell ⟨w.heap.size + 1, 1, none⟩ (.func (.func i) #[] cap)) := by
  have g : ∀ k, k ≠ w.heap.size + 1 → ((w2.setCell ⟨w.heap.size + 1, 0, none⟩ (.bool any)).setCell ⟨w.heap.size + 1, 1, none⟩ (.func (.func i) #[] cap)).heap[k]? = w2.heap[k]? := fun k hk => by rw [Below.heap_setCell _ _ _ _ hk, Below.heap_setCell _ _ _ _ hk]
  refine ⟨w.heap.size + 1, B, rfl, by rw [hko]; rfl, by omega, by omega, fun any' i' cap' h => ?_, ⟨cell_same (a := ⟨B + 1, 0, none⟩) (g _ (by show B + 1 ≠ _; omega)) hcc.1, cell_same (a := ⟨B + 2, 0, none⟩) (g _ (by show B + 2 ≠ _; omega)) hcc.2.1, cell_same (a := ⟨B + 3, 0, none⟩) (g _ (by show B + 3 ≠ _; omega)) hcc.2.2⟩, by simp [World.setCell]; omega, (g _ (by omega)).trans hbox, (BB.setCell (p := ⟨w.heap.size + 1, 0, none⟩) (by show w.heap.size ≤ w.heap.size + 1; omega) _).setCell (p := ⟨w.heap.size + 1, 1, none⟩) (by show w.heap.size ≤ w.heap.size + 1; omega) _⟩
  rw [hko] at h
  cases h
  exact heap_set_at (heap_set_at hz _) _

theorem below_kinds2 {w W0 w2 : World} {B : Nat} (hs : (W0.alloc z96).drew.heap.size = B) (b0 : Below w.heap.size w W0) (b2 : Below B (W0.alloc z96).drew w2) : Below w.heap.size w w2 := by
  have h := b0.size
  have h2 : (W0.alloc z96).drew.heap.size = W0.heap.size + 1 := by show (W0.heap.push _).size = _; simp
  exact (b0.alloc b0.size z96).drew.trans (b2.mono (by omega))

set_option maxHeartbeats 4000000 in
set_option maxRecDepth 100000 in
theorem add_range {w : World} {F : Nat} {u : ByteArray} {k kd N : Int} {a : Option Addr} {n c : Nat} (hv : validB u = true) (hu : u.size ≤ maxLen) (hkd : (Lit.int .i64 kd).wf = true) (hk : ∀ B, ∃ any i cap, kindOf B kd = some (any, i, cap)) (hr : k < 1 ∨ N < 0) :
    Calls Try.prog 24 #[.pointer (some ⟨F, 0, none⟩), .agg #[.string u, .int .i64 k, .int .i64 kd, .int .i64 N, .slice a n c]] w fun e w' => e = .returned (.int .i64 6) ∧ Below w.heap.size w w' := by
  have b0 : Below w.heap.size w (box50 w u k kd N (.slice a n c)) := (Below.refl _ _).alloc (Nat.le_refl _) _
  obtain ⟨W0, hW0⟩ : ∃ W0, box50 w u k kd N (.slice a n c) = W0 := ⟨_, rfl⟩
  have s0 : W0.heap.size = w.heap.size + 1 := by rw [← hW0]; show (w.heap.push _).size = _; simp
  have blk0 : W0.heap[w.heap.size]? = some (.cells #[.string u, .int .i64 k, .int .i64 kd, .int .i64 N, .slice a n c] 50 (0, 0)) := by rw [← hW0]; exact heap_new w _
  have kc : W0.cell? ⟨w.heap.size, 2, none⟩ = some (.int .i64 kd) := Lib.cell_of_heap blk0 2
  rw [hW0] at b0
  have HW0 := hide hW0
  have HV := hide (valid_is hv (by unfold maxLen at hu; omega) (box50 w u k kd N (.slice a n c)))
  have HS0 := hide s0
  have HKN := hide (kinds_some (W := W0.drew) (B := w.heap.size + 1) (x := w.heap.size) s0 (by omega) hkd hk kc blk0)
  have s0' : (W0.alloc z96).drew.heap.size = w.heap.size + 2 := by show (W0.heap.push _).size = _; simp [s0]
  have kc' : (W0.alloc z96).drew.cell? ⟨w.heap.size, 2, none⟩ = some (.int .i64 kd) := cell_same (w := W0) (a := ⟨w.heap.size, 2, none⟩) ((World.grownBy_alloc W0 z96 none).block w.heap.size (by omega) (by simp)) kc
  have HKN2 := hide (kinds_some (W := (W0.alloc z96).drew) (B := w.heap.size + 2) (x := w.heap.size) s0' (by omega) hkd hk kc' (((World.grownBy_alloc W0 z96 none).block w.heap.size (by omega) (by simp)).trans blk0))
  have HZ : Hid ((W0.alloc z96).drew.heap[w.heap.size + 1]? = some z96) := by rw [← s0]; exact heap_new W0 _
  have HB0 := hide b0
  have HS0' := hide s0'
  clear b0 s0' kc' hW0 hk hv blk0
  go_enter_defers Try.func24, Try.ntmps24
  go_wp2_with (go_at_call 38; fail)
  refine (unhide HV).mono ?_
  rintro e w1 ⟨rfl, hw⟩
  rw [hw, unhide HW0]; clear hw w1
  go_upto_region 3 with fail
  go_cut [5, 6] from 14 to 20 (fun v5 v6 wx => KindsDone w kd (.cells #[.string u, .int .i64 k, .int .i64 kd, .int .i64 N, .slice a n c] 50 (0, 0)) v5 v6 wx ∧ v6 = .bool true)
  case first =>
    refine wp_region_noPanic ?_
    go_region_with (first
      | (go_at_call 40; refine (unhide HKN).mono ?_; rintro e w2 ⟨any, i, cap, rfl, hko, hl2, hl3, kc2, kc3, b2, hbx, hsz, hcc⟩; have BB : Hid (Below w.heap.size w w2) := below_kinds (unhide HS0) (unhide HB0) (unhide b2); have DONE : Hid (KindsDone w kd (.cells #[.string u, .int .i64 k, .int .i64 kd, .int .i64 N, .slice a n c] 50 (0, 0)) (.pointer (some ⟨w2.heap.size, 0, none⟩)) (.bool true) (w2.alloc (.cells #[.bool any, .func (.func i) #[] cap] 96))) := kd_a (unhide hko) (by omega) (unhide hsz) (unhide hcc) (unhide hbx) (unhide BB); clear b2 BB hko hsz hcc hbx)
      | (go_at_call 40; refine (unhide HKN2).mono ?_; rintro e w2 ⟨any, i, cap, rfl, hko, hl2, hl3, kc2, kc3, b2, hbx, hsz, hcc⟩; have BB : Hid (Below w.heap.size w w2) := below_kinds2 (unhide HS0') (unhide HB0) (unhide b2); have hz := ((unhide b2).block (w.heap.size + 1) (by omega)).trans (unhide HZ); obtain ⟨⟨za, zb⟩, zc, zd⟩ := z96_cells hz; have DONE : Hid (KindsDone w kd (.cells #[.string u, .int .i64 k, .int .i64 kd, .int .i64 N, .slice a n c] 50 (0, 0)) (.pointer (some ⟨w.heap.size + 1, 0, none⟩)) (.bool true) ((w2.setCell ⟨w.heap.size + 1, 0, none⟩ (.bool any)).setCell ⟨w.heap.size + 1, 1, none⟩ (.func (.func i) #[] cap))) := kd_b (unhide hko) (by omega) (unhide hsz) (unhide hcc) (unhide hbx) hz (unhide BB); clear b2 BB hko hsz hcc hbx hz))
    all_goals
      refine NoPanic.normal ?_
      go_wp2_with fail
      go_meet
      exact ⟨unhide DONE, rfl⟩
  case rest =>
    obtain ⟨⟨X, B, rfl, hv6, _, _, hkX, _, _, hbox, hB⟩, rfl⟩ := hcut
    clear hv6 hkX
    have c1 : wc.cell? ⟨w.heap.size, 1, none⟩ = some (.int .i64 k) := Lib.cell_of_heap hbox 1
    have c3 : wc.cell? ⟨w.heap.size, 3, none⟩ = some (.int .i64 N) := Lib.cell_of_heap hbox 3
    have HB := hide hB
    clear hB hbox
    by_cases h1 : k < 1
    · go_wp2
      exact ⟨_, results_tmp rfl _ _ _, rfl, unhide HB⟩
    · have h2 : N < 0 := hr.resolve_left h1
      go_wp2
      exact ⟨_, results_tmp rfl _ _ _, rfl, unhide HB⟩

end Go.Proofs.Ytmbcjdlpdibalaa
