/-
  Add.
-/
import Derived.Test.YtmbcjdlpdibalaaAddA
import Derived.Deep.DeepCutAuto
import Derived.Deep.CutBlock
namespace Go.Proofs.Ytmbcjdlpdibalaa
open Go.RowKit Go.WideMaps Go.Maps Go.MuLone

abbrev box50 (w : World) (u : ByteArray) (k kd m : Int) (s : Value) : World := w.alloc (.cells #[.string u, .int .i64 k, .int .i64 kd, .int .i64 m, s] 50)

/-- The lookup of a kind, in every world in which the map's block is that. -/
def KindLook (B : Nat) (kd : Int) (W : World) : Prop :=
  ∀ w', w'.heap[B]? = W.heap[B]? → (Instr.lookup 98 (.map (some B)) (.int .i64 kd) true).run Try.prog w' = .ok (.tuple #[match kindOf B kd with | some (any, i, cap) => .agg #[.bool any, .func (.func i) #[] cap] | none => .agg #[.bool false, .nilFunc], .bool (kindOf B kd).isSome]) w'

theorem kinds_look (w : World) {B : Nat} (hB : w.heap.size = B) {kd : Int} (hw : (Lit.int .i64 kd).wf = true) : Calls Try.prog 40 #[] w fun e w' => e = .returned (.map (some B)) ∧ Below B w w' ∧ B + 3 < w'.heap.size ∧
    (w'.cell? ⟨B + 1, 0, none⟩ = some (.int .i64 0) ∧ w'.cell? ⟨B + 2, 0, none⟩ = some (.int .i64 404) ∧ w'.cell? ⟨B + 3, 0, none⟩ = some (.int .i64 503)) ∧ KindLook B kd w' := by
  subst hB
  refine (kinds_any w).mono ?_
  rintro e w1 ⟨rfl, ho, hc, hb⟩
  have hk := kinds_has w.heap.size kd
  have hlt := lt_of_cell hc.2.2
  refine ⟨rfl, hb, hlt, hc, fun w' hs => ?_⟩
  have ho' : w'.ownsMap Try.prog 3 heldR w.heap.size 7 (kindsD w.heap.size) := own_same ho hs
  obtain ⟨v, ps, h1, h2⟩ := ho'.look_ok lawI Try.underlying98 (zero96 w') (zd := .held (.agg #[.bool false, .nilFunc])) (zp := []) rfl (key3 kd hw)
  have h3 := held_inv h2
  rw [hk.1] at h1
  rw [h1]
  cases hko : kindOf w.heap.size kd with
  | some x =>
    obtain ⟨any, i, cap⟩ := x
    rw [hk.2 any i cap hko] at h3
    cases h3
    rfl
  | none =>
    have hh : Maps.has (kindsD w.heap.size) (.int .i64 kd) = false := by rw [hk.1, hko]; rfl
    rw [atKey_of_not_has hh] at h3
    cases h3
    rfl

theorem add_long {w : World} {F : Nat} {u : ByteArray} {k kd m : Int} {a : Option Addr} {n c : Nat} (hv : validB u = false) (hu : u.size ≤ maxLen) :
    Calls Try.prog 24 #[.pointer (some ⟨F, 0, none⟩), .agg #[.string u, .int .i64 k, .int .i64 kd, .int .i64 m, .slice a n c]] w fun e w' => e = .returned (.int .i64 13) ∧ Below w.heap.size w w' := by
  have b0 : Below w.heap.size w (box50 w u k kd m (.slice a n c)) := (Below.refl _ _).alloc (Nat.le_refl _) _
  go_enter_defers Try.func24, Try.ntmps24
  go_wp2_with (go_at_call 38; fail)
  refine (valid_is hv (by unfold maxLen at hu; omega) (box50 w u k kd m (.slice a n c))).mono ?_
  rintro e w1 ⟨rfl, hw⟩
  rw [hw]; clear hw w1
  go_wp2
  exact ⟨_, results_tmp rfl _ _ _, rfl, b0⟩

theorem below_kinds {w W0 w2 : World} {B : Nat} (hs : W0.heap.size = B) (b0 : Below w.heap.size w W0) (b2 : Below B W0.drew w2) : Below w.heap.size w w2 := by
  have h := b0.size
  exact b0.drew.trans (b2.mono (by omega))

/-- Behind the look into the kinds. -/
def KindsDone (w : World) (kd : Int) (box : Obj) (v5 v6 : Value) (wx : World) : Prop :=
  ∃ X B, v5 = .pointer (some ⟨X, 0, none⟩) ∧ v6 = .bool (kindOf B kd).isSome ∧ w.heap.size < X ∧ w.heap.size < B ∧ (∀ any i cap, kindOf B kd = some (any, i, cap) → wx.heap[X]? = some (.cells #[.bool any, .func (.func i) #[] cap] 96 (0, 0))) ∧
    (wx.cell? ⟨B + 1, 0, none⟩ = some (.int .i64 0) ∧ wx.cell? ⟨B + 2, 0, none⟩ = some (.int .i64 404) ∧ wx.cell? ⟨B + 3, 0, none⟩ = some (.int .i64 503)) ∧ B + 3 < wx.heap.size ∧ wx.heap[w.heap.size]? = some box ∧ Below w.heap.size w wx

abbrev z96 : Obj := .cells #[.bool false, .nilFunc] 96

theorem kinds_none {W : World} {B x : Nat} {kd : Int} (hs : W.heap.size = B) (hx : x < B) (hkd : (Lit.int .i64 kd).wf = true) (hk : ∀ B, kindOf B kd = none) (kc : W.cell? ⟨x, 2, none⟩ = some (.int .i64 kd)) :
    Calls Try.prog 40 #[] W fun e w2 => e = .returned (.map (some B)) ∧ (Instr.lookup 98 (.map (some B)) (.int .i64 kd) true).run Try.prog w2 = .ok (.tuple #[.agg #[.bool false, .nilFunc], .bool false]) w2 ∧
      (∀ o, (Instr.lookup 98 (.map (some B)) (.int .i64 kd) true).run Try.prog (w2.alloc o) = .ok (.tuple #[.agg #[.bool false, .nilFunc], .bool false]) (w2.alloc o)) ∧ w2.cell? ⟨x, 2, none⟩ = some (.int .i64 kd) ∧ (∀ o, (w2.alloc o).cell? ⟨x, 2, none⟩ = some (.int .i64 kd)) ∧ Hid (Below B W w2) := by
  refine (kinds_look W hs hkd).mono ?_
  rintro e w2 ⟨rfl, b2, hsz2, _, hlk⟩
  have hko := hk B
  have kc2 : w2.cell? ⟨x, 2, none⟩ = some (.int .i64 kd) := (b2.cell (p := ⟨x, 2, none⟩) hx).trans kc
  refine ⟨rfl, ?_, fun o => ?_, kc2, fun o => cell_same (a := ⟨x, 2, none⟩) ((World.grownBy_alloc w2 o none).block x (by omega) (by simp)) kc2, hide b2⟩
  · have := hlk w2 rfl
    rw [hko] at this
    exact this
  · have := hlk (w2.alloc o) ((World.grownBy_alloc w2 o none).block _ (by omega) (by simp))
    rw [hko] at this
    exact this

theorem z96_cells {w : World} {X : Nat} {t : TypeId} {x0 x1 : Value} (h : w.heap[X]? = some (.cells #[x0, x1] t (0, 0))) : (w.cell? ⟨X, 0, none⟩ = some x0 ∧ w.cell? ⟨X, 1, none⟩ = some x1) ∧ w.frozen? ⟨X, 0, none⟩ = false ∧ w.frozen? ⟨X, 1, none⟩ = false :=
  ⟨⟨Lib.cell_of_heap h 0, Lib.cell_of_heap h 1⟩, Lib.frozen_of_heap h 0, Lib.frozen_of_heap h 1⟩

set_option maxHeartbeats 2000000 in
set_option maxRecDepth 100000 in
theorem add_kind {w : World} {F : Nat} {u : ByteArray} {k kd m : Int} {a : Option Addr} {n c : Nat} (hv : validB u = true) (hu : u.size ≤ maxLen) (hkd : (Lit.int .i64 kd).wf = true) (hk : ∀ B, kindOf B kd = none) :
    Calls Try.prog 24 #[.pointer (some ⟨F, 0, none⟩), .agg #[.string u, .int .i64 k, .int .i64 kd, .int .i64 m, .slice a n c]] w fun e w' => e = .returned (.int .i64 7) ∧ Below w.heap.size w w' := by
  have b0 : Below w.heap.size w (box50 w u k kd m (.slice a n c)) := (Below.refl _ _).alloc (Nat.le_refl _) _
  obtain ⟨W0, hW0⟩ : ∃ W0, box50 w u k kd m (.slice a n c) = W0 := ⟨_, rfl⟩
  have s0 : W0.heap.size = w.heap.size + 1 := by rw [← hW0]; show (w.heap.push _).size = _; simp
  have blk0 : W0.heap[w.heap.size]? = some (.cells #[.string u, .int .i64 k, .int .i64 kd, .int .i64 m, .slice a n c] 50 (0, 0)) := by rw [← hW0]; exact heap_new w _
  have kc : W0.cell? ⟨w.heap.size, 2, none⟩ = some (.int .i64 kd) := Lib.cell_of_heap blk0 2
  rw [hW0] at b0
  have HW0 := hide hW0
  have HV := hide (valid_is hv (by unfold maxLen at hu; omega) (box50 w u k kd m (.slice a n c)))
  have HKD := hide hk
  have HS0 := hide s0
  have HKN := hide (kinds_none (W := W0.drew) (B := w.heap.size + 1) (x := w.heap.size) s0 (by omega) hkd hk kc)
  have s0' : (W0.alloc z96).drew.heap.size = w.heap.size + 2 := by show (W0.heap.push _).size = _; simp [s0]
  have kc' : (W0.alloc z96).drew.cell? ⟨w.heap.size, 2, none⟩ = some (.int .i64 kd) := cell_same (w := W0) (a := ⟨w.heap.size, 2, none⟩) ((World.grownBy_alloc W0 z96 none).block w.heap.size (by omega) (by simp)) kc
  have HKN2 := hide (kinds_none (W := (W0.alloc z96).drew) (B := w.heap.size + 2) (x := w.heap.size) s0' (by omega) hkd hk kc')
  have HZ : Hid ((W0.alloc z96).drew.heap[w.heap.size + 1]? = some z96) := by rw [← s0]; exact heap_new W0 _
  have HB0 := hide b0
  clear b0 s0' kc'
  clear hW0 hk hv
  go_enter_defers Try.func24, Try.ntmps24
  go_wp2_with (go_at_call 38; fail)
  refine (unhide HV).mono ?_
  rintro e w1 ⟨rfl, hw⟩
  rw [hw, unhide HW0]; clear hw w1
  go_upto_region 3 with fail
  go_cut [5, 6] from 14 to 20 (fun _ v6 wx => v6 = .bool false ∧ Below w.heap.size w wx)
  case first =>
    refine wp_region_noPanic ?_
    go_region_with (first
      | (go_at_call 40; refine (unhide HKN).mono ?_; rintro e w2 ⟨rfl, hl2, hl3, kc2, kc3, b2⟩; have BB : Hid (Below w.heap.size w w2) := below_kinds (unhide HS0) (unhide HB0) (unhide b2); clear b2)
      | (go_at_call 40; refine (unhide HKN2).mono ?_; rintro e w2 ⟨rfl, hl2, hl3, kc2, kc3, b2⟩; have BB : Hid (Below w.heap.size w w2) := ((unhide HB0).alloc (unhide HB0).size z96).drew.trans ((unhide b2).mono (by omega)); obtain ⟨⟨za, zb⟩, zc, zd⟩ := z96_cells (((unhide b2).block (w.heap.size + 1) (by omega)).trans (unhide HZ)); clear b2))
    all_goals
      refine NoPanic.normal ?_
      go_wp2_with fail
      go_meet
      exact ⟨rfl, by first | exact (unhide BB).alloc (unhide BB).size _ | exact ((unhide BB).setCell (p := ⟨w.heap.size + 1, 0, none⟩) (by show w.heap.size ≤ w.heap.size + 1; omega) _).setCell (p := ⟨w.heap.size + 1, 1, none⟩) (by show w.heap.size ≤ w.heap.size + 1; omega) _⟩
  case rest =>
    obtain ⟨rfl, hB⟩ := hcut
    go_wp2
    exact ⟨_, results_tmp rfl _ _ _, rfl, hB⟩

end Go.Proofs.Ytmbcjdlpdibalaa
