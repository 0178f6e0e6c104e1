/-
  Closed facts of the program: types, zero values, the keys' laws; how a table and the map of files read; the contracts of Has, file, begin and the three closures.
-/
import Derived.Test.YtbdbobikiikbgaaDoorProg
import Derived.WalkKit
import Derived.WalkLawsBesides
import Derived.WalkSpells
import Derived.Maps.OwnSet
import Derived.Maps.OwnOps
import Derived.Deep.QuietTactic
import Derived.BigQuiet
namespace Go.Proofs.YtbdbobikiikbgaaDoor
open Go.RowKit Go.WideMaps Go.Maps

theorem hide {p : Prop} (h : p) : Hid p := h
theorem unhide {p : Prop} (h : Hid p) : p := h
abbrev i64 (n : Int) : DataW Unit := .lit (.int .i64 n)
theorem lawS : Keyed Tryd.prog 9 := string_keyed Tryd.underlying9
theorem lawI : Keyed Tryd.prog 3 := int_keyed Tryd.underlying3
theorem zero3 (w : World) : (zeroValue 3).run Tryd.prog w = .ok (.int .i64 0) w := by kernel_rfl
theorem zero67 (w : World) : (zeroValue 67).run Tryd.prog w = .ok (.pointer none) w := by kernel_rfl

theorem lt_of_cell {w : World} {a : Addr} {v : Value} (h : w.cell? a = some v) : a.block < w.heap.size := by
  unfold World.cell? at h
  split at h
  · rename_i e; exact (Array.getElem?_eq_some_iff.1 e).1
  · cases h

/-- How an element of the map of files reads: nil, or the block of the file. -/
def fileElem : Value → Option (DataW Unit × List MemPlace)
  | .pointer none => some (.nil, [])
  | .pointer (some ⟨b, 0, none⟩) => some (.ptr (.lit (.int .i64 b)), [])
  | _ => none

theorem fileElem_inv {v : Value} {d : DataW Unit} {ps : List MemPlace} (h : fileElem v = some (d, ps)) :
    (v = .pointer none ∧ d = .nil) ∨ ∃ b : Nat, v = .pointer (some ⟨b, 0, none⟩) ∧ d = .ptr (.lit (.int .i64 b)) := by
  unfold fileElem at h
  split at h
  · simp at h; exact Or.inl ⟨rfl, h.1.symm⟩
  · simp at h; exact Or.inr ⟨_, rfl, h.1.symm⟩
  · cases h

/-- Block N is a table (a map of names to numbers) that reads as D. -/
def Tab (w : World) (N n : Nat) (D : DataW Unit) : Prop := w.ownsMap Tryd.prog 9 (plainElem Tryd.prog 3) N n D
/-- Block M is the map of files that reads as D. -/
def Fmap (w : World) (M n : Nat) (D : DataW Unit) : Prop := w.ownsMap Tryd.prog 3 fileElem M n D

theorem Tab.look {w : World} {N n : Nat} {D : DataW Unit} (h : Tab w N n D) (s : ByteArray) (hs : s.size ≤ maxLen) :
    ∃ c : Int, (∀ nq, (Instr.lookup 62 (.map (some N)) (.string s) false).run Tryd.prog (w.drewN nq) = .ok (.int .i64 c) (w.drewN nq)) ∧ D.atKey (.string s.data.toList) (i64 0) = i64 c ∧ (Lit.int .i64 c).wf = true := by
  have hkey := keyOf_string_mk Tryd.underlying9 hs
  obtain ⟨c, h1, h2, h3⟩ := World.ownsMap.lookup_int (w := w) h lawS Tryd.underlying62 Tryd.underlying3 (zero3 _) hkey
  refine ⟨c, fun nq => ?_, h2, h3⟩
  obtain ⟨c', h1', h2', h3'⟩ := World.ownsMap.lookup_int (w := w.drewN nq) h lawS Tryd.underlying62 Tryd.underlying3 (zero3 _) hkey
  have : c' = c := by rw [h2] at h2'; simpa using h2'.symm
  rw [← this]; exact h1'

theorem Fmap.look {w : World} {M n : Nat} {D : DataW Unit} (h : Fmap w M n D) (c : Int) (hc : (Lit.int .i64 c).wf = true) :
    ∃ v, (∀ nq, (Instr.lookup 60 (.map (some M)) (.int .i64 c) false).run Tryd.prog (w.drewN nq) = .ok v (w.drewN nq)) ∧
      ((v = .pointer none ∧ D.atKey (.int .i64 c) .nil = .nil) ∨ ∃ b : Nat, v = .pointer (some ⟨b, 0, none⟩) ∧ D.atKey (.int .i64 c) .nil = .ptr (.lit (.int .i64 b))) := by
  have hkey := keyOf_int_mk Tryd.underlying3 hc
  obtain ⟨v, ps, h1, h2⟩ := World.ownsMap.lookup (w := w) h lawI Tryd.underlying60 (zero67 _) (zd := .nil) (zp := []) rfl hkey
  refine ⟨v, fun nq => ?_, fileElem_inv h2⟩
  obtain ⟨v', ps', h1', h2'⟩ := World.ownsMap.lookup (w := w.drewN nq) h lawI Tryd.underlying60 (zero67 _) (zd := .nil) (zp := []) rfl hkey
  have e : v' = v := by
    rcases fileElem_inv h2 with ⟨e1, d1⟩ | ⟨b, e1, d1⟩ <;> rcases fileElem_inv h2' with ⟨e2, d2⟩ | ⟨b', e2, d2⟩
    · rw [e1, e2]
    · rw [d1] at d2; cases d2
    · rw [d1] at d2; cases d2
    · rw [d1] at d2; simp at d2; rw [e1, e2]; have : b' = b := by omega
      rw [this]
  rw [← e]; exact h1'

set_option maxHeartbeats 400000 in
theorem has_any (F N n : Nat) (D : DataW Unit) (s : ByteArray) (w : World) (c3 : w.cell? ⟨F, 3, none⟩ = some (.map (some N)))
    (hown : Tab w N n D) (hs : s.size ≤ maxLen) (c : Int) (hat : D.atKey (.string s.data.toList) (i64 0) = i64 c) :
    Calls Tryd.prog 50 #[.pointer (some ⟨F, 0, none⟩), .string s] w fun e w' => e = .returned (.bool (c != 0)) ∧ w' = w := by
  obtain ⟨c', hl, hat', hwc⟩ := hown.look s hs
  obtain rfl : c' = c := by rw [hat] at hat'; simpa using hat'.symm
  have hl0 := hl 0
  rw [World.drewN_zero] at hl0
  clear hl
  go_enter Tryd.func50, Tryd.ntmps50
  go_wp2
  go_ret
  exact ⟨rfl, rfl⟩

set_option maxHeartbeats 400000 in
theorem file_any (F N M n m : Nat) (D DM : DataW Unit) (s : ByteArray) (w : World) (c1 : w.cell? ⟨F, 1, none⟩ = some (.map (some M))) (c3 : w.cell? ⟨F, 3, none⟩ = some (.map (some N)))
    (hN : Tab w N n D) (hM : Fmap w M m DM) (hs : s.size ≤ maxLen) (c : Int) (hat : D.atKey (.string s.data.toList) (i64 0) = i64 c) :
    Calls Tryd.prog 45 #[.pointer (some ⟨F, 0, none⟩), .string s] w fun e w' => (∃ v, e = .returned v ∧
      ((v = .pointer none ∧ DM.atKey (.int .i64 c) .nil = .nil) ∨ ∃ b : Nat, v = .pointer (some ⟨b, 0, none⟩) ∧ DM.atKey (.int .i64 c) .nil = .ptr (.lit (.int .i64 b)))) ∧ ∃ nq, w' = w.drewN nq := by
  obtain ⟨c', hl, hat', hwc⟩ := hN.look s hs
  obtain rfl : c' = c := by rw [hat] at hat'; simpa using hat'.symm
  obtain ⟨v, hlv, hv⟩ := hM.look c' hwc
  have HV : Hid ((v = .pointer none ∧ DM.atKey (.int .i64 c') .nil = .nil) ∨ ∃ b : Nat, v = .pointer (some ⟨b, 0, none⟩) ∧ DM.atKey (.int .i64 c') .nil = .ptr (.lit (.int .i64 b))) := hv
  clear hv hat hat'
  go_enter Tryd.func45, Tryd.ntmps45
  go_wp2
  go_quiet (fail)
  go_wp2
  go_ret
  exact ⟨⟨v, rfl, HV.out⟩, nq, rfl⟩


section begin
variable (F : Nat) (st ar own : Int) (w : World)

theorem begin_down (c9 : w.cell? ⟨F, 9, none⟩ = some (.bool true)) :
    Calls Tryd.prog 39 #[.pointer (some ⟨F, 0, none⟩), .int .i64 own] w fun e w' => e = .returned (.int .i64 5) ∧ w' = w := by
  go_enter Tryd.func39, Tryd.ntmps39
  go_wp2
  go_ret
  exact ⟨rfl, rfl⟩

theorem begin_own (c9 : w.cell? ⟨F, 9, none⟩ = some (.bool false)) (ho : (own != 0) = true) :
    Calls Tryd.prog 39 #[.pointer (some ⟨F, 0, none⟩), .int .i64 own] w fun e w' => e = .returned (.int .i64 own) ∧ w' = w := by
  go_enter Tryd.func39, Tryd.ntmps39
  go_wp2
  go_ret
  exact ⟨rfl, rfl⟩

theorem begin_armed (c8 : w.cell? ⟨F, 8, none⟩ = some (.int .i64 1)) (c9 : w.cell? ⟨F, 9, none⟩ = some (.bool false)) (f8 : w.frozen? ⟨F, 8, none⟩ = false) (f9 : w.frozen? ⟨F, 9, none⟩ = false) :
    Calls Tryd.prog 39 #[.pointer (some ⟨F, 0, none⟩), .int .i64 0] w fun e w' => e = .returned (.int .i64 5) ∧ w' = (w.setCell ⟨F, 8, none⟩ (.int .i64 0)).setCell ⟨F, 9, none⟩ (.bool true) := by
  go_enter Tryd.func39, Tryd.ntmps39
  go_wp2
  go_ret
  exact ⟨rfl, rfl⟩

theorem begin_ok (c7 : w.cell? ⟨F, 7, none⟩ = some (.int .i64 st)) (c8 : w.cell? ⟨F, 8, none⟩ = some (.int .i64 ar)) (c9 : w.cell? ⟨F, 9, none⟩ = some (.bool false)) (f7 : w.frozen? ⟨F, 7, none⟩ = false) (f8 : w.frozen? ⟨F, 8, none⟩ = false)
    (h1 : (ar == 1) = false) (h0 : 0 ≤ ar) (ha : ar ≤ 9223372036854775807) (hs0 : 0 ≤ st) (hs1 : st < 4611686018427387904) :
    Calls Tryd.prog 39 #[.pointer (some ⟨F, 0, none⟩), .int .i64 0] w fun e w' => e = .returned (.int .i64 0) ∧ w' = (w.setCell ⟨F, 8, none⟩ (.int .i64 (max (ar - 1) 0))).setCell ⟨F, 7, none⟩ (.int .i64 (st + 1)) := by
  go_enter Tryd.func39, Tryd.ntmps39
  go_wp2
  all_goals (go_ret; refine ⟨rfl, ?_⟩)
  · rw [show max (ar - 1) 0 = 0 from by omega]
  · rw [show max (ar - 1) 0 = ar - 1 from by omega]
end begin

/- The closures: what a change does to a table. A key's value, as a number. -/
theorem put_do (N n Bs Bi : Nat) (D : DataW Unit) (s : ByteArray) (x : Int) (w : World) (hN : Tab w N n D) (hn : n < maxLen) (hs : s.size ≤ maxLen) (hx : (Lit.int .i64 x).wf = true)
    (cs : w.cell? ⟨Bs, 0, none⟩ = some (.string s)) (ci : w.cell? ⟨Bi, 0, none⟩ = some (.int .i64 x)) (c : Int) (hat : D.atKey (.string s.data.toList) (i64 0) = i64 c) :
    Calls Tryd.prog 61 #[.map (some N), .pointer (some ⟨Bs, 0, none⟩), .pointer (some ⟨Bi, 0, none⟩)] w fun e w' => e = .returned (.int .i64 c) ∧ Tab w' N (n + 1) (D.put (.string s.data.toList) (i64 x)) ∧ w.mapTurned w' N := by
  have hkey := keyOf_string_mk Tryd.underlying9 hs
  obtain ⟨c', hl, hat', hwc⟩ := hN.look s hs
  obtain rfl : c' = c := by rw [hat] at hat'; simpa using hat'.symm
  have hl0 := hl 0
  rw [World.drewN_zero] at hl0
  clear hl hat hat'
  go_enter Tryd.func61, Tryd.ntmps61
  go_wp2_with (first
    | (at_mapUpdate; refine wpList_mapUpdate_in _ rfl _ _ _ 62 rfl 9 3 lawS Tryd.underlying62 _ N n D rfl hN hn _ _ _ rfl rfl hkey _ [] (plainElem_int Tryd.underlying3 hx) ?_; intro w1 hown1 hturn1)
    | go_in)
  go_ret
  exact ⟨rfl, hown1, hturn1⟩

theorem drop_do (N n Bs : Nat) (D : DataW Unit) (s : ByteArray) (w : World) (hN : Tab w N n D) (hs : s.size ≤ maxLen)
    (cs : w.cell? ⟨Bs, 0, none⟩ = some (.string s)) (c : Int) (hat : D.atKey (.string s.data.toList) (i64 0) = i64 c) :
    Calls Tryd.prog 72 #[.map (some N), .pointer (some ⟨Bs, 0, none⟩)] w fun e w' => e = .returned (.int .i64 c) ∧ Tab w' N n (D.del (.string s.data.toList)) ∧ w.mapTurned w' N := by
  have hkey := keyOf_string_mk Tryd.underlying9 hs
  obtain ⟨c', hl, hat', hwc⟩ := hN.look s hs
  obtain rfl : c' = c := by rw [hat] at hat'; simpa using hat'.symm
  have hl0 := hl 0
  rw [World.drewN_zero] at hl0
  clear hl hat hat'
  go_enter Tryd.func72, Tryd.ntmps72
  go_wp2_with (first
    | (at_delete; refine wpList_delete_own _ rfl _ _ 62 9 rfl 3 lawS Tryd.underlying62 _ N n D rfl hN _ _ rfl hkey ?_; intro w1 hown1 hturn1)
    | go_in)
  go_ret
  exact ⟨rfl, hown1, hturn1⟩

theorem move_do (N n Bt Bf : Nat) (D : DataW Unit) (to fr : ByteArray) (w : World) (hN : Tab w N n D) (hn : n < maxLen) (ht : to.size ≤ maxLen) (hf : fr.size ≤ maxLen)
    (ct : w.cell? ⟨Bt, 0, none⟩ = some (.string to)) (cf : w.cell? ⟨Bf, 0, none⟩ = some (.string fr)) (c x : Int)
    (hat : D.atKey (.string to.data.toList) (i64 0) = i64 c) (hax : D.atKey (.string fr.data.toList) (i64 0) = i64 x) :
    Calls Tryd.prog 63 #[.map (some N), .pointer (some ⟨Bt, 0, none⟩), .pointer (some ⟨Bf, 0, none⟩)] w fun e w' => e = .returned (.int .i64 c) ∧
      Tab w' N (n + 1) ((D.put (.string to.data.toList) (i64 x)).del (.string fr.data.toList)) ∧ w.mapTurned w' N := by
  have hkt := keyOf_string_mk Tryd.underlying9 ht
  have hkf := keyOf_string_mk Tryd.underlying9 hf
  obtain ⟨c', hl, hat', hwc⟩ := hN.look to ht
  obtain rfl : c' = c := by rw [hat] at hat'; simpa using hat'.symm
  obtain ⟨x', hlx, hax', hwx⟩ := hN.look fr hf
  obtain rfl : x' = x := by rw [hax] at hax'; simpa using hax'.symm
  have hl0 := hl 0
  have hx0 := hlx 0
  rw [World.drewN_zero] at hl0 hx0
  have hNb : N ≠ Bf := by
    intro e; subst e
    obtain ⟨es, ck, hb, _⟩ := hN
    simp [World.cell?, hb] at cf
  clear hl hat hat' hlx hax hax'
  go_enter Tryd.func63, Tryd.ntmps63
  go_wp2_with (first
    | (at_mapUpdate; refine wpList_mapUpdate_in _ rfl _ _ _ 62 rfl 9 3 lawS Tryd.underlying62 _ N n D rfl hN hn _ _ _ rfl rfl hkt _ [] (plainElem_int Tryd.underlying3 hwx) ?_; intro w1 hown1 hturn1; have cf1 : w1.cell? ⟨Bf, 0, none⟩ = some (.string fr) := (World.cell?_of_block (hturn1.grown.block Bf (lt_of_cell cf) (fun e => hNb (by simpa using e.symm)))).trans cf)
    | (at_delete; refine wpList_delete_own _ rfl _ _ 62 9 rfl 3 lawS Tryd.underlying62 _ N (n + 1) _ rfl hown1 _ _ rfl hkf ?_; intro w2 hown2 hturn2)
    | go_in)
  go_ret
  exact ⟨rfl, hown2, hturn1.trans hturn2⟩

end Go.Proofs.YtbdbobikiikbgaaDoor
