/-
  The set of what a lock has: has and add; entryOf.
-/
import Derived.Test.YthcafeoamabkgaaGreatDoorLine
import Derived.Maps.OwnSet
import Derived.Maps.OwnOps
import Derived.DeepKeys4
import Derived.Laws.EntriesVeiled
namespace Go.Proofs.YthcafeoamabkgaaGreatDoor
open Go.RowKit Go.WideMaps Go.Maps

/-- A module and a kind. -/
abbrev En := Str × Str × Int
abbrev enV (x : En) : Value := .agg #[.string (ba x.1), .string (ba x.2.1), .int .i64 x.2.2]
abbrev enK (x : En) : Lit := .string (keyBytes [.string x.1, .string x.2.1, .int .i64 x.2.2])
/-- It may be a key. -/
def EnOk (x : En) : Prop := x.1.length ≤ maxLen ∧ x.2.1.length ≤ maxLen ∧ (Lit.int .i64 x.2.2).wf = true

def heldR (v : Value) : Option (DataW Value × List MemPlace) := some (.held v, [])
theorem held_inv {v : Value} {d : DataW Value} {ps : List MemPlace} (h : heldR v = some (d, ps)) : d = .held v := by
  simp [heldR] at h; exact h.1.symm

theorem law93 : Keyed Tryz.prog 93 := Keyed.of_law (deep_law_laid (by kernel_rfl) (m := 3) (by omega) (by decide +kernel) (by kernel_rfl) (by rw [Tryz.underlying93]))

set_option maxRecDepth 100000 in
theorem key93 {x : En} (h : EnOk x) : keyOf Tryz.prog 93 (enV x) = some (enK x) := by
  obtain ⟨p, v, k⟩ := x
  obtain ⟨h1, h2, h3⟩ := h
  simp only at h1 h2 h3
  have s1 : (ba p).size ≤ maxLen := by rw [ba_size]; exact h1
  have s2 : (ba v).size ≤ maxLen := by rw [ba_size]; exact h2
  have hkt : Tryz.prog.keyType 93 = true := by kernel_rfl
  obtain ⟨m, hm⟩ : ∃ m, Tryz.prog.types.size = m + 2 := ⟨_, (by kernel_rfl : Tryz.prog.types.size = (Tryz.prog.types.size - 2) + 2)⟩
  have c93 : Tryz.prog.cellsOf 93 = 3 := by kernel_rfl
  have c36 : Tryz.prog.cellsOf 36 = 2 := by kernel_rfl
  have c9 : Tryz.prog.cellsOf 9 = 1 := by kernel_rfl
  have c3 : Tryz.prog.cellsOf 3 = 1 := by kernel_rfl
  unfold keyOf
  simp only [Tryz.underlying93]
  rw [if_pos (by simp [hkt, Value.formed, Tryz.underlying93, c93]), hm]
  unfold Program.keyLits
  simp only [Tryz.underlying93, Value.cells]
  rw [if_pos (by simp [c93])]
  simp [Program.keyLits, Tryz.underlying36, Tryz.underlying9, Tryz.underlying3, c36, c9, c3, s1, s2, h3, ba_data]
  rw [if_pos (by decide)]
  rfl

theorem enK_inj {x y : En} (hx : EnOk x) (hy : EnOk y) (h : enK x = enK y) : x = y := by
  have h1 := key93 hx
  have h2 := key93 hy
  rw [h] at h1
  have h3 := law93.inj h1 h2
  obtain ⟨p, v, k⟩ := x
  obtain ⟨p', v', k'⟩ := y
  simp [ba_inj] at h3
  obtain ⟨rfl, rfl, rfl⟩ := h3
  rfl

/-- The map at block M has these. -/
structure SetAt (w : World) (M n : Nat) (ks : List En) : Prop where
  own : ∃ D, w.ownsMap Tryz.prog 93 heldR M n D ∧ (∀ x, EnOk x → Maps.has D (enK x) = decide (x ∈ ks)) ∧ ∀ x, EnOk x → D.atKey (enK x) (.held (.agg #[])) = .held (.agg #[])

theorem own_same {w w' : World} {k : TypeId} {b n : Nat} {D : DataW Value} (h : w.ownsMap Tryz.prog k heldR b n D) (hs : w'.heap[b]? = w.heap[b]?) : w'.ownsMap Tryz.prog k heldR b n D := by
  obtain ⟨es, clock, hb, r⟩ := h
  exact ⟨es, clock, hs.trans hb, r⟩

theorem SetAt.same {w w' : World} {M n : Nat} {ks : List En} (h : SetAt w M n ks) (hs : w'.heap[M]? = w.heap[M]?) : SetAt w' M n ks := by
  obtain ⟨D, h1, h2⟩ := h.own
  exact ⟨⟨D, own_same h1 hs, h2⟩⟩

theorem SetAt.lt {w : World} {M n : Nat} {ks : List En} (h : SetAt w M n ks) : M < w.heap.size := by
  obtain ⟨D, h1, _⟩ := h.own
  exact h1.lt

theorem SetAt.low {w w' : World} {M n : Nat} {ks : List En} (h : SetAt w M n ks) (hb : Below w.heap.size w w') : SetAt w' M n ks := h.same (hb.block M h.lt)

theorem zero172 (w : World) : (zeroValue 172).run Tryz.prog w = .ok (.agg #[]) w := by kernel_rfl

theorem look_en {w : World} {M n : Nat} {D : DataW Value} {x : En} (h : w.ownsMap Tryz.prog 93 heldR M n D) (hx : EnOk x) {b : Bool} (hb : Maps.has D (enK x) = b) (hat : D.atKey (enK x) (.held (.agg #[])) = .held (.agg #[])) : (Instr.lookup 132 (.map (some M)) (enV x) true).run Tryz.prog w = .ok (.tuple #[.agg #[], .bool b]) w := by
  obtain ⟨v, ps, h1, h2⟩ := h.look_ok law93 Tryz.underlying132 (zero172 w) (zd := .held (.agg #[])) (zp := []) rfl (key93 hx)
  have h3 := held_inv h2
  rw [hat] at h3
  cases h3
  rw [hb] at h1
  exact h1

theorem turned_size {w w' : World} {b : Nat} (h : w.mapTurned w' b) : w'.heap.size = w.heap.size := by
  obtain ⟨es, clock, es', clock', _, rfl⟩ := h
  simp [Go.ChangeMaps.setBlock]

theorem entryOf_any {x : Ln} (w : World) : Calls Tryz.prog 53 #[lnV x] w fun e w' => e = .returned (enV (x.p, x.v, x.k)) ∧ Below w.heap.size w w' := by
  obtain ⟨p, v, k, s⟩ := x
  go_enter Tryz.func53, Tryz.ntmps53
  go_wp2
  exact bodyPost_ret (v := enV (p, v, k)) (by simp [results, Tryz.results53, go_sem]) rfl ⟨rfl, ((Below.refl _ _).alloc (Nat.le_refl _) _).alloc (by simp) _⟩

theorem has_any {w : World} {M n : Nat} {ks : List En} {x : En} (h : SetAt w M n ks) (hx : EnOk x) : Calls Tryz.prog 86 #[.map (some M), enV x] w fun e w' => e = .returned (.bool (decide (x ∈ ks))) ∧ Below w.heap.size w w' := by
  obtain ⟨D, h1, h2, h3⟩ := h.own
  obtain ⟨b, hb⟩ : ∃ b, decide (x ∈ ks) = b := ⟨_, rfl⟩
  have hl : ∀ o, (Instr.lookup 132 (.map (some M)) (enV x) true).run Tryz.prog (w.alloc o) = .ok (.tuple #[.agg #[], .bool b]) (w.alloc o) := fun o => look_en (h1.alloc o) hx (by rw [h2 x hx, hb]) (h3 x hx)
  rw [hb]
  clear h h1 h2 h3 hb hx
  obtain ⟨p, v, k⟩ := x
  go_enter Tryz.func86, Tryz.ntmps86
  go_wp2
  go_ret
  exact ⟨rfl, ((Below.refl _ _).alloc (Nat.le_refl _) _).alloc (by simp) _⟩

/-- All but one block is as it was. -/
structure But (M : Nat) (w w' : World) : Prop where
  os : w'.os = w.os
  tape : w'.tape = w.tape
  output : w'.output = w.output
  size : w.heap.size ≤ w'.heap.size
  block : ∀ k, k < w.heap.size → k ≠ M → w'.heap[k]? = w.heap[k]?

theorem But.of {M : Nat} {w w' : World} (h : Below w.heap.size w w') : But M w w' := ⟨h.os, h.tape, h.output, h.size, fun k hk _ => h.block k hk⟩
theorem But.trans {M : Nat} {a b c : World} (h : But M a b) (k : But M b c) : But M a c := ⟨k.os.trans h.os, k.tape.trans h.tape, k.output.trans h.output, Nat.le_trans h.size k.size, fun i hi hne => (k.block i (Nat.lt_of_lt_of_le hi h.size) hne).trans (h.block i hi hne)⟩
theorem But.low {M B : Nat} {w0 w w' : World} (h : But M w w') (hb : Below B w0 w) (hB : B ≤ w.heap.size) (hM : B ≤ M) : Below B w0 w' :=
  ⟨h.os.trans hb.os, h.tape.trans hb.tape, h.output.trans hb.output, Nat.le_trans hb.size h.size, fun k hk => (h.block k (by omega) (by omega)).trans (hb.block k hk)⟩

set_option maxHeartbeats 1000000 in
theorem add_any {w : World} {M n : Nat} {ks : List En} {x : En} (h : SetAt w M n ks) (hx : EnOk x) (hn : n ≤ 1099511627776) : Calls Tryz.prog 87 #[.map (some M), enV x] w fun e w' => e = .returned (.tuple #[]) ∧ SetAt w' M (n + 1) (x :: ks) ∧ But M w w' := by
  obtain ⟨D, h1, h2, h3⟩ := h.own
  have hk := key93 hx
  have hlt := h1.lt
  have HO : ∀ o, (w.alloc o).ownsMap Tryz.prog 93 heldR M n D := fun o => h1.alloc o
  have HO := hide HO
  have H1 := hide h1
  have H2 := hide h2
  have H3 := hide h3
  have HX := hide hx
  clear h h1 h2 h3 hx
  obtain ⟨p, v, k⟩ := x
  go_enter Tryz.func87, Tryz.ntmps87
  go_wp2_with (at_mapUpdate; refine wpList_mapUpdate_in _ rfl _ _ _ 132 rfl 93 172 law93 Tryz.underlying132 heldR M n D rfl (unhide HO _) (by unfold maxLen; omega) _ _ _ rfl rfl hk _ [] rfl ?_; intro w2 hown2 hturn2)
  go_end0
  have g2 := hturn2.grown
  have sz : w2.heap.size = w.heap.size + 1 := by rw [turned_size hturn2]; show (w.heap.push _).size = _; simp
  refine ⟨rfl, ⟨⟨_, hown2, fun y hy => ?_, fun y hy => ?_⟩⟩, ⟨g2.os, g2.tape, g2.output, by omega, fun j hj hne => ?_⟩⟩
  · by_cases e : y = (p, v, k)
    · subst e
      rw [has_put_same (unhide H1).isMap (law93.key hk)]
      simp
    · rw [has_put_other (fun e2 => e (enK_inj hy (unhide HX) e2)), (unhide H2) y hy]
      simp [e]
  · by_cases e : y = (p, v, k)
    · subst e
      rw [atKey_put_same (unhide H1).isMap (law93.key hk)]
      rfl
    · rw [atKey_put_other (fun e2 => e (enK_inj hy (unhide HX) e2)), (unhide H3) y hy]
  · rw [g2.block j (by show j < (w.heap.push _).size; simp; omega) (by simpa using hne)]
    exact Below.heap_alloc _ _ j hj

end Go.Proofs.YthcafeoamabkgaaGreatDoor
