/-
  A module and a list of modules that came in, opened.
-/
import Derived.Test.YthcafeoamabkgaaGreatDoorVersX
import Derived.Deep.Slices
import Derived.ProofKit
import Derived.OpenShut
import Derived.Test.YthcafeoamabkgaaGreatDoorRows
import Derived.Test.YthcafeoamabkgaaGreatDoorFewX
import Derived.Test.YthcafeoamabkgaaGreatDoorKeepM
namespace Go.Proofs.YthcafeoamabkgaaGreatDoor
open Go.ChangeShapes Go.WideShapes Go.ChangeAt Go.RowKit

set_option maxRecDepth 100000 in
theorem slice_ok {t e : TypeId} {W : World} {base : Nat} {a : Addr} {len cap : Nat} (ht : Tryz.prog.underlying t = some (.slice e)) (h : Value.okWide Tryz.prog W .any base t (.slice (some a) len cap)) : a.spot = none ∧ a.block < W.heap.size := by
  simp only [Value.okWide, ht, Cell.okWide, Cell.ok] at h
  obtain ⟨_, _, _, hs, row, cells, hsh, _⟩ := h
  refine ⟨hs, ?_⟩
  unfold World.shape? at hsh
  cases hh : W.heap[a.block]? with
  | none => rw [hh] at hsh; cases hsh
  | some o => exact (Array.getElem?_eq_some_iff.1 hh).1

set_option maxRecDepth 100000 in
theorem open_texts {H : Type} {enc : TypeId × Value → H} {W : World} {base : Nat} {a : Option Addr} {len cap : Nat} {d : DataW H} {p : List MemPlace} (hv : Value.okWide Tryz.prog W .any base 69 (.slice a len cap))
    (h : DataW.Trod enc Tryz.prog W 0 (fun _ => true) true 69 (.slice a len cap) d p) :
    (a = none ∧ len = 0 ∧ cap = 0) ∨ ∃ (B O : Nat) (ps : List Str), a = some ⟨B, O, none⟩ ∧ len = ps.length ∧ B < W.heap.size ∧ ps.length ≤ 9223372036854775807 ∧ ∀ k (hk : k < ps.length), W.cell? ⟨B, O + k, none⟩ = some (.string (ba ps[k])) := by
  obtain ⟨fuel, hf⟩ := h
  rcases Deep.open_slice1 Tryz.underlying69 (by kernel_rfl) hf with ⟨hcs, _⟩ | ⟨x, len', cap', m, n, V, D, Pl, hcs, _, hl, hm, hmm, hx, hel⟩
  · simp [Value.cells] at hcs
    exact Or.inl hcs
  · simp [Value.cells] at hcs
    obtain ⟨rfl, rfl, rfl⟩ := hcs
    right
    obtain ⟨hs, hb⟩ := slice_ok Tryz.underlying69 hv
    obtain ⟨B, O, sp⟩ := x
    have hsp : sp = none := hs
    subst hsp
    have hmm' : m = cap := by simpa using hmm
    subst hmm'
    obtain ⟨f, hfx⟩ := Deep.choose_lt (α := Str) (n := len) (p := fun i s => W.cell? ⟨B, O + i, none⟩ = some (.string (ba s))) (fun i hi => by
      obtain ⟨h1, h2⟩ := hel i (by omega)
      obtain ⟨s, e, _⟩ := DataW.trod_string Tryz.underlying9 h2
      simp at e
      rw [e, WideShapes.add_plain] at h1
      exact ⟨s.data.toList, by rw [ba_of]; exact h1⟩)
    refine ⟨B, O, (List.range len).map f, rfl, by simp, hb, by unfold maxLen at hm; simp; omega, fun k hk => ?_⟩
    have hk' : k < len := by simpa using hk
    have e : ((List.range len).map f)[k] = f k := by simp
    rw [e]
    exact hfx k hk'

end Go.Proofs.YthcafeoamabkgaaGreatDoor

namespace Go.Proofs.YthcafeoamabkgaaGreatDoor
open Go.ChangeShapes Go.WideShapes Go.ChangeAt Go.RowKit

theorem bulk_one {H : Type} (d : DataW H) : 1 ≤ Rows.uptoBulk d := by
  cases d with
  | lit l => cases l <;> simp [Rows.uptoBulk]
  | _ => simp [Rows.uptoBulk]

theorem bulk_len {H : Type} (l : List (DataW H)) : l.length ≤ Rows.uptoBulkAll l := by
  induction l with
  | nil => simp [Rows.uptoBulkAll]
  | cons x r ih => have := bulk_one x; simp only [Rows.uptoBulkAll, List.length_cons]; omega

theorem bulk_mem {H : Type} {d : DataW H} {l : List (DataW H)} (h : d ∈ l) : Rows.uptoBulk d ≤ Rows.uptoBulkAll l := by
  induction l with
  | nil => cases h
  | cons x r ih =>
    simp only [Rows.uptoBulkAll]
    cases List.mem_cons.1 h with
    | inl e => subst e; omega
    | inr e => have := ih e; omega

set_option maxRecDepth 100000 in
theorem bulk_bound {H : Type} {l : List (DataW H)} (hk : Rows.uptoSmall H l = true) : Rows.uptoBulkAll l ≤ 1048576 := of_decide_eq_true hk

theorem bulk_slice {H : Type} {elems spare : List (DataW H)} {n : Nat} (h : Rows.uptoBulk (.slice elems spare) ≤ n) : Rows.uptoBulkAll elems ≤ n := by
  simp only [Rows.uptoBulk] at h
  omega

theorem slice_len {H : Type} {enc : TypeId × Value → H} {W : World} {t e : TypeId} (ht : Tryz.prog.underlying t = some (.slice e)) {a : Option Addr} {len cap : Nat} {d : DataW H} {p : List MemPlace}
    (h : DataW.Trod enc Tryz.prog W 0 (fun _ => true) true t (.slice a len cap) d p) : len ≤ Rows.uptoBulk d := by
  obtain ⟨fuel, hf⟩ := h
  rcases Deep.open_slice ht hf with ⟨hcs, _⟩ | ⟨x, len', cap', m, n, D, Pl, hcs, _, hl, hm, hmm, hx, hel⟩
  · simp [Value.cells] at hcs
    omega
  · simp [Value.cells] at hcs
    obtain ⟨rfl, rfl, rfl⟩ := hcs
    simp only [Prod.mk.injEq] at hx
    rw [hx.1]
    have h1 := bulk_slice (Nat.le_refl (Rows.uptoBulk (.slice ((List.range len).map D) ((List.range (m - len)).map fun j => D (len + j)))))
    have h2 := bulk_len ((List.range len).map D)
    simp at h2
    omega

end Go.Proofs.YthcafeoamabkgaaGreatDoor

namespace Go.Proofs.YthcafeoamabkgaaGreatDoor
open Go.ChangeShapes Go.WideShapes Go.ChangeAt Go.RowKit

set_option maxRecDepth 100000 in
theorem open_mod {H : Type} {enc : TypeId × Value → H} {W : World} {fuel : Nat} {cs : List Value} {y : DataW H × List MemPlace} (h : DataW.trod enc Tryz.prog W 0 (fun _ => true) true fuel 36 cs = some y) :
    ∃ p : Md, cs = [.string (ba p.1), .string (ba p.2)] ∧ p.1.length + p.2.length ≤ Rows.uptoBulk y.1 := by
  obtain ⟨xs, k, _, hxy, hcl, hxl, hf⟩ := DataW.trod_struct Tryz.underlying36 h
  have c36 : Tryz.prog.cellsOf 36 = 2 := by kernel_rfl
  have c9 : Tryz.prog.cellsOf 9 = 1 := by kernel_rfl
  rw [c36] at hcl
  have hxl2 : xs.length = 2 := hxl
  match xs, hxl2, cs, hcl with
  | [y0, y1], _, [v0, v1], _ =>
    have g0 := hf 0 _ rfl
    have g1 := hf 1 _ rfl
    simp [c9] at g0 g1
    obtain ⟨s0, e0, f0, _⟩ := DataW.trod_string Tryz.underlying9 g0
    obtain ⟨s1, e1, f1, _⟩ := DataW.trod_string Tryz.underlying9 g1
    simp at e0 e1
    subst e0 e1
    refine ⟨(s0.data.toList, s1.data.toList), by rw [ba_of, ba_of], ?_⟩
    rw [hxy]
    simp only [List.map_cons, List.map_nil, Rows.uptoBulk, Rows.uptoBulkAll, f0, f1]
    omega

set_option maxRecDepth 100000 in
theorem open_line {H : Type} {enc : TypeId × Value → H} {W : World} {fuel : Nat} {cs : List Value} {y : DataW H × List MemPlace} (h : DataW.trod enc Tryz.prog W 0 (fun _ => true) true fuel 38 cs = some y) :
    ∃ x : Ln, cs = [.string (ba x.p), .string (ba x.v), .int .i64 x.k, .string (ba x.s)] ∧ (Lit.int .i64 x.k).wf = true ∧ x.p.length + x.v.length + x.s.length ≤ Rows.uptoBulk y.1 := by
  obtain ⟨xs, k, _, hxy, hcl, hxl, hf⟩ := DataW.trod_struct Tryz.underlying38 h
  have c38 : Tryz.prog.cellsOf 38 = 4 := by kernel_rfl
  have c36 : Tryz.prog.cellsOf 36 = 2 := by kernel_rfl
  have c9 : Tryz.prog.cellsOf 9 = 1 := by kernel_rfl
  have c3 : Tryz.prog.cellsOf 3 = 1 := by kernel_rfl
  rw [c38] at hcl
  have hxl2 : xs.length = 3 := hxl
  match xs, hxl2, cs, hcl with
  | [y0, y1, y2], _, [v0, v1, v2, v3], _ =>
    have g0 := hf 0 _ rfl
    have g1 := hf 1 _ rfl
    have g2 := hf 2 _ rfl
    simp [c36, c9, c3] at g0 g1 g2
    obtain ⟨m, em, hm⟩ := open_mod g0
    obtain ⟨n1, e1, _, wf1⟩ := DataW.trod_int Tryz.underlying3 g1
    obtain ⟨s2, e2, f2, _⟩ := DataW.trod_string Tryz.underlying9 g2
    simp at em e1 e2
    obtain ⟨em0, em1⟩ := em
    subst em0 em1 e1 e2
    refine ⟨⟨m.1, m.2, n1, s2.data.toList⟩, by rw [ba_of], wf1, ?_⟩
    rw [hxy]
    simp only [List.map_cons, List.map_nil, Rows.uptoBulk, Rows.uptoBulkAll, f2]
    omega

set_option maxRecDepth 100000 in
theorem open_lines {H : Type} {enc : TypeId × Value → H} {W : World} {base : Nat} {a : Option Addr} {len cap : Nat} {d : DataW H} {p : List MemPlace} (hv : Value.okWide Tryz.prog W .any base 22 (.slice a len cap))
    (h : DataW.Trod enc Tryz.prog W 0 (fun _ => true) true 22 (.slice a len cap) d p) :
    ∃ xs : List Ln, len = xs.length ∧ LRow W a xs ∧ (∀ x ∈ xs, (Lit.int .i64 x.k).wf = true ∧ x.p.length + x.v.length + x.s.length ≤ Rows.uptoBulk d) := by
  obtain ⟨fuel, hf⟩ := h
  rcases Deep.open_slice Tryz.underlying22 hf with ⟨hcs, _⟩ | ⟨x, len', cap', m, n, D, Pl, hcs, _, hl, hm, hmm, hx, hel⟩
  · simp [Value.cells] at hcs
    exact ⟨[], hcs.2.1, ⟨Or.inl rfl⟩, fun x hx => by cases hx⟩
  · simp [Value.cells] at hcs
    obtain ⟨rfl, rfl, rfl⟩ := hcs
    obtain ⟨hs, hb⟩ := slice_ok Tryz.underlying22 hv
    obtain ⟨B, O, sp⟩ := x
    have hsp : sp = none := hs
    subst hsp
    have hmm' : m = cap := by simpa using hmm
    subst hmm'
    have c38 : Tryz.prog.cellsOf 38 = 4 := by kernel_rfl
    rw [c38] at hel
    simp only [Prod.mk.injEq] at hx
    rw [hx.1]
    have hb2 := bulk_slice (Nat.le_refl (Rows.uptoBulk (.slice ((List.range len).map D) ((List.range (m - len)).map fun j => D (len + j)))))
    obtain ⟨f, hfx⟩ := Deep.choose_lt (α := Ln) (n := len) (p := fun i s => LnAt W B (O + i * 4) s ∧ (Lit.int .i64 s.k).wf = true ∧ s.p.length + s.v.length + s.s.length ≤ Rows.uptoBulk (D i)) (fun i hi => by
      obtain ⟨cs, h1, h2⟩ := hel i (by omega)
      obtain ⟨x, rfl, hwf, hp⟩ := open_line h2
      obtain ⟨_, _, hcell⟩ := World.cells?_some h1
      have z0 := hcell 0 (by omega)
      have z1 := hcell 1 (by omega)
      have z2 := hcell 2 (by omega)
      have z3 := hcell 3 (by omega)
      rw [WideShapes.add_plain, WideShapes.add_plain] at z0 z1 z2 z3
      exact ⟨x, ⟨z0, z1, z2, z3⟩, hwf, hp⟩)
    refine ⟨(List.range len).map f, by simp, ⟨Or.inr ⟨B, O, rfl, fun k hk => ?_⟩⟩, ?_⟩
    · have hk' : k < len := by simpa using hk
      have e : ((List.range len).map f)[k] = f k := by simp
      rw [e]
      exact (hfx k hk').1
    · intro x hx
      obtain ⟨i, hi, rfl⟩ := List.mem_map.1 hx
      have h1 := (hfx i (List.mem_range.1 hi)).2
      have h2 : Rows.uptoBulk (D i) ≤ Rows.uptoBulkAll ((List.range len).map D) := bulk_mem (List.mem_map.2 ⟨i, hi, rfl⟩)
      exact ⟨h1.1, by omega⟩

end Go.Proofs.YthcafeoamabkgaaGreatDoor

namespace Go.Proofs.YthcafeoamabkgaaGreatDoor
open Go.ChangeShapes Go.WideShapes Go.ChangeAt Go.RowKit

set_option maxRecDepth 100000 in
theorem open_modv {H : Type} {enc : TypeId × Value → H} {W : World} {base : Nat} {v : Value} {d : DataW H} {p : List MemPlace} (hv : Value.okWide Tryz.prog W .any base 36 v)
    (h : DataW.Trod enc Tryz.prog W 0 (fun _ => true) true 36 v d p) : ∃ x : Md, v = .agg #[.string (ba x.1), .string (ba x.2)] ∧ x.1.length + x.2.length ≤ Rows.uptoBulk d := by
  obtain ⟨cs, rfl, hsz⟩ := okWide_struct Tryz.underlying36 hv
  obtain ⟨fuel, hf⟩ := h
  obtain ⟨x, hx, hb⟩ := open_mod hf
  obtain ⟨l⟩ := cs
  have hx' : l = [.string (ba x.1), .string (ba x.2)] := by simpa [Value.cells] using hx
  subst hx'
  exact ⟨x, rfl, hb⟩

set_option maxRecDepth 100000 in
theorem open_mods {H : Type} {enc : TypeId × Value → H} {W : World} {base : Nat} {a : Option Addr} {len cap : Nat} {d : DataW H} {p : List MemPlace} (hv : Value.okWide Tryz.prog W .any base 53 (.slice a len cap))
    (h : DataW.Trod enc Tryz.prog W 0 (fun _ => true) true 53 (.slice a len cap) d p) :
    ∃ xs : List Md, len = xs.length ∧ MRow W a xs ∧ (∀ x ∈ xs, x.1.length + x.2.length ≤ Rows.uptoBulk d) := by
  obtain ⟨fuel, hf⟩ := h
  rcases Deep.open_slice Tryz.underlying53 hf with ⟨hcs, _⟩ | ⟨x, len', cap', m, n, D, Pl, hcs, _, hl, hm, hmm, hx, hel⟩
  · simp [Value.cells] at hcs
    exact ⟨[], hcs.2.1, ⟨Or.inl rfl⟩, fun x hx => by cases hx⟩
  · simp [Value.cells] at hcs
    obtain ⟨rfl, rfl, rfl⟩ := hcs
    obtain ⟨hs, hb⟩ := slice_ok Tryz.underlying53 hv
    obtain ⟨B, O, sp⟩ := x
    have hsp : sp = none := hs
    subst hsp
    have hmm' : m = cap := by simpa using hmm
    subst hmm'
    have c36 : Tryz.prog.cellsOf 36 = 2 := by kernel_rfl
    rw [c36] at hel
    simp only [Prod.mk.injEq] at hx
    rw [hx.1]
    have hb2 := bulk_slice (Nat.le_refl (Rows.uptoBulk (.slice ((List.range len).map D) ((List.range (m - len)).map fun j => D (len + j)))))
    obtain ⟨f, hfx⟩ := Deep.choose_lt (α := Md) (n := len) (p := fun i s => (W.cell? ⟨B, O + i * 2, none⟩ = some (.string (ba s.1)) ∧ W.cell? ⟨B, O + i * 2 + 1, none⟩ = some (.string (ba s.2))) ∧ s.1.length + s.2.length ≤ Rows.uptoBulk (D i)) (fun i hi => by
      obtain ⟨cs, h1, h2⟩ := hel i (by omega)
      obtain ⟨x, rfl, hp⟩ := open_mod h2
      obtain ⟨_, _, hcell⟩ := World.cells?_some h1
      have z0 := hcell 0 (by omega)
      have z1 := hcell 1 (by omega)
      rw [WideShapes.add_plain, WideShapes.add_plain] at z0 z1
      exact ⟨x, ⟨z0, z1⟩, hp⟩)
    refine ⟨(List.range len).map f, by simp, ⟨Or.inr ⟨B, O, rfl, fun k hk => ?_⟩⟩, ?_⟩
    · have hk' : k < len := by simpa using hk
      have e : ((List.range len).map f)[k] = f k := by simp
      rw [e]
      exact (hfx k hk').1
    · intro x hx
      obtain ⟨i, hi, rfl⟩ := List.mem_map.1 hx
      have h1 := (hfx i (List.mem_range.1 hi)).2
      have h2 : Rows.uptoBulk (D i) ≤ Rows.uptoBulkAll ((List.range len).map D) := bulk_mem (List.mem_map.2 ⟨i, hi, rfl⟩)
      omega

theorem mdOk_md {x : Md} {n : Nat} (h : x.1.length + x.2.length ≤ n) (hn : n ≤ 1048576) : MdOk x := by
  constructor
  · unfold maxLen
    omega
  · unfold maxLen
    omega
theorem mdOk_ln {x : Ln} {n : Nat} (h : x.p.length + x.v.length + x.s.length ≤ n) (hn : n ≤ 1048576) : MdOk (x.p, x.v) := mdOk_md (n := n) (by show x.p.length + x.v.length ≤ n; omega) hn

end Go.Proofs.YthcafeoamabkgaaGreatDoor
