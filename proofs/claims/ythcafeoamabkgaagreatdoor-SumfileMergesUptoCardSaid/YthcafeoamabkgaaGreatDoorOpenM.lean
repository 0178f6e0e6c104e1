/-
  A module and a list of modules that came in, opened.
-/
import Derived.Test.YthcafeoamabkgaaGreatDoorOpenL
import Derived.Test.YthcafeoamabkgaaGreatDoorKeepM
namespace Go.Proofs.YthcafeoamabkgaaGreatDoor
open Go.ChangeShapes Go.WideShapes Go.ChangeAt Go.RowKit

set_option maxRecDepth 100000 in
theorem open_modv {H : Type} {enc : TypeId × Value → H} {W : World} {base : Nat} {v : Value} {d : DataW H} {p : List MemPlace} (hv : Value.okWide Tryz.prog W .any base 36 v)
    (h : DataW.Trod enc Tryz.prog W 0 (fun _ => true) true 36 v d p) : ∃ x : Md, v = .agg #[.string (ba x.1), .string (ba x.2)] ∧ x.1.length + x.2.length ≤ Rows.uptoBulk d := by
  obtain ⟨cs, rfl, hsz⟩ := okWide_struct Tryz.underlying36 hv
  obtain ⟨fuel, hf⟩ := h
  obtain ⟨x, hx, hb⟩ := open_mod hf
  obtain ⟨l⟩ := cs
  have hx' : l = [.string (ba x.1), .string (ba x.2)] := by simpa [Value.cells] using hx
  subst hx'
  exact ⟨x, rfl, hb⟩

set_option maxRecDepth 100000 in
theorem open_mods {H : Type} {enc : TypeId × Value → H} {W : World} {base : Nat} {a : Option Addr} {len cap : Nat} {d : DataW H} {p : List MemPlace} (hv : Value.okWide Tryz.prog W .any base 53 (.slice a len cap))
    (h : DataW.Trod enc Tryz.prog W 0 (fun _ => true) true 53 (.slice a len cap) d p) :
    ∃ xs : List Md, len = xs.length ∧ MRow W a xs ∧ (∀ x ∈ xs, x.1.length + x.2.length ≤ Rows.uptoBulk d) := by
  obtain ⟨fuel, hf⟩ := h
  rcases Deep.open_slice Tryz.underlying53 hf with ⟨hcs, _⟩ | ⟨x, len', cap', m, n, D, Pl, hcs, _, hl, hm, hmm, hx, hel⟩
  · simp [Value.cells] at hcs
    exact ⟨[], hcs.2.1, ⟨Or.inl rfl⟩, fun x hx => by cases hx⟩
  · simp [Value.cells] at hcs
    obtain ⟨rfl, rfl, rfl⟩ := hcs
    obtain ⟨hs, hb⟩ := slice_ok Tryz.underlying53 hv
    obtain ⟨B, O, sp⟩ := x
    have hsp : sp = none := hs
    subst hsp
    have hmm' : m = cap := by simpa using hmm
    subst hmm'
    have c36 : Tryz.prog.cellsOf 36 = 2 := by kernel_rfl
    rw [c36] at hel
    simp only [Prod.mk.injEq] at hx
    rw [hx.1]
    have hb2 := bulk_slice (Nat.le_refl (Rows.uptoBulk (.slice ((List.range len).map D) ((List.range (m - len)).map fun j => D (len + j)))))
    obtain ⟨f, hfx⟩ := Deep.choose_lt (α := Md) (n := len) (p := fun i s => (W.cell? ⟨B, O + i * 2, none⟩ = some (.string (ba s.1)) ∧ W.cell? ⟨B, O + i * 2 + 1, none⟩ = some (.string (ba s.2))) ∧ s.1.length + s.2.length ≤ Rows.uptoBulk (D i)) (fun i hi => by
      obtain ⟨cs, h1, h2⟩ := hel i (by omega)
      obtain ⟨x, rfl, hp⟩ := open_mod h2
      obtain ⟨_, _, hcell⟩ := World.cells?_some h1
      have z0 := hcell 0 (by omega)
      have z1 := hcell 1 (by omega)
      rw [WideShapes.add_plain, WideShapes.add_plain] at z0 z1
      exact ⟨x, ⟨z0, z1⟩, hp⟩)
    refine ⟨(List.range len).map f, by simp, ⟨Or.inr ⟨B, O, rfl, fun k hk => ?_⟩⟩, ?_⟩
    · have hk' : k < len := by simpa using hk
      have e : ((List.range len).map f)[k] = f k := by simp
      rw [e]
      exact (hfx k hk').1
    · intro x hx
      obtain ⟨i, hi, rfl⟩ := List.mem_map.1 hx
      have h1 := (hfx i (List.mem_range.1 hi)).2
      have h2 : Rows.uptoBulk (D i) ≤ Rows.uptoBulkAll ((List.range len).map D) := bulk_mem (List.mem_map.2 ⟨i, hi, rfl⟩)
      omega

theorem mdOk_md {x : Md} {n : Nat} (h : x.1.length + x.2.length ≤ n) (hn : n ≤ 1048576) : MdOk x := by
  constructor
  · unfold maxLen
    omega
  · unfold maxLen
    omega
theorem mdOk_ln {x : Ln} {n : Nat} (h : x.p.length + x.v.length + x.s.length ≤ n) (hn : n ≤ 1048576) : MdOk (x.p, x.v) := mdOk_md (n := n) (by show x.p.length + x.v.length ≤ n; omega) hn

end Go.Proofs.YthcafeoamabkgaaGreatDoor
