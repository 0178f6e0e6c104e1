/-
  A list of texts that came in, opened.
-/
import Derived.Test.YthcafeoamabkgaaGreatDoorVersA
import Derived.Deep.Slices
import Derived.ProofKit
import Derived.OpenShut
namespace Go.Proofs.YthcafeoamabkgaaGreatDoor
open Go.ChangeShapes Go.WideShapes Go.ChangeAt Go.RowKit

set_option maxRecDepth 100000 in
theorem slice_ok {t e : TypeId} {W : World} {base : Nat} {a : Addr} {len cap : Nat} (ht : Tryz.prog.underlying t = some (.slice e)) (h : Value.okWide Tryz.prog W .any base t (.slice (some a) len cap)) : a.spot = none ∧ a.block < W.heap.size := by
  simp only [Value.okWide, ht, Cell.okWide, Cell.ok] at h
  obtain ⟨_, _, _, hs, row, cells, hsh, _⟩ := h
  refine ⟨hs, ?_⟩
  unfold World.shape? at hsh
  cases hh : W.heap[a.block]? with
  | none => rw [hh] at hsh; cases hsh
  | some o => exact (Array.getElem?_eq_some_iff.1 hh).1

set_option maxRecDepth 100000 in
theorem open_texts {H : Type} {enc : TypeId × Value → H} {W : World} {base : Nat} {a : Option Addr} {len cap : Nat} {d : DataW H} {p : List MemPlace} (hv : Value.okWide Tryz.prog W .any base 69 (.slice a len cap))
    (h : DataW.Trod enc Tryz.prog W 0 (fun _ => true) true 69 (.slice a len cap) d p) :
    (a = none ∧ len = 0 ∧ cap = 0) ∨ ∃ (B O : Nat) (ps : List Str), a = some ⟨B, O, none⟩ ∧ len = ps.length ∧ B < W.heap.size ∧ ps.length ≤ 9223372036854775807 ∧ ∀ k (hk : k < ps.length), W.cell? ⟨B, O + k, none⟩ = some (.string (ba ps[k])) := by
  obtain ⟨fuel, hf⟩ := h
  rcases Deep.open_slice1 Tryz.underlying69 (by kernel_rfl) hf with ⟨hcs, _⟩ | ⟨x, len', cap', m, n, V, D, Pl, hcs, _, hl, hm, hmm, hx, hel⟩
  · simp [Value.cells] at hcs
    exact Or.inl hcs
  · simp [Value.cells] at hcs
    obtain ⟨rfl, rfl, rfl⟩ := hcs
    right
    obtain ⟨hs, hb⟩ := slice_ok Tryz.underlying69 hv
    obtain ⟨B, O, sp⟩ := x
    have hsp : sp = none := hs
    subst hsp
    have hmm' : m = cap := by simpa using hmm
    subst hmm'
    obtain ⟨f, hfx⟩ := Deep.choose_lt (α := Str) (n := len) (p := fun i s => W.cell? ⟨B, O + i, none⟩ = some (.string (ba s))) (fun i hi => by
      obtain ⟨h1, h2⟩ := hel i (by omega)
      obtain ⟨s, e, _⟩ := DataW.trod_string Tryz.underlying9 h2
      simp at e
      rw [e, WideShapes.add_plain] at h1
      exact ⟨s.data.toList, by rw [ba_of]; exact h1⟩)
    refine ⟨B, O, (List.range len).map f, rfl, by simp, hb, by unfold maxLen at hm; simp; omega, fun k hk => ?_⟩
    have hk' : k < len := by simpa using hk
    have e : ((List.range len).map f)[k] = f k := by simp
    rw [e]
    exact hfx k hk'

end Go.Proofs.YthcafeoamabkgaaGreatDoor
