/-
  A list of texts that came in, opened.
-/
import Derived.Test.YtmbcjdlpdibalaaOpenN
import Derived.Test.YtmbcjdlpdibalaaAloA
namespace Go.Proofs.Ytmbcjdlpdibalaa
open Go.ChangeShapes Go.WideShapes Go.ChangeAt Go.RowKit

theorem open_texts {H : Type} {enc : TypeId × Value → H} {W : World} {a : Option Addr} {len cap : Nat} {d : DataW H} {p : List MemPlace}
    (h : DataW.Trod enc Try.prog W 0 (fun _ => true) true 24 (.slice a len cap) d p) (hb : Rows.uptoBulk d ≤ 1048576) :
    ∃ ts : List ByteArray, TextsAt W a len ts ∧ len ≤ 1099511627776 := by
  obtain ⟨fuel, hf⟩ := h
  rcases Deep.open_slice1 Try.underlying24 (by kernel_rfl) hf with ⟨hcs, _⟩ | ⟨x, len', cap', m, n, V, D, Pl, hcs, _, hl, hm, hmm, hx, hel⟩
  · simp [Value.cells] at hcs
    obtain ⟨rfl, rfl, rfl⟩ := hcs
    exact ⟨[], ⟨rfl, Or.inl rfl⟩, by omega⟩
  · simp [Value.cells] at hcs
    obtain ⟨rfl, rfl, rfl⟩ := hcs
    have hmm' : m = cap := by simpa using hmm
    subst hmm'
    by_cases h0 : len = 0
    · subst h0
      exact ⟨[], ⟨rfl, Or.inl rfl⟩, by omega⟩
    obtain ⟨z1, z2⟩ := hel 0 (by omega)
    have hspot : x.spot = none := by
      have := cell_spot z1
      simpa [Addr.add] using this
    obtain ⟨B, O, sp⟩ := x
    have hsp : sp = none := hspot
    subst hsp
    simp only [Prod.mk.injEq] at hx
    rw [hx.1] at hb
    have hb2 : Rows.uptoBulkAll ((List.range len).map D) ≤ 1048576 := bulk_slice hb
    have hbl := bulk_len ((List.range len).map D)
    simp at hbl
    obtain ⟨f, hfx⟩ := Deep.choose_lt (α := ByteArray) (n := len) (p := fun i s => W.cell? ⟨B, O + i, none⟩ = some (.string s) ∧ s.size ≤ maxLen) (fun i hi => by
      obtain ⟨h1, h2⟩ := hel i (by omega)
      obtain ⟨s, e, f0, _⟩ := DataW.trod_string Try.underlying9 h2
      simp at e
      rw [e, WideShapes.add_plain] at h1
      have hmem : Rows.uptoBulk (D i) ≤ Rows.uptoBulkAll ((List.range len).map D) := bulk_mem (List.mem_map.2 ⟨i, List.mem_range.2 hi, rfl⟩)
      have f1 : D i = .lit (.string s.data.toList) := (Prod.mk.injEq .. ▸ f0).1
      rw [f1] at hmem
      simp only [Rows.uptoBulk] at hmem
      have := bytes_size s
      exact ⟨s, h1, by unfold maxLen; omega⟩)
    refine ⟨(List.range len).map f, ⟨by simp, Or.inr ⟨B, O, rfl, fun k hk => ?_⟩⟩, by omega⟩
    have hk' : k < len := by simpa using hk
    have e : ((List.range len).map f)[k] = f k := by simp
    rw [e]
    exact hfx k hk'

end Go.Proofs.Ytmbcjdlpdibalaa
