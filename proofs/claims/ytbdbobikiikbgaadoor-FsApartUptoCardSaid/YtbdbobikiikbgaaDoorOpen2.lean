/-
  What came in, opened: operations with their bytes against the bulk, bytes, a text.
-/
import Derived.Test.YtbdbobikiikbgaaDoorOpen
namespace Go.Proofs.YtbdbobikiikbgaaDoor
open Go.ChangeShapes Go.WideShapes Go.ChangeAt Go.RowKit

theorem open_bytesN {H : Type} {enc : TypeId × Value → H} {W : World} {a : Option Addr} {len cap : Nat} {d : DataW H} {p : List MemPlace} (h : DataW.Trod enc Tryd.prog W 0 (fun _ => true) true 23 (.slice a len cap) d p) :
    ∃ l : List UInt8, len = l.length ∧ Bytes W a l.length l ∧ l.length ≤ cap ∧ l.length ≤ Rows.uptoBulk d := by
  obtain ⟨fuel, hf⟩ := h
  have hle : len ≤ cap := by
    rcases open_ints Tryd.underlying23 Tryd.underlying5 (by kernel_rfl) hf with ⟨hcs, _⟩ | ⟨x, len', cap', zs, hcs, _, hl, _⟩
    · simp [Value.cells] at hcs
      omega
    · simp [Value.cells] at hcs
      omega
  obtain ⟨a', cap', l, hcs, hb, _, hl⟩ := open_bytes1 hf
  simp [Value.cells] at hcs
  obtain ⟨rfl, rfl, rfl⟩ := hcs
  exact ⟨l, rfl, hb, hle, hl⟩

theorem open_opsN {H : Type} {enc : TypeId × Value → H} {W : World} {a : Option Addr} {len cap : Nat} {d : DataW H} {p : List MemPlace} (h : DataW.Trod enc Tryd.prog W 0 (fun _ => true) true 22 (.slice a len cap) d p) (hb : Rows.uptoBulk d ≤ 1048576) :
    ∃ ops : List AOp, len = ops.length ∧ OpsAt W a ops ∧ (ops.map fun o => o.b.length).sum ≤ Rows.uptoBulk d ∧ len ≤ cap ∧ len ≤ 9223372036854775807 := by
  obtain ⟨fuel, hf⟩ := h
  rcases Deep.open_slice Tryd.underlying22 hf with ⟨hcs, _⟩ | ⟨x, len', cap', m, n, D, Pl, hcs, _, hl, hm, hmm, hx, hel⟩
  · simp [Value.cells] at hcs
    obtain ⟨rfl, rfl, rfl⟩ := hcs
    exact ⟨[], rfl, fun i o ho => by simp at ho, by simp, Nat.le_refl _, by omega⟩
  · simp [Value.cells] at hcs
    obtain ⟨rfl, rfl, rfl⟩ := hcs
    have hmm' : m = cap := by simpa using hmm
    subst hmm'
    have c50 : Tryd.prog.cellsOf 50 = 6 := by kernel_rfl
    rw [c50] at hel
    by_cases h0 : len = 0
    · subst h0
      exact ⟨[], rfl, fun i o ho => by simp at ho, by simp, Nat.zero_le _, by omega⟩
    obtain ⟨cs0, z1, z2⟩ := hel 0 (by omega)
    obtain ⟨o0, rfl, _⟩ := open_op z2
    have hspot : x.spot = none := cell_spot (a := x) (v := .int .i64 o0.kind) (by have := (World.cells?_some z1).2.2 0 (by omega); simpa [Addr.add] using this)
    obtain ⟨B, O, sp⟩ := x
    have hsp : sp = none := hspot
    subst hsp
    simp only [Prod.mk.injEq] at hx
    rw [hx.1] at hb ⊢
    have hb2 : Rows.uptoBulkAll ((List.range len).map D) ≤ 1048576 := bulk_slice hb
    obtain ⟨ops, hops⟩ := Deep.choose_lt (α := AOp) (n := len) (p := fun i o => OpAt W B (O + i * 6) o ∧ o.b.length ≤ Rows.uptoBulk (D i)) (fun i hi => by
      obtain ⟨cs, h1, h2⟩ := hel i (by omega)
      obtain ⟨o, rfl, ho1, ho2, ho3, ho5⟩ := open_op h2
      obtain ⟨_, _, hcell⟩ := World.cells?_some h1
      have ho4 : o.name.size + o.tgt.size + o.b.length ≤ Rows.uptoBulk (D i) := ho3
      have hmem : Rows.uptoBulk (D i) ≤ Rows.uptoBulkAll ((List.range len).map D) := bulk_mem (List.mem_map.2 ⟨i, List.mem_range.2 hi, rfl⟩)
      have cc : ∀ j v, j < 6 → [Value.int .i64 o.kind, .int .i64 o.n, .int .i64 o.m, .string o.name, .string o.tgt, .slice o.ba o.b.length o.bc][j]? = some v → W.cell? ⟨B, O + i * 6 + j, none⟩ = some v := by
        intro j v hj hv
        have := hcell j hj
        rw [hv, WideShapes.add_plain, WideShapes.add_plain] at this
        exact this
      refine ⟨o, ⟨cc 0 _ (by omega) rfl, cc 1 _ (by omega) rfl, cc 2 _ (by omega) rfl, cc 3 _ (by omega) rfl, cc 4 _ (by omega) rfl, cc 5 _ (by omega) rfl, ho1, ho2, by omega, by omega, by omega, ho5⟩, by omega⟩)
    refine ⟨(List.range len).map ops, by simp, fun i o ho => ?_, ?_, hl, by unfold maxLen at hm; omega⟩
    · have hi : i < len := by have := (List.getElem?_eq_some_iff.1 ho).1; simpa using this
      obtain rfl : ops i = o := by simpa [hi] using ho
      exact ⟨B, O, rfl, (hops i hi).1⟩
    · rw [List.map_map]
      have hb3 := bulk_slice (Nat.le_refl (Rows.uptoBulk (.slice ((List.range len).map D) ((List.range (m - len)).map fun j => D (len + j)))))
      have := bulk_sum D (fun i => (ops i).b.length) (List.range len) (fun i hi => (hops i (List.mem_range.1 hi)).2)
      show ((List.range len).map fun i => (ops i).b.length).sum ≤ _
      omega

end Go.Proofs.YtbdbobikiikbgaaDoor
