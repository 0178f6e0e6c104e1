/-
  Lists of bytes that came in, against their bulk.
-/
import Derived.Test.YtkpmbbeidcpclaaGreatDoorChk
import Derived.Deep.Slices
import Derived.ProofKit
import Derived.OpenShut
import Derived.Test.YtkpmbbeidcpclaaGreatDoorRows
namespace Go.Proofs.YtkpmbbeidcpclaaGreatDoor
open Go.ChangeShapes Go.WideShapes Go.ChangeAt Go.RowKit

theorem cell_spot {W : World} {a : Addr} {v : Value} (h : W.cell? a = some v) : a.spot = none := by
  unfold World.cell? at h
  split at h
  · split at h
    · cases h
    · rename_i hs; simpa using hs
  · cases h

theorem open_bytes1 {H : Type} {enc : TypeId × Value → H} {W : World} {fuel : Nat} {cs : List Value} {y : DataW H × List MemPlace} (h : DataW.trod enc Tryz.prog W 0 (fun _ => true) true fuel 32 cs = some y) :
    ∃ (a : Option Addr) (cap : Nat) (l : Bs), cs = [.slice a l.length cap] ∧ BAt W a l ∧ l.length ≤ cap ∧ l.length ≤ maxLen := by
  rcases open_ints Tryz.underlying32 Tryz.underlying5 (by kernel_rfl) h with ⟨hcs, _⟩ | ⟨x, len, cap, zs, hcs, _, hl, hm, hz, hy, hcell, hwz⟩
  · exact ⟨none, 0, [], hcs, ⟨Or.inl rfl⟩, Nat.le_refl _, by simp⟩
  · have hzl : zs.length = cap := by simpa using hz
    have hlen : ((zs.take len).map fun z => z.toNat.toUInt8).length = len := by simp; omega
    refine ⟨some x, cap, (zs.take len).map fun z => z.toNat.toUInt8, by rw [hlen]; exact hcs, ?_, by rw [hlen]; exact hl, by rw [hlen]; omega⟩
    by_cases h0 : len = 0
    · subst h0; exact ⟨Or.inl (by simp)⟩
    · have c0 := hcell 0 (by omega)
      have hsp : x.spot = none := by have := cell_spot c0; simpa [Addr.add] using this
      obtain ⟨B, O, sp⟩ := x
      have hsp' : sp = none := hsp
      subst hsp'
      refine ⟨Or.inr ⟨B, O, rfl, fun i hi => ?_⟩⟩
      rw [hlen] at hi
      have hi2 : i < zs.length := by omega
      have hc := hcell i hi2
      rw [add_plain] at hc
      rw [hc]
      have hw := hwz zs[i] (List.getElem_mem hi2)
      have hb : 0 ≤ zs[i] ∧ zs[i] ≤ 255 := by simpa [Lit.wf, IntKind.min, IntKind.max, IntKind.signed, IntKind.bits] using hw
      have e1 : zs.getD i 0 = zs[i] := by simp [List.getD, hi2]
      have e2 : ((zs.take len).map fun z => z.toNat.toUInt8)[i]'(by rw [hlen]; exact hi) = zs[i].toNat.toUInt8 := by simp
      rw [e1, e2]
      have e3 : (zs[i].toNat.toUInt8.toNat : Int) = zs[i] := by simp; omega
      rw [e3]

theorem open_bytes {H : Type} {enc : TypeId × Value → H} {W : World} {a : Option Addr} {len cap : Nat} {d : DataW H} {p : List MemPlace} (h : DataW.Trod enc Tryz.prog W 0 (fun _ => true) true 32 (.slice a len cap) d p) :
    ∃ l : Bs, l.length = len ∧ len ≤ cap ∧ len ≤ maxLen ∧ BAt W a l := by
  obtain ⟨fuel, hf⟩ := h
  obtain ⟨a', cap', l, hcs, hb, h1, h2⟩ := open_bytes1 hf
  simp [Value.cells] at hcs
  obtain ⟨rfl, rfl, rfl⟩ := hcs
  exact ⟨l, rfl, h1, h2, hb⟩

set_option maxRecDepth 100000 in
theorem open_lists {H : Type} {enc : TypeId × Value → H} {W : World} {a : Option Addr} {len cap : Nat} {d : DataW H} {p : List MemPlace} (h : DataW.Trod enc Tryz.prog W 0 (fun _ => true) true 22 (.slice a len cap) d p) :
    ∃ ps : List Bs, ps.length = len ∧ len ≤ cap ∧ len ≤ maxLen ∧ (∀ x ∈ ps, x.length ≤ maxLen) ∧ PAt W a ps := by
  obtain ⟨fuel, hf⟩ := h
  rcases Deep.open_slice1 Tryz.underlying22 (by kernel_rfl) hf with ⟨hcs, _⟩ | ⟨x, len', cap', m, n, V, D, Pl, hcs, _, hl, hm, hmm, hx, hel⟩
  · simp [Value.cells] at hcs
    obtain ⟨rfl, rfl, rfl⟩ := hcs
    exact ⟨[], rfl, by omega, by omega, by simp, ⟨Or.inl rfl⟩⟩
  · simp [Value.cells] at hcs
    obtain ⟨rfl, rfl, rfl⟩ := hcs
    have hmm' : m = cap := by simpa using hmm
    subst hmm'
    by_cases h0 : len = 0
    · subst h0
      exact ⟨[], rfl, by omega, by omega, by simp, ⟨Or.inl rfl⟩⟩
    obtain ⟨z1, z2⟩ := hel 0 (by omega)
    have hspot : x.spot = none := by
      have := cell_spot z1
      simpa [Addr.add] using this
    obtain ⟨B, O, sp⟩ := x
    have hsp : sp = none := hspot
    subst hsp
    obtain ⟨f, hfx⟩ := Deep.choose_lt (α := Bs) (n := len) (p := fun i s => s.length ≤ maxLen ∧ ∃ y c, W.cell? ⟨B, O + i, none⟩ = some (.slice y s.length c) ∧ BAt W y s) (fun i hi => by
      obtain ⟨h1, h2⟩ := hel i (by omega)
      obtain ⟨y, c, l, e, hb, g1, g2⟩ := open_bytes1 h2
      simp at e
      rw [e, WideShapes.add_plain] at h1
      exact ⟨l, g2, y, c, h1, hb⟩)
    refine ⟨(List.range len).map f, by simp, hl, by omega, ?_, ⟨Or.inr ⟨B, O, rfl, fun k hk => ?_⟩⟩⟩
    · intro x hx
      obtain ⟨i, hi, rfl⟩ := List.mem_map.1 hx
      exact (hfx i (List.mem_range.1 hi)).1
    · have hk' : k < len := by simpa using hk
      have e : ((List.range len).map f)[k] = f k := by simp
      rw [e]
      exact (hfx k hk').2

end Go.Proofs.YtkpmbbeidcpclaaGreatDoor

namespace Go.Proofs.YtkpmbbeidcpclaaGreatDoor
open Go.ChangeShapes Go.WideShapes Go.ChangeAt Go.RowKit

theorem bulk_one {H : Type} (d : DataW H) : 1 ≤ Rows.uptoBulk d := by
  cases d with
  | lit l => cases l <;> simp [Rows.uptoBulk]
  | _ => simp [Rows.uptoBulk]
theorem bulk_len {H : Type} (l : List (DataW H)) : l.length ≤ Rows.uptoBulkAll l := by
  induction l with
  | nil => simp [Rows.uptoBulkAll]
  | cons x r ih => have := bulk_one x; simp only [Rows.uptoBulkAll, List.length_cons]; omega
theorem bulk_mem {H : Type} {d : DataW H} {l : List (DataW H)} (h : d ∈ l) : Rows.uptoBulk d ≤ Rows.uptoBulkAll l := by
  induction l with
  | nil => cases h
  | cons x r ih =>
    simp only [Rows.uptoBulkAll]
    cases List.mem_cons.1 h with
    | inl e => subst e; omega
    | inr e => have := ih e; omega
set_option maxRecDepth 100000 in
theorem bulk_bound {H : Type} {l : List (DataW H)} (hk : Rows.uptoSmall H l = true) : Rows.uptoBulkAll l ≤ 1048576 := of_decide_eq_true hk
theorem bulk_slice {H : Type} {elems spare : List (DataW H)} {n : Nat} (h : Rows.uptoBulk (.slice elems spare) ≤ n) : Rows.uptoBulkAll elems ≤ n := by
  simp only [Rows.uptoBulk] at h
  omega

theorem open_bytes1B {H : Type} {enc : TypeId × Value → H} {W : World} {fuel : Nat} {cs : List Value} {y : DataW H × List MemPlace} (h : DataW.trod enc Tryz.prog W 0 (fun _ => true) true fuel 32 cs = some y) :
    ∃ (a : Option Addr) (cap : Nat) (l : Bs), cs = [.slice a l.length cap] ∧ l.length ≤ Rows.uptoBulk y.1 := by
  rcases open_ints Tryz.underlying32 Tryz.underlying5 (by kernel_rfl) h with ⟨hcs, _⟩ | ⟨x, len, cap, zs, hcs, _, hl, hm, hz, hy, hcell, hwz⟩
  · exact ⟨none, 0, [], hcs, by simp⟩
  · have hzl : zs.length = cap := by simpa using hz
    have hlen : ((zs.take len).map fun z => z.toNat.toUInt8).length = len := by simp; omega
    refine ⟨some x, cap, (zs.take len).map fun z => z.toNat.toUInt8, by rw [hlen]; exact hcs, ?_⟩
    rw [hlen, hy]
    simp only [Rows.uptoBulk]
    have := bulk_len (H := H) (lits .u8 (zs.take len))
    have hll : (lits (H := H) .u8 (zs.take len)).length = len := by simp [lits]; omega
    omega

set_option maxRecDepth 100000 in
theorem open_listsB {H : Type} {enc : TypeId × Value → H} {W : World} {a : Option Addr} {len cap : Nat} {d : DataW H} {p : List MemPlace} (h : DataW.Trod enc Tryz.prog W 0 (fun _ => true) true 22 (.slice a len cap) d p) (hb : Rows.uptoBulk d ≤ 1048576) :
    ∃ ps : List Bs, ps.length = len ∧ len ≤ cap ∧ len ≤ 1048576 ∧ (∀ x ∈ ps, x.length ≤ 1048576) ∧ PAt W a ps := by
  obtain ⟨fuel, hf⟩ := h
  rcases Deep.open_slice1 Tryz.underlying22 (by kernel_rfl) hf with ⟨hcs, _⟩ | ⟨x, len', cap', m, n, V, D, Pl, hcs, _, hl, hm, hmm, hx, hel⟩
  · simp [Value.cells] at hcs
    obtain ⟨rfl, rfl, rfl⟩ := hcs
    exact ⟨[], rfl, by omega, by omega, by simp, ⟨Or.inl rfl⟩⟩
  · simp [Value.cells] at hcs
    obtain ⟨rfl, rfl, rfl⟩ := hcs
    have hmm' : m = cap := by simpa using hmm
    subst hmm'
    simp only [Prod.mk.injEq] at hx
    rw [hx.1] at hb
    have hb2 : Rows.uptoBulkAll ((List.range len).map D) ≤ 1048576 := bulk_slice hb
    have hbl := bulk_len ((List.range len).map D)
    simp at hbl
    by_cases h0 : len = 0
    · subst h0
      exact ⟨[], rfl, by omega, by omega, by simp, ⟨Or.inl rfl⟩⟩
    obtain ⟨z1, z2⟩ := hel 0 (by omega)
    have hspot : x.spot = none := by
      have := cell_spot z1
      simpa [Addr.add] using this
    obtain ⟨B, O, sp⟩ := x
    have hsp : sp = none := hspot
    subst hsp
    obtain ⟨f, hfx⟩ := Deep.choose_lt (α := Bs) (n := len) (p := fun i s => s.length ≤ 1048576 ∧ ∃ y c, W.cell? ⟨B, O + i, none⟩ = some (.slice y s.length c) ∧ BAt W y s) (fun i hi => by
      obtain ⟨h1, h2⟩ := hel i (by omega)
      obtain ⟨y, c, l, e, hbt, g1, g2⟩ := open_bytes1 h2
      obtain ⟨y', c', l', e', g3⟩ := open_bytes1B h2
      have hll : l.length = l'.length := by
        rw [e] at e'
        have := (List.cons.inj e').1
        exact (Value.slice.inj this).2.1
      have hmem : Rows.uptoBulk (D i) ≤ Rows.uptoBulkAll ((List.range len).map D) := bulk_mem (List.mem_map.2 ⟨i, List.mem_range.2 hi, rfl⟩)
      simp at e
      rw [e, WideShapes.add_plain] at h1
      exact ⟨l, by have g4 : l'.length ≤ Rows.uptoBulk (D i) := g3; omega, y, c, h1, hbt⟩)
    refine ⟨(List.range len).map f, by simp, hl, by omega, ?_, ⟨Or.inr ⟨B, O, rfl, fun k hk => ?_⟩⟩⟩
    · intro x hx
      obtain ⟨i, hi, rfl⟩ := List.mem_map.1 hx
      exact (hfx i (List.mem_range.1 hi)).1
    · have hk' : k < len := by simpa using hk
      have e : ((List.range len).map f)[k] = f k := by simp
      rw [e]
      exact (hfx k hk').2

end Go.Proofs.YtkpmbbeidcpclaaGreatDoor
