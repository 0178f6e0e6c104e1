/-
  A list of operations that came in, opened.
-/
import Derived.Test.YtbdbobikiikbgaaDoorRows
import Derived.Test.YtbdbobikiikbgaaDoorFew
import Derived.Deep.Slices
import Derived.ProofKit
import Derived.OpenShut
namespace Go.Proofs.YtbdbobikiikbgaaDoor
open Go.ChangeShapes Go.WideShapes Go.ChangeAt Go.RowKit

theorem bulk_one {H : Type} (d : DataW H) : 1 ≤ Rows.uptoBulk d := by
  cases d with
  | lit l => cases l <;> simp [Rows.uptoBulk]
  | _ => simp [Rows.uptoBulk]

theorem bulk_len {H : Type} (l : List (DataW H)) : l.length ≤ Rows.uptoBulkAll l := by
  induction l with
  | nil => simp [Rows.uptoBulkAll]
  | cons x r ih => have := bulk_one x; simp only [Rows.uptoBulkAll, List.length_cons]; omega

theorem bulk_sum {H : Type} (D : Nat → DataW H) (g : Nat → Nat) : ∀ L : List Nat, (∀ i ∈ L, g i ≤ Rows.uptoBulk (D i)) → (L.map g).sum ≤ Rows.uptoBulkAll (L.map D)
  | [], _ => by simp
  | i :: L, h => by
    have h1 := h i (by simp)
    have h2 := bulk_sum D g L (fun j hj => h j (by simp [hj]))
    simp only [List.map_cons, List.sum_cons, Rows.uptoBulkAll]; omega

theorem bulk_mem {H : Type} {d : DataW H} {l : List (DataW H)} (h : d ∈ l) : Rows.uptoBulk d ≤ Rows.uptoBulkAll l := by
  induction l with
  | nil => cases h
  | cons x r ih =>
    simp only [Rows.uptoBulkAll]
    cases List.mem_cons.1 h with
    | inl e => subst e; omega
    | inr e => have := ih e; omega

set_option maxRecDepth 100000 in
theorem bulk_bound {H : Type} {l : List (DataW H)} (hk : Rows.uptoSmall H l = true) : Rows.uptoBulkAll l ≤ 1048576 := of_decide_eq_true hk

theorem bulk_slice {H : Type} {elems spare : List (DataW H)} {n : Nat} (h : Rows.uptoBulk (.slice elems spare) ≤ n) : Rows.uptoBulkAll elems ≤ n := by
  simp only [Rows.uptoBulk] at h
  omega

theorem int_le {n : Int} (h : (Lit.int .i64 n).wf = true) : n ≤ 9223372036854775807 := by
  have : -9223372036854775808 ≤ n ∧ n ≤ 9223372036854775807 := by simpa [Lit.wf, IntKind.min, IntKind.max, IntKind.signed, IntKind.bits] using h
  exact this.2

theorem bytes_size (s : ByteArray) : s.data.toList.length = s.size := by
  show s.data.toList.length = s.data.size
  exact Array.length_toList

theorem cell_spot {W : World} {a : Addr} {v : Value} (h : W.cell? a = some v) : a.spot = none := by
  unfold World.cell? at h
  split at h
  · split at h
    · cases h
    · rename_i hs; simpa using hs
  · cases h

theorem open_bytes1 {H : Type} {enc : TypeId × Value → H} {W : World} {fuel : Nat} {cs : List Value} {y : DataW H × List MemPlace} (h : DataW.trod enc Tryd.prog W 0 (fun _ => true) true fuel 23 cs = some y) :
    ∃ (a : Option Addr) (cap : Nat) (l : List UInt8), cs = [.slice a l.length cap] ∧ Bytes W a l.length l ∧ (a = none → cap = 0) ∧ l.length ≤ Rows.uptoBulk y.1 := by
  rcases open_ints Tryd.underlying23 Tryd.underlying5 (by kernel_rfl) h with ⟨hcs, _⟩ | ⟨x, len, cap, zs, hcs, _, hl, hm, hz, hy, hcell, hwz⟩
  · exact ⟨none, 0, [], hcs, ⟨rfl, fun _ => rfl, fun ad ha => by cases ha⟩, fun _ => rfl, by simp⟩
  · have hzl : zs.length = cap := by simpa using hz
    have hlen : ((zs.take len).map fun z => z.toNat.toUInt8).length = len := by simp; omega
    refine ⟨some x, cap, (zs.take len).map fun z => z.toNat.toUInt8, by rw [hlen]; exact hcs, ⟨rfl, (by simp), fun ad ha i hi => ?_⟩, (by simp), ?_⟩
    · rw [hlen] at hi
      obtain rfl : x = ad := by simpa using ha
      have hi2 : i < zs.length := by omega
      rw [hcell i hi2]
      have hw := hwz zs[i] (List.getElem_mem hi2)
      have hb : 0 ≤ zs[i] ∧ zs[i] ≤ 255 := by simpa [Lit.wf, IntKind.min, IntKind.max, IntKind.signed, IntKind.bits] using hw
      have e1 : zs.getD i 0 = zs[i] := by simp [List.getD, hi2]
      have e2 : ((zs.take len).map fun z => z.toNat.toUInt8).getD i 0 = zs[i].toNat.toUInt8 := by simp [List.getD, hi2, hi]
      rw [e1, e2]
      have e3 : (zs[i].toNat.toUInt8.toNat : Int) = zs[i] := by simp; omega
      rw [e3]
    · rw [hlen, hy]
      simp only [Rows.uptoBulk]
      have := bulk_len (H := H) (lits .u8 (zs.take len))
      have hll : (lits (H := H) .u8 (zs.take len)).length = len := by simp [lits]; omega
      omega

set_option maxRecDepth 100000 in
theorem open_op {H : Type} {enc : TypeId × Value → H} {W : World} {fuel : Nat} {cs : List Value} {y : DataW H × List MemPlace} (h : DataW.trod enc Tryd.prog W 0 (fun _ => true) true fuel 50 cs = some y) :
    ∃ o : AOp, cs = [.int .i64 o.kind, .int .i64 o.n, .int .i64 o.m, .string o.name, .string o.tgt, .slice o.ba o.b.length o.bc] ∧ Bytes W o.ba o.b.length o.b ∧ (o.ba = none → o.bc = 0) ∧ o.name.size + o.tgt.size + o.b.length ≤ Rows.uptoBulk y.1 ∧ o.n ≤ 9223372036854775807 := by
  obtain ⟨xs, k, _, hxy, hcl, hxl, hf⟩ := DataW.trod_struct Tryd.underlying50 h
  have c50 : Tryd.prog.cellsOf 50 = 6 := by kernel_rfl
  have c3 : Tryd.prog.cellsOf 3 = 1 := by kernel_rfl
  have c9 : Tryd.prog.cellsOf 9 = 1 := by kernel_rfl
  have c23 : Tryd.prog.cellsOf 23 = 1 := by kernel_rfl
  rw [c50] at hcl
  have hxl6 : xs.length = 6 := hxl
  match xs, hxl6, cs, hcl with
  | [y0, y1, y2, y3, y4, y5], _, [v0, v1, v2, v3, v4, v5], _ =>
    have g0 := hf 0 _ rfl
    have g1 := hf 1 _ rfl
    have g2 := hf 2 _ rfl
    have g3 := hf 3 _ rfl
    have g4 := hf 4 _ rfl
    have g5 := hf 5 _ rfl
    simp [c3, c9, c23] at g0 g1 g2 g3 g4 g5
    obtain ⟨n0, e0, _, _⟩ := DataW.trod_int Tryd.underlying3 g0
    obtain ⟨n1, e1, _, wf1⟩ := DataW.trod_int Tryd.underlying3 g1
    obtain ⟨n2, e2, _, _⟩ := DataW.trod_int Tryd.underlying3 g2
    obtain ⟨s3, e3, f3, _⟩ := DataW.trod_string Tryd.underlying9 g3
    obtain ⟨s4, e4, f4, _⟩ := DataW.trod_string Tryd.underlying9 g4
    obtain ⟨a, cap, l, e5, hb, hn, hl⟩ := open_bytes1 g5
    simp at e0 e1 e2 e3 e4 e5
    subst e0 e1 e2 e3 e4 e5
    have hn1 : n1 ≤ 9223372036854775807 := int_le wf1
    refine ⟨⟨n0, n1, n2, s3, s4, a, cap, l⟩, rfl, hb, hn, ?_, hn1⟩
    rw [hxy]
    simp only [List.map_cons, List.map_nil, Rows.uptoBulk, Rows.uptoBulkAll, f3, f4]
    have := bytes_size s3
    have := bytes_size s4
    show s3.size + s4.size + l.length ≤ _
    omega

instance : Inhabited AOp := ⟨⟨0, 0, 0, ⟨#[]⟩, ⟨#[]⟩, none, 0, []⟩⟩

theorem open_ops {H : Type} {enc : TypeId × Value → H} {W : World} {a : Option Addr} {len cap : Nat} {d : DataW H} {p : List MemPlace} (h : DataW.Trod enc Tryd.prog W 0 (fun _ => true) true 22 (.slice a len cap) d p) (hb : Rows.uptoBulk d ≤ 1048576) :
    ∃ ops : List AOp, len = ops.length ∧ OpsAt W a ops ∧ (ops.map fun o => o.b.length).sum ≤ 1048576 ∧ len ≤ cap ∧ len ≤ 9223372036854775807 := by
  obtain ⟨fuel, hf⟩ := h
  rcases Deep.open_slice Tryd.underlying22 hf with ⟨hcs, _⟩ | ⟨x, len', cap', m, n, D, Pl, hcs, _, hl, hm, hmm, hx, hel⟩
  · simp [Value.cells] at hcs
    obtain ⟨rfl, rfl, rfl⟩ := hcs
    exact ⟨[], rfl, fun i o ho => by simp at ho, by simp, Nat.le_refl _, by omega⟩
  · simp [Value.cells] at hcs
    obtain ⟨rfl, rfl, rfl⟩ := hcs
    have hmm' : m = cap := by simpa using hmm
    subst hmm'
    have c50 : Tryd.prog.cellsOf 50 = 6 := by kernel_rfl
    rw [c50] at hel
    by_cases h0 : len = 0
    · subst h0
      exact ⟨[], rfl, fun i o ho => by simp at ho, by simp, Nat.zero_le _, by omega⟩
    obtain ⟨cs0, z1, z2⟩ := hel 0 (by omega)
    obtain ⟨o0, rfl, _⟩ := open_op z2
    have hspot : x.spot = none := cell_spot (a := x) (v := .int .i64 o0.kind) (by have := (World.cells?_some z1).2.2 0 (by omega); simpa [Addr.add] using this)
    obtain ⟨B, O, sp⟩ := x
    have hsp : sp = none := hspot
    subst hsp
    simp only [Prod.mk.injEq] at hx
    rw [hx.1] at hb
    have hb2 : Rows.uptoBulkAll ((List.range len).map D) ≤ 1048576 := bulk_slice hb
    obtain ⟨ops, hops⟩ := Deep.choose_lt (α := AOp) (n := len) (p := fun i o => OpAt W B (O + i * 6) o ∧ o.b.length ≤ Rows.uptoBulk (D i)) (fun i hi => by
      obtain ⟨cs, h1, h2⟩ := hel i (by omega)
      obtain ⟨o, rfl, ho1, ho2, ho3, ho5⟩ := open_op h2
      obtain ⟨_, _, hcell⟩ := World.cells?_some h1
      have ho4 : o.name.size + o.tgt.size + o.b.length ≤ Rows.uptoBulk (D i) := ho3
      have hmem : Rows.uptoBulk (D i) ≤ Rows.uptoBulkAll ((List.range len).map D) := bulk_mem (List.mem_map.2 ⟨i, List.mem_range.2 hi, rfl⟩)
      have cc : ∀ j v, j < 6 → [Value.int .i64 o.kind, .int .i64 o.n, .int .i64 o.m, .string o.name, .string o.tgt, .slice o.ba o.b.length o.bc][j]? = some v → W.cell? ⟨B, O + i * 6 + j, none⟩ = some v := by
        intro j v hj hv
        have := hcell j hj
        rw [hv, WideShapes.add_plain, WideShapes.add_plain] at this
        exact this
      refine ⟨o, ⟨cc 0 _ (by omega) rfl, cc 1 _ (by omega) rfl, cc 2 _ (by omega) rfl, cc 3 _ (by omega) rfl, cc 4 _ (by omega) rfl, cc 5 _ (by omega) rfl, ho1, ho2, by omega, by omega, by omega, ho5⟩, by omega⟩)
    refine ⟨(List.range len).map ops, by simp, fun i o ho => ?_, ?_, hl, by unfold maxLen at hm; omega⟩
    · have hi : i < len := by have := (List.getElem?_eq_some_iff.1 ho).1; simpa using this
      obtain rfl : ops i = o := by simpa [hi] using ho
      exact ⟨B, O, rfl, (hops i hi).1⟩
    · rw [List.map_map]
      have := bulk_sum D (fun i => (ops i).b.length) (List.range len) (fun i hi => (hops i (List.mem_range.1 hi)).2)
      show ((List.range len).map fun i => (ops i).b.length).sum ≤ _
      omega

end Go.Proofs.YtbdbobikiikbgaaDoor
