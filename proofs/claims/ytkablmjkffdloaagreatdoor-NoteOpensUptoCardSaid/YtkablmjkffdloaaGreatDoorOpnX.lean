/-
  What keys are made of, as it comes in: opened, against the bulk.
-/
import Derived.Test.YtkablmjkffdloaaGreatDoorCards
import Derived.Test.YtkablmjkffdloaaGreatDoorHedZ
import Derived.ProofKit
import Derived.OpenShut
import Derived.LaidMore
import Derived.Lay
import Derived.Stop.Joined
import Derived.Deep.DeepHandedRow
import Derived.ChangeOld
import Derived.HandedShaped
import Derived.LaidSub
import Derived.MakeChecks
import Derived.ChangeMaps5
import Derived.Stop.LaidErr
import Derived.Test.YtkablmjkffdloaaGreatDoorKysQ
import Derived.Deep.Slices
namespace Go.Proofs.YtkablmjkffdloaaGreatDoor
open Go.ChangeShapes Go.WideShapes Go.ChangeAt Go.ChangeMaps Go.RowKit

theorem laidOutN : laidOutB Tryz.prog = true := by kernel_rfl
theorem ownN : ownKnob Tryz.prog.godebug = none := by kernel_rfl
theorem gTabN : Tryz.prog.globalNamed "internal/strconv.uint64pow10" = some 3 := by kernel_rfl
theorem gTypeN : (Tryz.prog.globals[3]?).map (·.type) = some 275 := by kernel_rfl
theorem cellsAN : Tryz.prog.cellsOf 275 = 20 := by kernel_rfl
theorem cellsEN : Tryz.prog.cellsOf 127 = 1 := by kernel_rfl
theorem gErrS : Tryz.prog.globalNamed "strconv.ErrSyntax" = some 1 := by kernel_rfl
theorem gErrR : Tryz.prog.globalNamed "strconv.ErrRange" = some 2 := by kernel_rfl
theorem gErrST : (Tryz.prog.globals[1]?).map (·.type) = some 150 := by kernel_rfl
theorem gErrRT : (Tryz.prog.globals[2]?).map (·.type) = some 150 := by kernel_rfl
theorem cells281 : Tryz.prog.cellsOf 281 = 1 := by kernel_rfl
theorem cells9N : Tryz.prog.cellsOf 9 = 1 := by kernel_rfl
theorem starN : "*" ++ "errors.errorString" = "*errors.errorString" := by decide
theorem row279 (u : TypeId) (h : Tryz.prog.typeName? 3 u = some "*errors.errorString") : u = 279 :=
  typeName_ptr_named (nm := "errors.errorString") (by rw [starN]; kernel_rfl) (by kernel_rfl) (by decide) u (by rw [starN]; exact h)
theorem errS_of {W : World} (h : laidMet Tryz.prog [("strconv.ErrSyntax", Rows.laid_strconv_ErrSyntax)] W) : ∃ t p, W.var? Tryz.prog "strconv.ErrSyntax" = some #[.iface t p] := by
  obtain ⟨a, s, hv, -⟩ := laid_sentinel h gErrS gErrST Tryz.underlying150 row279 Tryz.underlying279 Tryz.underlying281 rfl rfl Tryz.underlying9 cells281 cells9N
  exact ⟨_, _, hv⟩
theorem errR_of {W : World} (h : laidMet Tryz.prog [("strconv.ErrRange", Rows.laid_strconv_ErrRange)] W) : ∃ t p, W.var? Tryz.prog "strconv.ErrRange" = some #[.iface t p] := by
  obtain ⟨a, s, hv, -⟩ := laid_sentinel h gErrR gErrRT Tryz.underlying150 row279 Tryz.underlying279 Tryz.underlying281 rfl rfl Tryz.underlying9 cells281 cells9N
  exact ⟨_, _, hv⟩

theorem cell_spot {W : World} {a : Addr} {v : Value} (h : W.cell? a = some v) : a.spot = none := by
  unfold World.cell? at h
  split at h
  · split at h
    · cases h
    · rename_i hs; simpa using hs
  · cases h

theorem open_b1 {H : Type} {enc : TypeId × Value → H} {W : World} {fuel : Nat} {cs : List Value} {y : DataW H × List MemPlace} (h : DataW.trod enc Tryz.prog W 0 (fun _ => true) true fuel 23 cs = some y) :
    ∃ (a : Option Addr) (cap : Nat) (l : Bs), cs = [.slice a l.length cap] ∧ BAt W a l ∧ l.length ≤ cap ∧ cap ≤ maxLen ∧ (a = none ∨ (∃ B O, a = some ⟨B, O, none⟩) ∨ ∃ x, a = some x ∧ l.length = 0 ∧ cap = 0) := by
  rcases open_ints Tryz.underlying23 Tryz.underlying5 (by kernel_rfl) h with ⟨hcs, _⟩ | ⟨x, len, cap, zs, hcs, _, hl, hm, hz, hy, hcell, hwz⟩
  · exact ⟨none, 0, [], hcs, ⟨Or.inl rfl⟩, Nat.le_refl _, by simp, Or.inl rfl⟩
  · have hzl : zs.length = cap := by simpa using hz
    have hlen : ((zs.take len).map fun z => z.toNat.toUInt8).length = len := by simp; omega
    refine ⟨some x, cap, (zs.take len).map fun z => z.toNat.toUInt8, by rw [hlen]; exact hcs, ?_, by rw [hlen]; exact hl, by omega, ?_⟩
    · by_cases h0 : len = 0
      · subst h0; exact ⟨Or.inl (by simp)⟩
      · have c0 := hcell 0 (by omega)
        have hsp : x.spot = none := by have := cell_spot c0; simpa [Addr.add] using this
        obtain ⟨B, O, sp⟩ := x
        have hsp' : sp = none := hsp
        subst hsp'
        refine ⟨Or.inr ⟨B, O, rfl, fun i hi => ?_⟩⟩
        rw [hlen] at hi
        have hi2 : i < zs.length := by omega
        have hc := hcell i hi2
        rw [add_plain] at hc
        rw [hc]
        have hw := hwz zs[i] (List.getElem_mem hi2)
        have hb : 0 ≤ zs[i] ∧ zs[i] ≤ 255 := by simpa [Lit.wf, IntKind.min, IntKind.max, IntKind.signed, IntKind.bits] using hw
        have e1 : zs.getD i 0 = zs[i] := by simp [List.getD, hi2]
        have e2 : ((zs.take len).map fun z => z.toNat.toUInt8)[i]'(by rw [hlen]; exact hi) = zs[i].toNat.toUInt8 := by simp
        rw [e1, e2]
        have e3 : (zs[i].toNat.toUInt8.toNat : Int) = zs[i] := by simp; omega
        rw [e3]
    · refine Or.inr ?_
      rw [hlen]
      by_cases h0 : cap = 0
      · exact Or.inr ⟨x, rfl, by omega, h0⟩
      · have c0 := hcell 0 (by omega)
        have hsp : x.spot = none := by have := cell_spot c0; simpa [Addr.add] using this
        obtain ⟨B, O, sp⟩ := x
        have hsp' : sp = none := hsp
        subst hsp'
        exact Or.inl ⟨B, O, rfl⟩

theorem open_b {H : Type} {enc : TypeId × Value → H} {W : World} {a : Option Addr} {len cap : Nat} {d : DataW H} {p : List MemPlace} (h : DataW.Trod enc Tryz.prog W 0 (fun _ => true) true 23 (.slice a len cap) d p) :
    ∃ l : Bs, l.length = len ∧ len ≤ cap ∧ cap ≤ maxLen ∧ BAt W a l ∧ (a = none ∨ (∃ B O, a = some ⟨B, O, none⟩) ∨ ∃ x, a = some x ∧ len = 0 ∧ cap = 0) := by
  obtain ⟨fuel, hf⟩ := h
  obtain ⟨a', cap', l, hcs, hb, h1, h2, h3⟩ := open_b1 hf
  simp [Value.cells] at hcs
  obtain ⟨rfl, rfl, rfl⟩ := hcs
  exact ⟨l, rfl, h1, h2, hb, h3⟩

/-- An input that fits, at a world that is laid, its shape given. -/
theorem witness_zip {H : Type} {enc : TypeId × Value → H} {C : Checked} {os : Os} {f : FuncId} {fn : Func} {s : OpenSpec} {conds : List PathCond} {apart : Bool} {laid : List (String × DataW Unit)} (modest : Bool) (w0 : World) (args : Array Value) (hos : w0.os = os)
    (hs : (w0.forCall (fun _ _ => 0) ⟨#[], args, []⟩).Shaped C.prog)
    (hok : Input.okWideB C.prog (w0.forCall (fun _ _ => 0) ⟨#[], args, []⟩) f ⟨#[], args, []⟩ = true)
    (hrow : s.preRow enc C.prog fn conds apart laid (w0.forCall (fun _ _ => 0) ⟨#[], args, []⟩).memory args) :
    ∃ (w : World) (tape : Tape) (i : Input), w.os = os ∧ (w.forCall tape i).Shaped C.prog ∧ i.vars = [] ∧ Input.okWide C.prog (w.forCall tape i) .any w.heap.size f i ∧
      s.preRow enc C.prog fn conds apart laid (w.forCall tape i).memory i.args ∧ ({ modest := modest } : Assume).holds C.prog (lone (Frame.enter C.prog f i.args .normal) [] (w.forCall tape i)) :=
  ⟨w0, fun _ _ => 0, ⟨#[], args, []⟩, hos, hs, (Input.okWide_of_okWideB (base := 0) hok).1, (Input.okWide_of_okWideB hok).2, hrow, by
    simp only [Assume.holds]
    exact ⟨by simp, by simp, fun _ => Modest.zero, by simp, by simp⟩⟩

end Go.Proofs.YtkablmjkffdloaaGreatDoor

namespace Go.Proofs.YtkablmjkffdloaaGreatDoor
open Go.ChangeShapes Go.WideShapes Go.ChangeAt Go.ChangeMaps Go.RowKit

theorem bulk_one {H : Type} (d : DataW H) : 1 ≤ Rows.uptoBulk d := by
  cases d with
  | lit l => cases l <;> simp [Rows.uptoBulk]
  | _ => simp [Rows.uptoBulk]
theorem bulk_len {H : Type} (l : List (DataW H)) : l.length ≤ Rows.uptoBulkAll l := by
  induction l with
  | nil => simp [Rows.uptoBulkAll]
  | cons x r ih => have := bulk_one x; simp only [Rows.uptoBulkAll, List.length_cons]; omega
theorem bulk_mem {H : Type} {d : DataW H} {l : List (DataW H)} (h : d ∈ l) : Rows.uptoBulk d ≤ Rows.uptoBulkAll l := by
  induction l with
  | nil => cases h
  | cons x r ih =>
    simp only [Rows.uptoBulkAll]
    cases List.mem_cons.1 h with
    | inl e => subst e; omega
    | inr e => have := ih e; omega
set_option maxRecDepth 100000 in
theorem bulk_bound {H : Type} {l : List (DataW H)} (hk : Rows.uptoSmall H l = true) : Rows.uptoBulkAll l ≤ 1048576 := of_decide_eq_true hk
theorem bulk_slice {H : Type} {elems spare : List (DataW H)} {n : Nat} (h : Rows.uptoBulk (.slice elems spare) ≤ n) : Rows.uptoBulkAll elems ≤ n := by
  simp only [Rows.uptoBulk] at h
  omega
set_option maxRecDepth 100000 in
theorem slice_ok {t e : TypeId} {W : World} {base : Nat} {a : Addr} {len cap : Nat} (ht : Tryz.prog.underlying t = some (.slice e)) (h : Value.okWide Tryz.prog W .any base t (.slice (some a) len cap)) : a.spot = none ∧ a.block < W.heap.size := by
  simp only [Value.okWide, ht, Cell.okWide, Cell.ok] at h
  obtain ⟨_, _, _, hs, row, cells, hsh, _⟩ := h
  refine ⟨hs, ?_⟩
  unfold World.shape? at hsh
  cases hh : W.heap[a.block]? with
  | none => rw [hh] at hsh; cases hsh
  | some o => exact (Array.getElem?_eq_some_iff.1 hh).1

theorem open_bytes1B {H : Type} {enc : TypeId × Value → H} {W : World} {fuel : Nat} {cs : List Value} {y : DataW H × List MemPlace} (h : DataW.trod enc Tryz.prog W 0 (fun _ => true) true fuel 23 cs = some y) :
    ∃ (a : Option Addr) (cap : Nat) (l : Bs), cs = [.slice a l.length cap] ∧ l.length ≤ Rows.uptoBulk y.1 := by
  rcases open_ints Tryz.underlying23 Tryz.underlying5 (by kernel_rfl) h with ⟨hcs, _⟩ | ⟨x, len, cap, zs, hcs, _, hl, hm, hz, hy, hcell, hwz⟩
  · exact ⟨none, 0, [], hcs, by simp⟩
  · have hzl : zs.length = cap := by simpa using hz
    have hlen : ((zs.take len).map fun z => z.toNat.toUInt8).length = len := by simp; omega
    refine ⟨some x, cap, (zs.take len).map fun z => z.toNat.toUInt8, by rw [hlen]; exact hcs, ?_⟩
    rw [hlen, hy]
    simp only [Rows.uptoBulk]
    have := bulk_len (H := H) (lits .u8 (zs.take len))
    have hll : (lits (H := H) .u8 (zs.take len)).length = len := by simp [lits]; omega
    omega
theorem open_bB {H : Type} {enc : TypeId × Value → H} {W : World} {fuel : Nat} {cs : List Value} {y : DataW H × List MemPlace} (h : DataW.trod enc Tryz.prog W 0 (fun _ => true) true fuel 23 cs = some y) :
    ∃ (a : Option Addr) (cap : Nat) (l : Bs), cs = [.slice a l.length cap] ∧ BAt W a l ∧ l.length ≤ Rows.uptoBulk y.1 := by
  obtain ⟨a, cap, l, hcs, hb, -, -, -⟩ := open_b1 h
  obtain ⟨a', cap', l', hcs', hle⟩ := open_bytes1B h
  rw [hcs] at hcs'
  simp at hcs'
  exact ⟨a, cap, l, hcs, hb, by omega⟩

set_option maxRecDepth 100000 in
theorem open_pair {H : Type} {enc : TypeId × Value → H} {W : World} {fuel : Nat} {cs : List Value} {y : DataW H × List MemPlace} (h : DataW.trod enc Tryz.prog W 0 (fun _ => true) true fuel 144 cs = some y) :
    ∃ p : Wk, cs = [.string (ba p.nm), .slice p.a p.sec.length p.c] ∧ BAt W p.a p.sec ∧ p.nm.length + p.sec.length ≤ Rows.uptoBulk y.1 := by
  obtain ⟨xs, k, _, hxy, hcl, hxl, hf⟩ := DataW.trod_struct Tryz.underlying144 h
  have c144 : Tryz.prog.cellsOf 144 = 2 := by kernel_rfl
  have c9 : Tryz.prog.cellsOf 9 = 1 := by kernel_rfl
  have c23 : Tryz.prog.cellsOf 23 = 1 := by kernel_rfl
  rw [c144] at hcl
  have hxl2 : xs.length = 2 := hxl
  match xs, hxl2, cs, hcl with
  | [y0, y1], _, [v0, v1], _ =>
    have g0 := hf 0 _ rfl
    have g1 := hf 1 _ rfl
    simp [c9, c23] at g0 g1
    obtain ⟨s0, e0, f0, _⟩ := DataW.trod_string Tryz.underlying9 g0
    obtain ⟨a, cap, l, e1, hb, hle⟩ := open_bB g1
    simp at e0 e1
    subst e0 e1
    refine ⟨⟨s0.data.toList, l, a, cap⟩, by rw [ba_of], hb, ?_⟩
    rw [hxy]
    simp only [List.map_cons, List.map_nil, Rows.uptoBulk, Rows.uptoBulkAll, f0]
    omega

set_option maxRecDepth 100000 in
theorem open_pairs {H : Type} {enc : TypeId × Value → H} {W : World} {base : Nat} {a : Option Addr} {len cap : Nat} {d : DataW H} {p : List MemPlace} (hv : Value.okWide Tryz.prog W .any base 65 (.slice a len cap))
    (h : DataW.Trod enc Tryz.prog W 0 (fun _ => true) true 65 (.slice a len cap) d p) :
    ∃ ts : List Wk, ts.length = len ∧ PRow W a ts ∧ (∀ t ∈ ts, BAt W t.a t.sec ∧ t.nm.length + t.sec.length ≤ Rows.uptoBulk d) := by
  obtain ⟨fuel, hf⟩ := h
  rcases Deep.open_slice Tryz.underlying65 hf with ⟨hcs, _⟩ | ⟨x, len', cap', m, n, D, Pl, hcs, _, hl, hm, hmm, hx, hel⟩
  · simp [Value.cells] at hcs
    exact ⟨[], hcs.2.1.symm, ⟨Or.inl rfl⟩, fun x hx => by cases hx⟩
  · simp [Value.cells] at hcs
    obtain ⟨rfl, rfl, rfl⟩ := hcs
    obtain ⟨hs, hb⟩ := slice_ok Tryz.underlying65 hv
    obtain ⟨B, O, sp⟩ := x
    have hsp : sp = none := hs
    subst hsp
    have hmm' : m = cap := by simpa using hmm
    subst hmm'
    have c144 : Tryz.prog.cellsOf 144 = 2 := by kernel_rfl
    rw [c144] at hel
    simp only [Prod.mk.injEq] at hx
    rw [hx.1]
    have hb2 := bulk_slice (Nat.le_refl (Rows.uptoBulk (.slice ((List.range len).map D) ((List.range (m - len)).map fun j => D (len + j)))))
    have inh : Inhabited Wk := ⟨⟨[], [], none, 0⟩⟩
    obtain ⟨f, hfx⟩ := Deep.choose_lt (α := Wk) (n := len) (p := fun i s => (W.cell? ⟨B, O + i * 2, none⟩ = some (.string (ba s.nm)) ∧ W.cell? ⟨B, O + i * 2 + 1, none⟩ = some (.slice s.a s.sec.length s.c)) ∧ BAt W s.a s.sec ∧ s.nm.length + s.sec.length ≤ Rows.uptoBulk (D i)) (fun i hi => by
      obtain ⟨cs, h1, h2⟩ := hel i (by omega)
      obtain ⟨x, rfl, hwf, hp⟩ := open_pair h2
      obtain ⟨_, _, hcell⟩ := World.cells?_some h1
      have z0 := hcell 0 (by omega)
      have z1 := hcell 1 (by omega)
      rw [WideShapes.add_plain, WideShapes.add_plain] at z0 z1
      exact ⟨x, ⟨z0, z1⟩, hwf, hp⟩)
    refine ⟨(List.range len).map f, by simp, ⟨Or.inr ⟨B, O, rfl, fun k hk => ?_⟩⟩, ?_⟩
    · have hk' : k < len := by simpa using hk
      have e : ((List.range len).map f)[k] = f k := by simp
      rw [e]
      exact (hfx k hk').1
    · intro x hx
      obtain ⟨i, hi, rfl⟩ := List.mem_map.1 hx
      have h1 := (hfx i (List.mem_range.1 hi)).2
      have h2 : Rows.uptoBulk (D i) ≤ Rows.uptoBulkAll ((List.range len).map D) := bulk_mem (List.mem_map.2 ⟨i, hi, rfl⟩)
      exact ⟨h1.1, by omega⟩
end Go.Proofs.YtkablmjkffdloaaGreatDoor
