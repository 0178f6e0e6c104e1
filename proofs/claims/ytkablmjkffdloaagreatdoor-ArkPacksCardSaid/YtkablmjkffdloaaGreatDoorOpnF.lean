/-
  Files and a module, as they come in: opened.
-/
import Derived.Test.YtkablmjkffdloaaGreatDoorTelY
import Derived.ProofKit
import Derived.OpenShut
import Derived.LaidMore
import Derived.Lay
import Derived.SevenTiedAt
import Derived.Stop.Joined
import Derived.Deep.DeepHandedRow
import Derived.ChangeOld
import Derived.HandedShaped
import Derived.LaidSub
import Derived.MakeChecks
import Derived.ChangeMaps5
import Derived.Deep.Slices
namespace Go.Proofs.YtkablmjkffdloaaGreatDoor
open Go.ChangeShapes Go.WideShapes Go.ChangeAt Go.ChangeMaps Go.RowKit

theorem laidOutF : laidOutB Tryz.prog = true := by kernel_rfl
theorem ownF : ownKnob Tryz.prog.godebug = none := by kernel_rfl
theorem cellF_spot {W : World} {a : Addr} {v : Value} (h : W.cell? a = some v) : a.spot = none := by
  unfold World.cell? at h
  split at h
  · split at h
    · cases h
    · rename_i hs; simpa using hs
  · cases h

theorem openF_b1 {H : Type} {enc : TypeId × Value → H} {W : World} {fuel : Nat} {cs : List Value} {y : DataW H × List MemPlace} (h : DataW.trod enc Tryz.prog W 0 (fun _ => true) true fuel 23 cs = some y) :
    ∃ (a : Option Addr) (cap : Nat) (l : Bs), cs = [.slice a l.length cap] ∧ BAt W a l ∧ l.length ≤ cap ∧ cap ≤ maxLen ∧ (a = none ∨ (∃ B O, a = some ⟨B, O, none⟩) ∨ ∃ x, a = some x ∧ l.length = 0 ∧ cap = 0) := by
  rcases open_ints Tryz.underlying23 Tryz.underlying5 (by kernel_rfl) h with ⟨hcs, _⟩ | ⟨x, len, cap, zs, hcs, _, hl, hm, hz, hy, hcell, hwz⟩
  · exact ⟨none, 0, [], hcs, ⟨Or.inl rfl⟩, Nat.le_refl _, by simp, Or.inl rfl⟩
  · have hzl : zs.length = cap := by simpa using hz
    have hlen : ((zs.take len).map fun z => z.toNat.toUInt8).length = len := by simp; omega
    refine ⟨some x, cap, (zs.take len).map fun z => z.toNat.toUInt8, by rw [hlen]; exact hcs, ?_, by rw [hlen]; exact hl, by omega, ?_⟩
    · by_cases h0 : len = 0
      · subst h0; exact ⟨Or.inl (by simp)⟩
      · have c0 := hcell 0 (by omega)
        have hsp : x.spot = none := by have := cellF_spot c0; simpa [Addr.add] using this
        obtain ⟨B, O, sp⟩ := x
        have hsp' : sp = none := hsp
        subst hsp'
        refine ⟨Or.inr ⟨B, O, rfl, fun i hi => ?_⟩⟩
        rw [hlen] at hi
        have hi2 : i < zs.length := by omega
        have hc := hcell i hi2
        rw [add_plain] at hc
        rw [hc]
        have hw := hwz zs[i] (List.getElem_mem hi2)
        have hb : 0 ≤ zs[i] ∧ zs[i] ≤ 255 := by simpa [Lit.wf, IntKind.min, IntKind.max, IntKind.signed, IntKind.bits] using hw
        have e1 : zs.getD i 0 = zs[i] := by simp [List.getD, hi2]
        have e2 : ((zs.take len).map fun z => z.toNat.toUInt8)[i]'(by rw [hlen]; exact hi) = zs[i].toNat.toUInt8 := by simp
        rw [e1, e2]
        have e3 : (zs[i].toNat.toUInt8.toNat : Int) = zs[i] := by simp; omega
        rw [e3]
    · refine Or.inr ?_
      rw [hlen]
      by_cases h0 : cap = 0
      · exact Or.inr ⟨x, rfl, by omega, h0⟩
      · have c0 := hcell 0 (by omega)
        have hsp : x.spot = none := by have := cellF_spot c0; simpa [Addr.add] using this
        obtain ⟨B, O, sp⟩ := x
        have hsp' : sp = none := hsp
        subst hsp'
        exact Or.inl ⟨B, O, rfl⟩

set_option maxRecDepth 100000 in
theorem sliceF_ok {t e : TypeId} {W : World} {base : Nat} {a : Addr} {len cap : Nat} (ht : Tryz.prog.underlying t = some (.slice e)) (h : Value.okWide Tryz.prog W .any base t (.slice (some a) len cap)) : a.spot = none ∧ a.block < W.heap.size := by
  simp only [Value.okWide, ht, Cell.okWide, Cell.ok] at h
  obtain ⟨_, _, _, hs, row, cells, hsh, _⟩ := h
  refine ⟨hs, ?_⟩
  unfold World.shape? at hsh
  cases hh : W.heap[a.block]? with
  | none => rw [hh] at hsh; cases hsh
  | some o => exact (Array.getElem?_eq_some_iff.1 hh).1

/-- An input that fits, at a world that is laid, its shape given. -/
theorem witnessF_zip {H : Type} {enc : TypeId × Value → H} {C : Checked} {os : Os} {f : FuncId} {fn : Func} {s : OpenSpec} {conds : List PathCond} {apart : Bool} {laid : List (String × DataW Unit)} (modest : Bool) (w0 : World) (args : Array Value) (hos : w0.os = os)
    (hs : (w0.forCall (fun _ _ => 0) ⟨#[], args, []⟩).Shaped C.prog)
    (hok : Input.okWideB C.prog (w0.forCall (fun _ _ => 0) ⟨#[], args, []⟩) f ⟨#[], args, []⟩ = true)
    (hrow : s.preRow enc C.prog fn conds apart laid (w0.forCall (fun _ _ => 0) ⟨#[], args, []⟩).memory args) :
    ∃ (w : World) (tape : Tape) (i : Input), w.os = os ∧ (w.forCall tape i).Shaped C.prog ∧ i.vars = [] ∧ Input.okWide C.prog (w.forCall tape i) .any w.heap.size f i ∧
      s.preRow enc C.prog fn conds apart laid (w.forCall tape i).memory i.args ∧ ({ modest := modest } : Assume).holds C.prog (lone (Frame.enter C.prog f i.args .normal) [] (w.forCall tape i)) :=
  ⟨w0, fun _ _ => 0, ⟨#[], args, []⟩, hos, hs, (Input.okWide_of_okWideB (base := 0) hok).1, (Input.okWide_of_okWideB hok).2, hrow, by
    simp only [Assume.holds]
    exact ⟨by simp, by simp, fun _ => Modest.zero, by simp, by simp⟩⟩


/-- A file's bytes as they come in. -/
def FileIn (W : World) (x : Fl) (d : Bs) : Prop := d.length = x.n ∧ x.n ≤ x.c ∧ x.c ≤ maxLen ∧ BAt W x.a d ∧ (x.a = none ∨ (∃ B O, x.a = some ⟨B, O, none⟩) ∨ ∃ y, x.a = some y ∧ x.n = 0 ∧ x.c = 0)
set_option maxRecDepth 100000 in
theorem open_file {H : Type} {enc : TypeId × Value → H} {W : World} {fuel : Nat} {cs : List Value} {y : DataW H × List MemPlace} (h : DataW.trod enc Tryz.prog W 0 (fun _ => true) true fuel 56 cs = some y) :
    ∃ x : Fl, cs = [.string (ba x.nm), .slice x.a x.n x.c] ∧ ∃ d, FileIn W x d := by
  obtain ⟨xs, k, _, hxy, hcl, hxl, hf⟩ := DataW.trod_struct Tryz.underlying56 h
  have c56 : Tryz.prog.cellsOf 56 = 2 := by kernel_rfl
  have c9 : Tryz.prog.cellsOf 9 = 1 := by kernel_rfl
  have c23 : Tryz.prog.cellsOf 23 = 1 := by kernel_rfl
  rw [c56] at hcl
  have hxl2 : xs.length = 2 := hxl
  match xs, hxl2, cs, hcl with
  | [y0, y1], _, [v0, v1], _ =>
    have g0 := hf 0 _ rfl
    have g1 := hf 1 _ rfl
    simp [c9, c23] at g0 g1
    obtain ⟨s0, e0, f0, _⟩ := DataW.trod_string Tryz.underlying9 g0
    obtain ⟨a, cap, l, e1, hb, h1, h2, h3⟩ := openF_b1 g1
    simp at e0 e1
    subst e0 e1
    exact ⟨⟨s0.data.toList, a, l.length, cap⟩, by rw [ba_of], l, rfl, h1, h2, hb, h3⟩
theorem flsV_getF : ∀ (l : List Fl) (j : Nat) (u : Value), (flsV l)[j]? = some u → ∃ k, ∃ hk : k < l.length, (j = k * 2 ∧ u = .string (ba l[k].nm)) ∨ (j = k * 2 + 1 ∧ u = .slice l[k].a l[k].n l[k].c)
  | [], j, u, h => by simp [flsV] at h
  | x :: l, 0, u, h => ⟨0, by simp, Or.inl ⟨rfl, by simp [flsV] at h; exact h.symm⟩⟩
  | x :: l, 1, u, h => ⟨0, by simp, Or.inr ⟨rfl, by simp [flsV] at h; exact h.symm⟩⟩
  | x :: l, j + 2, u, h => by
    obtain ⟨k, hk, h1⟩ := flsV_getF l j u (by simpa [flsV] using h)
    refine ⟨k + 1, by simpa using hk, ?_⟩
    rcases h1 with ⟨e1, e2⟩ | ⟨e1, e2⟩
    · exact Or.inl ⟨by omega, by simpa using e2⟩
    · exact Or.inr ⟨by omega, by simpa using e2⟩

set_option maxRecDepth 100000 in
theorem open_files {H : Type} {enc : TypeId × Value → H} {W : World} {base : Nat} {a : Option Addr} {len cap : Nat} {d : DataW H} {p : List MemPlace} (hv : Value.okWide Tryz.prog W .any base 22 (.slice a len cap))
    (h : DataW.Trod enc Tryz.prog W 0 (fun _ => true) true 22 (.slice a len cap) d p) :
    ∃ (xs : List Fl) (dat : Fl → Bs), xs.length = len ∧ len ≤ cap ∧ len ≤ 9223372036854775807 ∧ ((a = none ∧ len = 0 ∧ cap = 0) ∨ ∃ B O, a = some ⟨B, O, none⟩) ∧ FAt W a xs ∧ DatW W xs dat := by
  obtain ⟨fuel, hf⟩ := h
  rcases Deep.open_slice Tryz.underlying22 hf with ⟨hcs, _⟩ | ⟨x, len', cap', m, n, D, Pl, hcs, _, hl, hm, hmm, hx, hel⟩
  · simp [Value.cells] at hcs
    obtain ⟨h1, h2, h3⟩ := hcs
    subst h1 h2 h3
    exact ⟨[], fun _ => [], rfl, Nat.le_refl _, by omega, Or.inl ⟨rfl, rfl, rfl⟩, ⟨Or.inl rfl⟩, ⟨by simp, by simp, by simp, by simp, by simp⟩⟩
  · simp [Value.cells] at hcs
    obtain ⟨rfl, rfl, rfl⟩ := hcs
    obtain ⟨hs, hb⟩ := sliceF_ok Tryz.underlying22 hv
    obtain ⟨B, O, sp⟩ := x
    have hsp : sp = none := hs
    subst hsp
    have hmm' : m = cap := by simpa using hmm
    subst hmm'
    have c56 : Tryz.prog.cellsOf 56 = 2 := by kernel_rfl
    rw [c56] at hel
    obtain ⟨f, hfx⟩ := Deep.choose_lt (α := Fl) (n := len) (p := fun i s => (W.cell? ⟨B, O + i * 2, none⟩ = some (.string (ba s.nm)) ∧ W.cell? ⟨B, O + i * 2 + 1, none⟩ = some (.slice s.a s.n s.c)) ∧ ∃ d, FileIn W s d) (fun i hi => by
      obtain ⟨cs, h1, h2⟩ := hel i (by omega)
      obtain ⟨x, rfl, hwf⟩ := open_file h2
      obtain ⟨_, _, hcell⟩ := World.cells?_some h1
      have z0 := hcell 0 (by omega)
      have z1 := hcell 1 (by omega)
      rw [WideShapes.add_plain, WideShapes.add_plain] at z0 z1
      exact ⟨x, ⟨z0, z1⟩, hwf⟩)
    have hall : ∀ x ∈ (List.range len).map f, ∃ d, FileIn W x d := fun x hx => by
      obtain ⟨i, hi, rfl⟩ := List.mem_map.1 hx
      exact (hfx i (List.mem_range.1 hi)).2
    have hdat : ∃ dat : Fl → Bs, ∀ x ∈ (List.range len).map f, FileIn W x (dat x) := by
      refine ⟨fun x => Classical.epsilon fun d => FileIn W x d, fun x hx => ?_⟩
      exact Classical.epsilon_spec (hall x hx)
    obtain ⟨dat, hd⟩ := hdat
    refine ⟨(List.range len).map f, dat, by simp, by omega, by have := hm; unfold maxLen at this; omega, Or.inr ⟨B, O, rfl⟩, ⟨Or.inr ⟨B, O, rfl, fun j u hu => ?_⟩⟩, ⟨fun x hx => (hd x hx).1, fun x hx => (hd x hx).2.1, fun x hx => by have := (hd x hx).2.2.1; unfold maxLen at this; omega, fun x hx => (hd x hx).2.2.2.2, fun x hx => (hd x hx).2.2.2.1⟩⟩
    obtain ⟨k, hk, h1⟩ := flsV_getF _ j u hu
    have hk' : k < len := by simpa using hk
    have e : ((List.range len).map f)[k] = f k := by simp
    rw [e] at h1
    obtain ⟨⟨z0, z1⟩, _⟩ := hfx k hk'
    rcases h1 with ⟨rfl, rfl⟩ | ⟨rfl, rfl⟩
    · exact z0
    · exact z1

set_option maxRecDepth 100000 in
theorem open_mod {H : Type} {enc : TypeId × Value → H} {W : World} {base : Nat} {v : Value} {d : DataW H} {p : List MemPlace} (hv : Value.okWide Tryz.prog W .any base 45 v)
    (h : DataW.Trod enc Tryz.prog W 0 (fun _ => true) true 45 v d p) : ∃ x y : Bs, v = .agg #[.string (ba x), .string (ba y)] := by
  obtain ⟨cs, rfl, hsz⟩ := okWide_struct Tryz.underlying45 hv
  obtain ⟨fuel, hf⟩ := h
  obtain ⟨xs, k, _, hxy, hcl, hxl, hff⟩ := DataW.trod_struct Tryz.underlying45 hf
  have c45 : Tryz.prog.cellsOf 45 = 2 := by kernel_rfl
  have c9 : Tryz.prog.cellsOf 9 = 1 := by kernel_rfl
  rw [c45] at hsz
  have hxl2 : xs.length = 2 := hxl
  obtain ⟨v0, v1, rfl⟩ : ∃ v0 v1, cs = #[v0, v1] := by
    obtain ⟨l⟩ := cs
    match l, hsz with
    | [v0, v1], _ => exact ⟨v0, v1, rfl⟩
  match xs, hxl2 with
  | [y0, y1], _ =>
    have g0 := hff 0 _ rfl
    have g1 := hff 1 _ rfl
    simp [c9, Value.cells] at g0 g1
    obtain ⟨s0, e0, _, _⟩ := DataW.trod_string Tryz.underlying9 g0
    obtain ⟨s1, e1, _, _⟩ := DataW.trod_string Tryz.underlying9 g1
    simp at e0 e1
    subst e0 e1
    exact ⟨s0.data.toList, s1.data.toList, by rw [ba_of, ba_of]⟩
theorem mlF {W : World} (hs : W.ShapedOpen Tryz.prog) : Ml W := Tryz.laysM145.s1_3 W hs
end Go.Proofs.YtkablmjkffdloaaGreatDoor
