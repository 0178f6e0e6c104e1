/-
  What the rows of the laws of notes share: slices of bytes as they come in, the library's variables as they are laid.
-/
import Derived.Test.YtkablmjkffdloaaGreatDoorCards
import Derived.Test.YtkablmjkffdloaaGreatDoorHedP
import Derived.ProofKit
import Derived.OpenShut
import Derived.LaidMore
import Derived.Lay
import Derived.Stop.Joined
import Derived.Deep.DeepHandedRow
import Derived.ChangeOld
import Derived.HandedShaped
import Derived.LaidSub
import Derived.MakeChecks
import Derived.ChangeMaps5
import Derived.Stop.LaidErr
namespace Go.Proofs.YtkablmjkffdloaaGreatDoor
open Go.ChangeShapes Go.WideShapes Go.ChangeAt Go.ChangeMaps Go.RowKit

theorem laidOutN : laidOutB Tryz.prog = true := by kernel_rfl
theorem ownN : ownKnob Tryz.prog.godebug = none := by kernel_rfl
theorem gTabN : Tryz.prog.globalNamed "internal/strconv.uint64pow10" = some 3 := by kernel_rfl
theorem gTypeN : (Tryz.prog.globals[3]?).map (·.type) = some 275 := by kernel_rfl
theorem cellsAN : Tryz.prog.cellsOf 275 = 20 := by kernel_rfl
theorem cellsEN : Tryz.prog.cellsOf 127 = 1 := by kernel_rfl
theorem gErrS : Tryz.prog.globalNamed "strconv.ErrSyntax" = some 1 := by kernel_rfl
theorem gErrR : Tryz.prog.globalNamed "strconv.ErrRange" = some 2 := by kernel_rfl
theorem gErrST : (Tryz.prog.globals[1]?).map (·.type) = some 150 := by kernel_rfl
theorem gErrRT : (Tryz.prog.globals[2]?).map (·.type) = some 150 := by kernel_rfl
theorem cells281 : Tryz.prog.cellsOf 281 = 1 := by kernel_rfl
theorem cells9N : Tryz.prog.cellsOf 9 = 1 := by kernel_rfl
theorem starN : "*" ++ "errors.errorString" = "*errors.errorString" := by decide
theorem row279 (u : TypeId) (h : Tryz.prog.typeName? 3 u = some "*errors.errorString") : u = 279 :=
  typeName_ptr_named (nm := "errors.errorString") (by rw [starN]; kernel_rfl) (by kernel_rfl) (by decide) u (by rw [starN]; exact h)
theorem errS_of {W : World} (h : laidMet Tryz.prog [("strconv.ErrSyntax", Rows.laid_strconv_ErrSyntax)] W) : ∃ t p, W.var? Tryz.prog "strconv.ErrSyntax" = some #[.iface t p] := by
  obtain ⟨a, s, hv, -⟩ := laid_sentinel h gErrS gErrST Tryz.underlying150 row279 Tryz.underlying279 Tryz.underlying281 rfl rfl Tryz.underlying9 cells281 cells9N
  exact ⟨_, _, hv⟩
theorem errR_of {W : World} (h : laidMet Tryz.prog [("strconv.ErrRange", Rows.laid_strconv_ErrRange)] W) : ∃ t p, W.var? Tryz.prog "strconv.ErrRange" = some #[.iface t p] := by
  obtain ⟨a, s, hv, -⟩ := laid_sentinel h gErrR gErrRT Tryz.underlying150 row279 Tryz.underlying279 Tryz.underlying281 rfl rfl Tryz.underlying9 cells281 cells9N
  exact ⟨_, _, hv⟩

theorem cell_spot {W : World} {a : Addr} {v : Value} (h : W.cell? a = some v) : a.spot = none := by
  unfold World.cell? at h
  split at h
  · split at h
    · cases h
    · rename_i hs; simpa using hs
  · cases h

theorem open_b1 {H : Type} {enc : TypeId × Value → H} {W : World} {fuel : Nat} {cs : List Value} {y : DataW H × List MemPlace} (h : DataW.trod enc Tryz.prog W 0 (fun _ => true) true fuel 23 cs = some y) :
    ∃ (a : Option Addr) (cap : Nat) (l : Bs), cs = [.slice a l.length cap] ∧ BAt W a l ∧ l.length ≤ cap ∧ cap ≤ maxLen ∧ (a = none ∨ (∃ B O, a = some ⟨B, O, none⟩) ∨ ∃ x, a = some x ∧ l.length = 0 ∧ cap = 0) := by
  rcases open_ints Tryz.underlying23 Tryz.underlying5 (by kernel_rfl) h with ⟨hcs, _⟩ | ⟨x, len, cap, zs, hcs, _, hl, hm, hz, hy, hcell, hwz⟩
  · exact ⟨none, 0, [], hcs, ⟨Or.inl rfl⟩, Nat.le_refl _, by simp, Or.inl rfl⟩
  · have hzl : zs.length = cap := by simpa using hz
    have hlen : ((zs.take len).map fun z => z.toNat.toUInt8).length = len := by simp; omega
    refine ⟨some x, cap, (zs.take len).map fun z => z.toNat.toUInt8, by rw [hlen]; exact hcs, ?_, by rw [hlen]; exact hl, by omega, ?_⟩
    · by_cases h0 : len = 0
      · subst h0; exact ⟨Or.inl (by simp)⟩
      · have c0 := hcell 0 (by omega)
        have hsp : x.spot = none := by have := cell_spot c0; simpa [Addr.add] using this
        obtain ⟨B, O, sp⟩ := x
        have hsp' : sp = none := hsp
        subst hsp'
        refine ⟨Or.inr ⟨B, O, rfl, fun i hi => ?_⟩⟩
        rw [hlen] at hi
        have hi2 : i < zs.length := by omega
        have hc := hcell i hi2
        rw [add_plain] at hc
        rw [hc]
        have hw := hwz zs[i] (List.getElem_mem hi2)
        have hb : 0 ≤ zs[i] ∧ zs[i] ≤ 255 := by simpa [Lit.wf, IntKind.min, IntKind.max, IntKind.signed, IntKind.bits] using hw
        have e1 : zs.getD i 0 = zs[i] := by simp [List.getD, hi2]
        have e2 : ((zs.take len).map fun z => z.toNat.toUInt8)[i]'(by rw [hlen]; exact hi) = zs[i].toNat.toUInt8 := by simp
        rw [e1, e2]
        have e3 : (zs[i].toNat.toUInt8.toNat : Int) = zs[i] := by simp; omega
        rw [e3]
    · refine Or.inr ?_
      rw [hlen]
      by_cases h0 : cap = 0
      · exact Or.inr ⟨x, rfl, by omega, h0⟩
      · have c0 := hcell 0 (by omega)
        have hsp : x.spot = none := by have := cell_spot c0; simpa [Addr.add] using this
        obtain ⟨B, O, sp⟩ := x
        have hsp' : sp = none := hsp
        subst hsp'
        exact Or.inl ⟨B, O, rfl⟩

theorem open_b {H : Type} {enc : TypeId × Value → H} {W : World} {a : Option Addr} {len cap : Nat} {d : DataW H} {p : List MemPlace} (h : DataW.Trod enc Tryz.prog W 0 (fun _ => true) true 23 (.slice a len cap) d p) :
    ∃ l : Bs, l.length = len ∧ len ≤ cap ∧ cap ≤ maxLen ∧ BAt W a l ∧ (a = none ∨ (∃ B O, a = some ⟨B, O, none⟩) ∨ ∃ x, a = some x ∧ len = 0 ∧ cap = 0) := by
  obtain ⟨fuel, hf⟩ := h
  obtain ⟨a', cap', l, hcs, hb, h1, h2, h3⟩ := open_b1 hf
  simp [Value.cells] at hcs
  obtain ⟨rfl, rfl, rfl⟩ := hcs
  exact ⟨l, rfl, h1, h2, hb, h3⟩

/-- An input that fits, at a world that is laid, its shape given. -/
theorem witness_zip {H : Type} {enc : TypeId × Value → H} {C : Checked} {os : Os} {f : FuncId} {fn : Func} {s : OpenSpec} {conds : List PathCond} {apart : Bool} {laid : List (String × DataW Unit)} (modest : Bool) (w0 : World) (args : Array Value) (hos : w0.os = os)
    (hs : (w0.forCall (fun _ _ => 0) ⟨#[], args, []⟩).Shaped C.prog)
    (hok : Input.okWideB C.prog (w0.forCall (fun _ _ => 0) ⟨#[], args, []⟩) f ⟨#[], args, []⟩ = true)
    (hrow : s.preRow enc C.prog fn conds apart laid (w0.forCall (fun _ _ => 0) ⟨#[], args, []⟩).memory args) :
    ∃ (w : World) (tape : Tape) (i : Input), w.os = os ∧ (w.forCall tape i).Shaped C.prog ∧ i.vars = [] ∧ Input.okWide C.prog (w.forCall tape i) .any w.heap.size f i ∧
      s.preRow enc C.prog fn conds apart laid (w.forCall tape i).memory i.args ∧ ({ modest := modest } : Assume).holds C.prog (lone (Frame.enter C.prog f i.args .normal) [] (w.forCall tape i)) :=
  ⟨w0, fun _ _ => 0, ⟨#[], args, []⟩, hos, hs, (Input.okWide_of_okWideB (base := 0) hok).1, (Input.okWide_of_okWideB hok).2, hrow, by
    simp only [Assume.holds]
    exact ⟨by simp, by simp, fun _ => Modest.zero, by simp, by simp⟩⟩

end Go.Proofs.YtkablmjkffdloaaGreatDoor
