/-
  The law ArkSums answers true at every input and leaves its arguments as they were.
  Conditions: those of the given row alone (the listed variables of the library read as the program's text lays them; the card ties that).
-/
import Derived.Test.YtkablmjkffdloaaGreatDoorCards
import Derived.Test.YtkablmjkffdloaaGreatDoorTie
import Derived.Test.YtkablmjkffdloaaGreatDoorSumsW
import Derived.ProofKit
import Derived.OpenShut
import Derived.LaidMore
import Derived.Lay
import Derived.SevenTiedAt
import Derived.Stop.Joined
import Derived.Deep.DeepHandedRow
import Derived.ChangeOld
import Derived.HandedShaped
import Derived.LaidSub
import Derived.MakeChecks
import Derived.ChangeMaps5
namespace Go.Proofs.YtkablmjkffdloaaGreatDoor
open Go.ChangeShapes Go.WideShapes Go.ChangeAt Go.ChangeMaps Go.RowKit

theorem laidOut4 : laidOutB Tryz.prog = true := by kernel_rfl
theorem own4 : ownKnob Tryz.prog.godebug = none := by kernel_rfl

theorem cell_spot {W : World} {a : Addr} {v : Value} (h : W.cell? a = some v) : a.spot = none := by
  unfold World.cell? at h
  split at h
  · split at h
    · cases h
    · rename_i hs; simpa using hs
  · cases h

theorem open_b1 {H : Type} {enc : TypeId × Value → H} {W : World} {fuel : Nat} {cs : List Value} {y : DataW H × List MemPlace} (h : DataW.trod enc Tryz.prog W 0 (fun _ => true) true fuel 23 cs = some y) :
    ∃ (a : Option Addr) (cap : Nat) (l : Bs), cs = [.slice a l.length cap] ∧ BAt W a l ∧ l.length ≤ cap ∧ cap ≤ maxLen ∧ (a = none ∨ (∃ B O, a = some ⟨B, O, none⟩) ∨ ∃ x, a = some x ∧ l.length = 0 ∧ cap = 0) := by
  rcases open_ints Tryz.underlying23 Tryz.underlying5 (by kernel_rfl) h with ⟨hcs, _⟩ | ⟨x, len, cap, zs, hcs, _, hl, hm, hz, hy, hcell, hwz⟩
  · exact ⟨none, 0, [], hcs, ⟨Or.inl rfl⟩, Nat.le_refl _, by simp, Or.inl rfl⟩
  · have hzl : zs.length = cap := by simpa using hz
    have hlen : ((zs.take len).map fun z => z.toNat.toUInt8).length = len := by simp; omega
    refine ⟨some x, cap, (zs.take len).map fun z => z.toNat.toUInt8, by rw [hlen]; exact hcs, ?_, by rw [hlen]; exact hl, by omega, ?_⟩
    · by_cases h0 : len = 0
      · subst h0; exact ⟨Or.inl (by simp)⟩
      · have c0 := hcell 0 (by omega)
        have hsp : x.spot = none := by have := cell_spot c0; simpa [Addr.add] using this
        obtain ⟨B, O, sp⟩ := x
        have hsp' : sp = none := hsp
        subst hsp'
        refine ⟨Or.inr ⟨B, O, rfl, fun i hi => ?_⟩⟩
        rw [hlen] at hi
        have hi2 : i < zs.length := by omega
        have hc := hcell i hi2
        rw [add_plain] at hc
        rw [hc]
        have hw := hwz zs[i] (List.getElem_mem hi2)
        have hb : 0 ≤ zs[i] ∧ zs[i] ≤ 255 := by simpa [Lit.wf, IntKind.min, IntKind.max, IntKind.signed, IntKind.bits] using hw
        have e1 : zs.getD i 0 = zs[i] := by simp [List.getD, hi2]
        have e2 : ((zs.take len).map fun z => z.toNat.toUInt8)[i]'(by rw [hlen]; exact hi) = zs[i].toNat.toUInt8 := by simp
        rw [e1, e2]
        have e3 : (zs[i].toNat.toUInt8.toNat : Int) = zs[i] := by simp; omega
        rw [e3]
    · refine Or.inr ?_
      rw [hlen]
      by_cases h0 : cap = 0
      · exact Or.inr ⟨x, rfl, by omega, h0⟩
      · have c0 := hcell 0 (by omega)
        have hsp : x.spot = none := by have := cell_spot c0; simpa [Addr.add] using this
        obtain ⟨B, O, sp⟩ := x
        have hsp' : sp = none := hsp
        subst hsp'
        exact Or.inl ⟨B, O, rfl⟩

theorem open_b {H : Type} {enc : TypeId × Value → H} {W : World} {a : Option Addr} {len cap : Nat} {d : DataW H} {p : List MemPlace} (h : DataW.Trod enc Tryz.prog W 0 (fun _ => true) true 23 (.slice a len cap) d p) :
    ∃ l : Bs, l.length = len ∧ len ≤ cap ∧ cap ≤ maxLen ∧ BAt W a l ∧ (a = none ∨ (∃ B O, a = some ⟨B, O, none⟩) ∨ ∃ x, a = some x ∧ len = 0 ∧ cap = 0) := by
  obtain ⟨fuel, hf⟩ := h
  obtain ⟨a', cap', l, hcs, hb, h1, h2, h3⟩ := open_b1 hf
  simp [Value.cells] at hcs
  obtain ⟨rfl, rfl, rfl⟩ := hcs
  exact ⟨l, rfl, h1, h2, hb, h3⟩

theorem sums_any {w : World} {a : Option Addr} {n c : Nat} {b : Bs} {S : ByteArray} (hn : b.length = n) (hc : n ≤ c) (hc2 : c ≤ maxLen) (h : BAt w a b) (h5 : a = none ∨ (∃ B O, a = some ⟨B, O, none⟩) ∨ ∃ x, a = some x ∧ n = 0 ∧ c = 0) :
    Calls Tryz.prog 4 #[.slice a n c, .string S] w fun e w' => e = .returned (.bool true) ∧ Below w.heap.size w w' := by
  have hc3 : c ≤ 9223372036854775807 := by unfold maxLen at hc2; omega
  refine sums_law (b := b) (s := S.data.toList) hn h (Lib.mk_data S) ?_
  intro w' hb h4
  rcases h5 with rfl | ⟨B, O, rfl⟩ | ⟨x, rfl, z1, z2⟩
  · exact sha_any hn (by omega) hc hc3 (Or.inl rfl) (h.low hb)
  · exact sha_any hn (by omega) hc hc3 (Or.inr ⟨B, O, rfl⟩) (h.low hb)
  · exact sha_zero hn z1 (by omega) (by omega) hc hc3 (h.low hb)

/-- An input that fits, at a world that is laid, its shape given. -/
theorem witness_zip {H : Type} {enc : TypeId × Value → H} {C : Checked} {os : Os} {f : FuncId} {fn : Func} {s : OpenSpec} {conds : List PathCond} {apart : Bool} {laid : List (String × DataW Unit)} (modest : Bool) (w0 : World) (args : Array Value) (hos : w0.os = os)
    (hs : (w0.forCall (fun _ _ => 0) ⟨#[], args, []⟩).Shaped C.prog)
    (hok : Input.okWideB C.prog (w0.forCall (fun _ _ => 0) ⟨#[], args, []⟩) f ⟨#[], args, []⟩ = true)
    (hrow : s.preRow enc C.prog fn conds apart laid (w0.forCall (fun _ _ => 0) ⟨#[], args, []⟩).memory args) :
    ∃ (w : World) (tape : Tape) (i : Input), w.os = os ∧ (w.forCall tape i).Shaped C.prog ∧ i.vars = [] ∧ Input.okWide C.prog (w.forCall tape i) .any w.heap.size f i ∧
      s.preRow enc C.prog fn conds apart laid (w.forCall tape i).memory i.args ∧ ({ modest := modest } : Assume).holds C.prog (lone (Frame.enter C.prog f i.args .normal) [] (w.forCall tape i)) :=
  ⟨w0, fun _ _ => 0, ⟨#[], args, []⟩, hos, hs, (Input.okWide_of_okWideB (base := 0) hok).1, (Input.okWide_of_okWideB hok).2, hrow, by
    simp only [Assume.holds]
    exact ⟨by simp, by simp, fun _ => Modest.zero, by simp, by simp⟩⟩

set_option maxRecDepth 100000 in
theorem arkSums_contract (H : Type) (enc : TypeId × Value → H) (W : World) (base : Nat) (args : Array Value) (ds gs : List (DataW H)) (before : List MemPlace)
    (hval : ∀ (j : Nat) t v, Tryz.f4.params[j]? = some t → args[j]? = some v → Value.okWide Tryz.prog W .any base t v)
    (hW : DataW.Whole enc Tryz.prog Tryz.f4.params.toList Rows.arkSumsSpec.vars false W args.toList ds gs before) :
    Calls Tryz.prog 4 args W fun e W' => ∃ v, e = .returned v ∧ Rows.arkSumsSpec.post enc Tryz.prog Tryz.f4 false true false false W args v W' := by
  have hW' := hW
  obtain ⟨p, q, hA0, hV, rfl, _, _⟩ := hW
  have hA : DataW.TrodAll enc Tryz.prog W 0 (fun _ => true) true Tryz.f4.params.toList args.toList ds p := hA0
  rw [Tryz.params4] at hA hval
  obtain ⟨v0, vs0, d0, ds0, p0, q0, hargs, rfl, rfl, h0, r0⟩ := trodAll_cons hA
  obtain ⟨v1, vs1, d1, ds1, p1, q1, rfl, rfl, rfl, h1, r1⟩ := trodAll_cons r0
  obtain ⟨rfl, rfl, rfl⟩ := trodAll_nil r1
  obtain rfl : args = #[v0, v1] := by cases args; simp_all
  obtain ⟨rfl, rfl⟩ := trodVars_none hV
  obtain ⟨a0, len0, cap0, rfl⟩ := okWide_slice Tryz.underlying23 (hval 0 23 v0 rfl rfl)
  have k0 := h0
  have lt0 : ∀ x ∈ p0, x.block < W.heap.size := by obtain ⟨m, hm⟩ := k0; exact DataW.trod_lt m _ _ _ hm
  obtain ⟨l0, e1, e2, e3, e4, e5⟩ := open_b h0
  obtain ⟨a1, rfl, rfl, rfl, w1⟩ := open_string Tryz.underlying9 (hval 1 9 v1 rfl rfl) h1
  have hwalk : Calls Tryz.prog 4 #[.slice a0 len0 cap0, .string a1] W fun e w' => e = .returned (.bool true) ∧ Below W.heap.size W w' := sums_any e1 e2 e3 e4 e5
  clear hA0
  refine hwalk.mono fun e W' ⟨he, bel⟩ => ?_
  subst he
  exact ⟨_, rfl, _, _, _, [], _, [], hW', trodAll_mk1 (shut_bool Tryz.underlying4 _), (trodAll_cons_mk (Below.trod laidOut4 (by kernel_rfl) (of_decide_eq_true (by kernel_rfl)) k0 bel lt0) (trodAll_cons_mk (shut_string Tryz.underlying9 w1) trodAll_mk0)), rfl, bel.frame _, fun h => by cases h⟩

theorem arkSums_laid (os : Os) : laidMet Tryz.prog Rows.arkSumsRow.laid ((World.laidAll Tryz.prog os Rows.arkSumsRow.laid).forCall (fun _ _ => 0) ⟨#[], #[.slice none 0 0, .string ⟨#[]⟩], []⟩).memory :=
  laidMet_laidAll _ (by kernel_rfl) (by kernel_rfl)
theorem arkSums_reads (os : Os) {H : Type} (enc : TypeId × Value → H) : ∃ places, DataW.whole enc Tryz.prog ((World.laidAll Tryz.prog os Rows.arkSumsRow.laid).forCall (fun _ _ => 0) ⟨#[], #[.slice none 0 0, .string ⟨#[]⟩], []⟩).memory Tryz.f4.params.toList Rows.arkSumsSpec.vars false #[Value.slice none 0 0, .string ⟨#[]⟩].toList 8 = some ([.nil, .lit (.string [])], [], places) :=
  ⟨[], by kernel_rfl⟩

set_option maxRecDepth 100000 in
theorem arkSums_lifted (os : Os) (started : os.Started) (H : Type) (enc : TypeId × Value → H) (F : Stop.Interp) :
    ReturnsInHanded {} Tryz.checked os 4 .any ((OpenSpec.ofChange Rows.arkSumsSpec).preRow enc Tryz.prog Tryz.f4 Rows.arkSumsRow.domain false Rows.arkSumsRow.laid) (((OpenSpec.ofChange Rows.arkSumsSpec).at F).post enc Tryz.prog Tryz.f4 false true false false) := by
  obtain ⟨places, hx⟩ := arkSums_reads os enc
  refine returnsInHanded_of_row (C := Tryz.checked) (s := OpenSpec.ofChange Rows.arkSumsSpec) own4 started (by kernel_rfl) Tryz.func4
    (witness_zip (enc := enc) (C := Tryz.checked) false (World.laidAll Tryz.prog os Rows.arkSumsRow.laid) #[.slice none 0 0, .string ⟨#[]⟩] (World.laidAll_os _ _ _) (World.shaped_of_ZipB (by kernel_rfl) (by kernel_rfl)) (by kernel_rfl)
      (OpenSpec.preRow_of_cond 8 hx (by kernel_rfl) (fun k hk => by cases hk) (by kernel_rfl) (arkSums_laid os))) ?_
  intro W base args ds gs before hval hW _ _ _ _ _ _
  exact arkSums_contract H enc W base args ds gs before hval hW

theorem arkSums_row : Rows.ArkSumsSaid :=
  OpenClaim.holds_of_cond 4 Tryz.f4 rfl rfl rfl rfl rfl rfl rfl ⟨rfl, rfl, rfl, rfl, rfl⟩ rfl rfl rfl rfl rfl (by kernel_rfl) Tryz.func4 (by kernel_rfl)
    (of_decide_eq_true (by kernel_rfl)) (by unfold Func.isWrapper; first | (rw [if_pos (by decide +kernel)]; kernel_rfl) | (rw [if_neg (by decide +kernel)]; exact ⟨rfl, rfl⟩))
    (fun os started H enc _ F => by rw [OpenClaim.pre_eq_preRow]; exact arkSums_lifted os started H enc F)

theorem arkSums_card : Rows.ArkSumsCardSaid :=
  Claim7.holds_tied_plain_at .later [] _ _ _ _ arkSums_row (fun _ h => by cases h) (by kernel_rfl) (fun _ h => by cases h) arkSums_row_tie rfl ⟨rfl, rfl⟩ (by kernel_rfl) rfl
    (fun f fn hf hfn => by
      obtain rfl : f = 4 := Option.some.inj ((show Tryz.prog.funcNamed "mews/mewslaw6.ArkSums" = some 4 by kernel_rfl).symm.trans hf) |>.symm
      obtain rfl : fn = Tryz.f4 := (Option.some.inj (Tryz.func4.symm.trans hfn)).symm
      exact ⟨by kernel_rfl, fun j t ht => by
        rw [Tryz.params4] at ht
        have hm : t ∈ [23, 9] := by simpa using Array.mem_of_getElem? ht
        have hall : ([23, 9].all fun u => !Tryz.prog.wantsStandIn u) = true := by kernel_rfl
        exact (show Tryz.prog.wantsStandIn t = false by simpa using List.all_eq_true.1 hall t hm)⟩)
    (by kernel_rfl)
end Go.Proofs.YtkablmjkffdloaaGreatDoor
