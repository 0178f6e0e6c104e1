/-
  The law ArkUnpacks answers true at every input, and leaves its arguments as they were.
  Conditions: those of the given row alone (the listed variables of the library read as the program's text lays them; the card ties that).
-/
import Derived.Test.YtkablmjkffdloaaGreatDoorCards
import Derived.Test.YtkablmjkffdloaaGreatDoorTie
import Derived.Test.YtkablmjkffdloaaGreatDoorOpnF
import Derived.Test.YtkablmjkffdloaaGreatDoorRUnX
namespace Go.Proofs.YtkablmjkffdloaaGreatDoor
open Go.ChangeShapes Go.WideShapes Go.ChangeAt Go.ChangeMaps Go.RowKit

set_option maxRecDepth 100000 in
theorem arkUnpacks_bytes {H : Type} {enc : TypeId × Value → H} {W : World} {a : Option Addr} {len cap : Nat} {d : DataW H} {p : List MemPlace} (h : DataW.Trod enc Tryz.prog W 0 (fun _ => true) true 23 (.slice a len cap) d p) :
    ∃ l : Bs, l.length = len ∧ len ≤ cap ∧ cap ≤ maxLen ∧ BAt W a l ∧ (a = none ∨ (∃ B O, a = some ⟨B, O, none⟩) ∨ ∃ x, a = some x ∧ len = 0 ∧ cap = 0) := by
  obtain ⟨fuel, hf⟩ := h
  obtain ⟨a', cap', l, e, h1, h2, h3, h4⟩ := openF_b1 hf
  simp [Value.cells] at e
  obtain ⟨rfl, rfl, rfl⟩ := e
  exact ⟨l, rfl, h2, h3, h1, h4⟩
set_option maxRecDepth 100000 in
theorem arkUnpacks_form {W : World} {base len cap : Nat} {a : Option Addr} (h : Value.okWide Tryz.prog W .any base 23 (.slice a len cap)) : a = none ∨ ∃ B O, a = some ⟨B, O, none⟩ := by
  cases a with
  | none => exact Or.inl rfl
  | some x =>
    obtain ⟨hs, -⟩ := sliceF_ok Tryz.underlying23 h
    obtain ⟨B, O, sp⟩ := x
    have e : sp = none := hs
    subst e
    exact Or.inr ⟨B, O, rfl⟩
theorem arkUnpacks_byte {z : Int} (h : 0 ≤ z ∧ z ≤ 255) : ∃ x : UInt8, z = (x.toNat : Int) := ⟨z.toNat.toUInt8, by simp; omega⟩

set_option maxRecDepth 100000 in
theorem arkUnpacks_contract (H : Type) (enc : TypeId × Value → H) (W : World) (base : Nat) (args : Array Value) (ds gs : List (DataW H)) (before : List MemPlace)
    (hval : ∀ (j : Nat) t v, Tryz.f6.params[j]? = some t → args[j]? = some v → Value.okWide Tryz.prog W .any base t v)
    (hW : DataW.Whole enc Tryz.prog Tryz.f6.params.toList Rows.arkUnpacksSpec.vars false W args.toList ds gs before) (hsh : W.ShapedOpen Tryz.prog) :
    Calls Tryz.prog 6 args W fun e W' => ∃ v, e = .returned v ∧ Rows.arkUnpacksSpec.post enc Tryz.prog Tryz.f6 false true false false W args v W' := by
  have hW' := hW
  obtain ⟨p, q, hA0, hV, rfl, _, _⟩ := hW
  have hA : DataW.TrodAll enc Tryz.prog W 0 (fun _ => true) true Tryz.f6.params.toList args.toList ds p := hA0
  rw [Tryz.params6] at hA hval
  obtain ⟨v0, vs0, d0, ds0, p0, q0, hargs, rfl, rfl, h0, r0⟩ := trodAll_cons hA
  obtain ⟨rfl, rfl, rfl⟩ := trodAll_nil r0
  obtain rfl : args = #[v0] := by cases args; simp_all
  obtain ⟨rfl, rfl⟩ := trodVars_none hV
  obtain ⟨a0, len0, cap0, rfl⟩ := okWide_slice Tryz.underlying23 (hval 0 23 v0 rfl rfl)
  have k0 := h0
  have lt0 : ∀ x ∈ p0, x.block < W.heap.size := by obtain ⟨m, hm⟩ := k0; exact DataW.trod_lt m _ _ _ hm
  obtain ⟨l0, e0, f0, g0, i0, j0⟩ := arkUnpacks_bytes h0
  have hwalk : Calls Tryz.prog 6 #[.slice a0 len0 cap0] W fun e w' => e = .returned (.bool true) ∧ Below W.heap.size W w' := (by
    exact unpacks_law (mlF hsh) e0 (by have := g0; unfold maxLen at this; omega) f0 (by have := g0; unfold maxLen at this; omega) (arkUnpacks_form (hval 0 23 _ rfl rfl)) i0)
  clear hA0
  refine hwalk.mono fun e W' ⟨he, bel⟩ => ?_
  subst he
  exact ⟨_, rfl, _, _, _, [], _, [], hW', trodAll_mk1 (shut_bool Tryz.underlying4 _), (trodAll_cons_mk (Below.trod laidOutF (by kernel_rfl) (of_decide_eq_true (by kernel_rfl)) k0 bel lt0) trodAll_mk0), rfl, bel.frame _, fun h => by cases h⟩

theorem arkUnpacks_laid (os : Os) : laidMet Tryz.prog Rows.arkUnpacksRow.laid ((World.laidAll Tryz.prog os Rows.arkUnpacksRow.laid).forCall (fun _ _ => 0) ⟨#[], #[.slice none 0 0], []⟩).memory :=
  laidMet_laidAll _ (by kernel_rfl) (by kernel_rfl)
theorem arkUnpacks_reads (os : Os) {H : Type} (enc : TypeId × Value → H) : ∃ places, DataW.whole enc Tryz.prog ((World.laidAll Tryz.prog os Rows.arkUnpacksRow.laid).forCall (fun _ _ => 0) ⟨#[], #[.slice none 0 0], []⟩).memory Tryz.f6.params.toList Rows.arkUnpacksSpec.vars false #[Value.slice none 0 0].toList 8 = some ([.nil], [], places) :=
  ⟨[], by kernel_rfl⟩

set_option maxRecDepth 100000 in
theorem arkUnpacks_lifted (os : Os) (started : os.Started) (H : Type) (enc : TypeId × Value → H) (F : Stop.Interp) :
    ReturnsInHanded {} Tryz.checked os 6 .any ((OpenSpec.ofChange Rows.arkUnpacksSpec).preRow enc Tryz.prog Tryz.f6 Rows.arkUnpacksRow.domain false Rows.arkUnpacksRow.laid) (((OpenSpec.ofChange Rows.arkUnpacksSpec).at F).post enc Tryz.prog Tryz.f6 false true false false) := by
  obtain ⟨places, hx⟩ := arkUnpacks_reads os enc
  refine returnsInHanded_of_row (C := Tryz.checked) (s := OpenSpec.ofChange Rows.arkUnpacksSpec) ownF started (by kernel_rfl) Tryz.func6
    (witnessF_zip (enc := enc) (C := Tryz.checked) false (World.laidAll Tryz.prog os Rows.arkUnpacksRow.laid) #[.slice none 0 0] (World.laidAll_os _ _ _) (World.shaped_of_ZipB (by kernel_rfl) (by kernel_rfl)) (by kernel_rfl)
      (OpenSpec.preRow_of_cond 8 hx (by kernel_rfl) (fun k hk => by cases hk) (by kernel_rfl) (arkUnpacks_laid os))) ?_
  intro W base args ds gs before hval hW _ _ _ _ hsh _
  exact arkUnpacks_contract H enc W base args ds gs before hval hW hsh

theorem arkUnpacks_row : Rows.ArkUnpacksSaid :=
  OpenClaim.holds_of_cond 6 Tryz.f6 rfl rfl rfl rfl rfl rfl rfl ⟨rfl, rfl, rfl, rfl, rfl⟩ rfl rfl rfl rfl rfl (by kernel_rfl) Tryz.func6 (by kernel_rfl)
    (of_decide_eq_true (by kernel_rfl)) (by unfold Func.isWrapper; first | (rw [if_pos (by decide +kernel)]; kernel_rfl) | (rw [if_neg (by decide +kernel)]; exact ⟨rfl, rfl⟩))
    (fun os started H enc _ F => by rw [OpenClaim.pre_eq_preRow]; exact arkUnpacks_lifted os started H enc F)

theorem arkUnpacks_card : Rows.ArkUnpacksCardSaid :=
  Claim7.holds_tied_plain_at .later [] _ _ _ _ arkUnpacks_row (fun _ h => by cases h) (by kernel_rfl) (fun _ h => by cases h) arkUnpacks_row_tie rfl ⟨rfl, rfl⟩ (by kernel_rfl) rfl
    (fun f fn hf hfn => by
      obtain rfl : f = 6 := Option.some.inj ((show Tryz.prog.funcNamed "mews/mewslaw6.ArkUnpacks" = some 6 by kernel_rfl).symm.trans hf) |>.symm
      obtain rfl : fn = Tryz.f6 := (Option.some.inj (Tryz.func6.symm.trans hfn)).symm
      exact ⟨by kernel_rfl, fun j t ht => by
        rw [Tryz.params6] at ht
        have hm : t ∈ [23] := by simpa using Array.mem_of_getElem? ht
        have hall : ([23].all fun u => !Tryz.prog.wantsStandIn u) = true := by kernel_rfl
        exact (show Tryz.prog.wantsStandIn t = false by simpa using List.all_eq_true.1 hall t hm)⟩)
    (by kernel_rfl)
end Go.Proofs.YtkablmjkffdloaaGreatDoor
