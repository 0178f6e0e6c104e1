/-
  The law SumfileMatches answers true at every input and leaves its arguments as they were.
  Conditions: those of the given row alone (the listed variables of the library read as the program's text lays them; the card ties that).
-/
import Derived.Test.YthcafeoamabkgaaGreatDoorCards
import Derived.Test.YthcafeoamabkgaaGreatDoorTie
import Derived.Test.YthcafeoamabkgaaGreatDoorMatches
import Derived.Test.YthcafeoamabkgaaGreatDoorOpenT
import Derived.ProofKit
import Derived.OpenShut
import Derived.LaidMore
import Derived.Lay
import Derived.SevenTiedAt
import Derived.Stop.Joined
import Derived.Deep.DeepHandedRow
import Derived.ChangeOld
import Derived.HandedShaped
import Derived.LaidSub
import Derived.MakeChecks
import Derived.ChangeMaps5
namespace Go.Proofs.YthcafeoamabkgaaGreatDoor
open Go.ChangeShapes Go.WideShapes Go.ChangeAt Go.ChangeMaps Go.RowKit

theorem laidOut7 : laidOutB Tryz.prog = true := by kernel_rfl
theorem own7 : ownKnob Tryz.prog.godebug = none := by kernel_rfl
theorem gTab7 : Tryz.prog.globalNamed "internal/strconv.uint64pow10" = some 5 := by kernel_rfl
theorem gType7 : (Tryz.prog.globals[5]?).map (·.type) = some 292 := by kernel_rfl
theorem cellsA7 : Tryz.prog.cellsOf 292 = 20 := by kernel_rfl
theorem cellsE7 : Tryz.prog.cellsOf 223 = 1 := by kernel_rfl
/-- What the row's list gives: the table of powers. -/
theorem table7 {W : World} (h : laidMetH Tryz.prog Rows.sumfileMatchesRow.laid W) : Lib.TabIs Tryz.prog W "internal/strconv.uint64pow10" .u64 Lib.pow10Tab := by
  have h1 := laidMetH.filter (fun x => x.1 == "internal/strconv.uint64pow10") h
  have e : Rows.sumfileMatchesRow.laid.filter (fun x => x.1 == "internal/strconv.uint64pow10") = [("internal/strconv.uint64pow10", Lib.tabData .u64 Lib.pow10Tab)] := by kernel_rfl
  rw [e, MakeChecks.laidMetH_plain _ _ _ (by kernel_rfl)] at h1
  exact Lib.tabIs_of_head (rest := []) gTab7 gType7 Tryz.underlying292 Tryz.underlying223 cellsE7 cellsA7 h1
theorem good7 {W : World} (h : laidMetH Tryz.prog Rows.sumfileMatchesRow.laid W) (hs : W.ShapedOpen Tryz.prog) : Gd W := ⟨Tryz.laysM145.s1_3 W hs, table7 h⟩

theorem matchesLaw_any {w : World} {a : Option Addr} {n c cp : Nat} {list pat t : Str} (hg : Gd w) (h : (a = none ∧ n = 0 ∧ cp = 0) ∨ ∃ (B O : Nat) (ps : List Str), a = some ⟨B, O, none⟩ ∧ n = ps.length ∧ B < w.heap.size ∧ ps.length ≤ 9223372036854775807 ∧ ∀ k (hk : k < ps.length), w.cell? ⟨B, O + k, none⟩ = some (.string (ba ps[k]))) :
    Calls Tryz.prog 7 #[.string (ba list), .string (ba pat), .string (ba t), .slice a n c] w fun e w' => e = .returned (.bool true) ∧ Below w.heap.size w w' := by
  by_cases hout : 1200 < list.length ∨ 1000 < pat.length ∨ 1000 < t.length ∨ 30 < n
  · exact matches_out hg hout
  · have h1 : list.length ≤ 1200 := Nat.le_of_not_lt fun e => hout (Or.inl e)
    have h2 : pat.length ≤ 1000 := Nat.le_of_not_lt fun e => hout (Or.inr (Or.inl e))
    have h3 : t.length ≤ 1000 := Nat.le_of_not_lt fun e => hout (Or.inr (Or.inr (Or.inl e)))
    have h4 : n ≤ 30 := Nat.le_of_not_lt fun e => hout (Or.inr (Or.inr (Or.inr e)))
    rcases h with ⟨rfl, rfl, _⟩ | ⟨B, O, ps, rfl, rfl, _, _, hc⟩
    · exact matches_in (ts := []) hg ⟨Or.inl rfl⟩ rfl h1 h2 h3 h4
    · exact matches_in (ts := ps) hg ⟨Or.inr ⟨B, O, rfl, hc⟩⟩ rfl h1 h2 h3 h4

set_option maxRecDepth 100000 in
theorem sumfileMatches_contract (H : Type) (enc : TypeId × Value → H) (W : World) (base : Nat) (args : Array Value) (ds gs : List (DataW H)) (before : List MemPlace)
    (hval : ∀ (j : Nat) t v, Tryz.f7.params[j]? = some t → args[j]? = some v → Value.okWide Tryz.prog W .any base t v)
    (hW : DataW.Whole enc Tryz.prog Tryz.f7.params.toList Rows.sumfileMatchesSpec.vars false W args.toList ds gs before) (hL : laidMetH Tryz.prog Rows.sumfileMatchesRow.laid W) (hsh : W.ShapedOpen Tryz.prog) :
    Calls Tryz.prog 7 args W fun e W' => ∃ v, e = .returned v ∧ Rows.sumfileMatchesSpec.post enc Tryz.prog Tryz.f7 false true false false W args v W' := by
  have hW' := hW
  obtain ⟨p, q, hA0, hV, rfl, _, _⟩ := hW
  have hA : DataW.TrodAll enc Tryz.prog W 0 (fun _ => true) true Tryz.f7.params.toList args.toList ds p := hA0
  rw [Tryz.params7] at hA hval
  obtain ⟨v0, vs0, d0, ds0, p0, q0, hargs, rfl, rfl, h0, r0⟩ := trodAll_cons hA
  obtain ⟨v1, vs1, d1, ds1, p1, q1, rfl, rfl, rfl, h1, r1⟩ := trodAll_cons r0
  obtain ⟨v2, vs2, d2, ds2, p2, q2, rfl, rfl, rfl, h2, r2⟩ := trodAll_cons r1
  obtain ⟨v3, vs3, d3, ds3, p3, q3, rfl, rfl, rfl, h3, r3⟩ := trodAll_cons r2
  obtain ⟨rfl, rfl, rfl⟩ := trodAll_nil r3
  obtain rfl : args = #[v0, v1, v2, v3] := by cases args; simp_all
  obtain ⟨rfl, rfl⟩ := trodVars_none hV
  obtain ⟨a0, rfl, rfl, rfl, w0⟩ := open_string Tryz.underlying9 (hval 0 9 v0 rfl rfl) h0
  obtain ⟨a1, rfl, rfl, rfl, w1⟩ := open_string Tryz.underlying9 (hval 1 9 v1 rfl rfl) h1
  obtain ⟨a2, rfl, rfl, rfl, w2⟩ := open_string Tryz.underlying9 (hval 2 9 v2 rfl rfl) h2
  obtain ⟨a3, len3, cap3, rfl⟩ := okWide_slice Tryz.underlying69 (hval 3 69 v3 rfl rfl)
  have k3 := h3
  have lt3 : ∀ x ∈ p3, x.block < W.heap.size := by obtain ⟨m, hm⟩ := k3; exact DataW.trod_lt m _ _ _ hm
  have op3 := open_texts (hval 3 69 _ rfl rfl) h3
  have hwalk : Calls Tryz.prog 7 #[.string a0, .string a1, .string a2, .slice a3 len3 cap3] W fun e w' => e = .returned (.bool true) ∧ Below W.heap.size W w' := by
    have hw := matchesLaw_any (c := cap3) (list := a0.data.toList) (pat := a1.data.toList) (t := a2.data.toList) (good7 hL hsh) op3
    rw [ba_of] at hw
    rw [ba_of] at hw
    rw [ba_of] at hw
    exact hw
  clear hA0
  refine hwalk.mono fun e W' ⟨he, bel⟩ => ?_
  subst he
  exact ⟨_, rfl, _, _, _, [], _, [], hW', trodAll_mk1 (shut_bool Tryz.underlying4 _), (trodAll_cons_mk (shut_string Tryz.underlying9 w0) (trodAll_cons_mk (shut_string Tryz.underlying9 w1) (trodAll_cons_mk (shut_string Tryz.underlying9 w2) (trodAll_cons_mk (Below.trod laidOut7 (by kernel_rfl) (of_decide_eq_true (by kernel_rfl)) k3 bel lt3) trodAll_mk0)))), rfl, bel.frame _, fun h => by cases h⟩

theorem sumfileMatches_laid (os : Os) : laidMet Tryz.prog Rows.sumfileMatchesRow.laid ((World.laidAll Tryz.prog os Rows.sumfileMatchesRow.laid).forCall (fun _ _ => 0) ⟨#[], #[.string ⟨#[]⟩, .string ⟨#[]⟩, .string ⟨#[]⟩, .slice none 0 0], []⟩).memory :=
  laidMet_laidAll _ (by kernel_rfl) (by kernel_rfl)
theorem sumfileMatches_reads (os : Os) {H : Type} (enc : TypeId × Value → H) : ∃ places, DataW.whole enc Tryz.prog ((World.laidAll Tryz.prog os Rows.sumfileMatchesRow.laid).forCall (fun _ _ => 0) ⟨#[], #[.string ⟨#[]⟩, .string ⟨#[]⟩, .string ⟨#[]⟩, .slice none 0 0], []⟩).memory Tryz.f7.params.toList Rows.sumfileMatchesSpec.vars false #[Value.string ⟨#[]⟩, .string ⟨#[]⟩, .string ⟨#[]⟩, .slice none 0 0].toList 8 = some ([.lit (.string []), .lit (.string []), .lit (.string []), .nil], [], places) :=
  ⟨[], by kernel_rfl⟩

set_option maxRecDepth 100000 in
theorem sumfileMatches_lifted (os : Os) (started : os.Started) (H : Type) (enc : TypeId × Value → H) (F : Stop.Interp) :
    ReturnsInHanded {} Tryz.checked os 7 .any ((OpenSpec.ofChange Rows.sumfileMatchesSpec).preRow enc Tryz.prog Tryz.f7 Rows.sumfileMatchesRow.domain false Rows.sumfileMatchesRow.laid) (((OpenSpec.ofChange Rows.sumfileMatchesSpec).at F).post enc Tryz.prog Tryz.f7 false true false false) := by
  obtain ⟨places, hx⟩ := sumfileMatches_reads os enc
  refine returnsInHanded_of_row (C := Tryz.checked) (s := OpenSpec.ofChange Rows.sumfileMatchesSpec) own7 started (by kernel_rfl) Tryz.func7
    (witness_row_at (enc := enc) (C := Tryz.checked) false (World.laidAll Tryz.prog os Rows.sumfileMatchesRow.laid) #[.string ⟨#[]⟩, .string ⟨#[]⟩, .string ⟨#[]⟩, .slice none 0 0] (World.laidAll_os _ _ _) (by kernel_rfl) (by kernel_rfl) (by kernel_rfl)
      (OpenSpec.preRow_of_cond 8 hx (by kernel_rfl) (fun k hk => by cases hk) (by kernel_rfl) (sumfileMatches_laid os))) ?_
  intro W base args ds gs before hval hW _ _ _ hL hsh _
  exact sumfileMatches_contract H enc W base args ds gs before hval hW hL hsh

theorem sumfileMatches_row : Rows.SumfileMatchesSaid :=
  OpenClaim.holds_of_cond 7 Tryz.f7 rfl rfl rfl rfl rfl rfl rfl ⟨rfl, rfl, rfl, rfl, rfl⟩ rfl rfl rfl rfl rfl (by kernel_rfl) Tryz.func7 (by kernel_rfl)
    (of_decide_eq_true (by kernel_rfl)) (by unfold Func.isWrapper; first | (rw [if_pos (by decide +kernel)]; kernel_rfl) | (rw [if_neg (by decide +kernel)]; exact ⟨rfl, rfl⟩))
    (fun os started H enc _ F => by rw [OpenClaim.pre_eq_preRow]; exact sumfileMatches_lifted os started H enc F)

theorem sumfileMatches_card : Rows.SumfileMatchesCardSaid :=
  Claim7.holds_tied_plain_at .later [] _ _ _ _ sumfileMatches_row (fun _ h => by cases h) (by kernel_rfl) (fun _ h => by cases h) sumfileMatches_row_tie rfl ⟨rfl, rfl⟩ (by kernel_rfl) rfl
    (fun f fn hf hfn => by
      obtain rfl : f = 7 := Option.some.inj ((show Tryz.prog.funcNamed "mews/mewslaw5.SumfileMatches" = some 7 by kernel_rfl).symm.trans hf) |>.symm
      obtain rfl : fn = Tryz.f7 := (Option.some.inj (Tryz.func7.symm.trans hfn)).symm
      exact ⟨by kernel_rfl, fun j t ht => by
        rw [Tryz.params7] at ht
        have hm : t ∈ [9, 9, 9, 69] := by simpa using Array.mem_of_getElem? ht
        have hall : ([9, 9, 9, 69].all fun u => !Tryz.prog.wantsStandIn u) = true := by kernel_rfl
        exact (show Tryz.prog.wantsStandIn t = false by simpa using List.all_eq_true.1 hall t hm)⟩)
    (by kernel_rfl)
end Go.Proofs.YthcafeoamabkgaaGreatDoor
