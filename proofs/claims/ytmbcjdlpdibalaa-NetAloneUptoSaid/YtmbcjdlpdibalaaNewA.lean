/-
  Add at every input.
-/
import Derived.Test.YtmbcjdlpdibalaaAddD
import Derived.Test.YtmbcjdlpdibalaaNewP
namespace Go.Proofs.Ytmbcjdlpdibalaa
open Go.RowKit Go.WideMaps Go.Maps Go.MuLone

/-- What Add answers. -/
def AddSaid (G : Gh) (w : World) (r : Except Int St) (e : Ending) (w' : World) : Prop :=
  match r with
  | .error z => e = .returned (.int .i64 z) ∧ z ≠ 0 ∧ Below w.heap.size w w'
  | .ok s' => e = .returned (.int .i64 0) ∧ Rep w' { G with hi := w'.heap.size } s' ∧ Fr2 G.F G.T w w'

theorem add_any {w : World} {G : Gh} {s : St} {f : Fa} {a : Option Addr} {n c : Nat} (h : Rep w G s) (hn : s.n ≤ 1000000) (hu : f.u.size ≤ maxLen) (hkd : (Lit.int .i64 f.kd).wf = true) (hkw : (Lit.int .i64 f.k).wf = true) (hmw : (Lit.int .i64 f.m).wf = true) (hl : Bytes w a n f.l) (hnl : n ≤ 1099511627776) (hne : ∀ ad, a = some ad → 0 < n → ad.block ≠ G.F) :
    Calls Try.prog 24 #[.pointer (some ⟨G.F, 0, none⟩), .agg #[.string f.u, .int .i64 f.k, .int .i64 f.kd, .int .i64 f.m, .slice a n c]] w (AddSaid G w (stepF s f)) := by
  cases hv : validB f.u with
  | false =>
    have e1 : stepF s f = .error 13 := by simp [stepF, hv]
    rw [e1]
    exact (add_long hv hu).mono fun e w' ⟨h1, h2⟩ => ⟨h1, by decide, h2⟩
  | true =>
    cases hef : effOf f.kd f.m.toNat f.l with
    | none =>
      have e1 : stepF s f = .error 7 := by simp [stepF, hv, hef]
      rw [e1]
      refine (add_kind hv hu hkd fun B => ?_).mono fun e w' ⟨h1, h2⟩ => ⟨h1, by decide, h2⟩
      have := kind_eff B f.kd f.m.toNat f.l
      rw [hef] at this
      simpa using this
    | some ef =>
      by_cases hr : f.k < 1 ∨ f.m < 0
      · have e1 : stepF s f = .error 6 := by simp [stepF, hv, hef, hr]
        rw [e1]
        refine (add_range hv hu hkd (fun B => ?_) hr).mono fun e w' ⟨h1, h2⟩ => ⟨h1, by decide, h2⟩
        have := kind_eff B f.kd f.m.toNat f.l
        rw [hef] at this
        cases hq : kindOf B f.kd with
        | none => rw [hq] at this; cases this
        | some x => exact ⟨x.1, x.2.1, x.2.2, rfl⟩
      · obtain ⟨m, hm⟩ : ∃ m : Nat, f.m = (m : Int) := ⟨f.m.toNat, by omega⟩
        have hm2 : m ≤ 9223372036854775807 := by
          rw [hm] at hmw
          simp [Lit.wf, IntKind.min, IntKind.max, IntKind.signed, IntKind.bits] at hmw
          omega
        have hef2 : effOf f.kd m f.l = some ef := by rw [hm] at hef; simpa using hef
        rw [hm]
        refine (add_in h hn hv hu hkd hef2 (by omega) hkw hm2 hl hnl hne).mono fun e w' hq => ?_
        rcases hq with ⟨h1, h2, h3⟩ | ⟨h1, h2, h3, h4⟩
        · have e1 : stepF s f = .error 3 := by
            cases hx : s.ft f.u f.k with
            | none => exact absurd hx h1
            | some x => simp [stepF, hv, hef, hr, hx]
          rw [e1]
          exact ⟨h2, by decide, h3⟩
        · have e1 : stepF s f = .ok (addS s f.u f.k ef) := by simp [stepF, hv, hef, hr, h1]
          rw [e1]
          exact ⟨h2, h3, h4⟩

end Go.Proofs.Ytmbcjdlpdibalaa
