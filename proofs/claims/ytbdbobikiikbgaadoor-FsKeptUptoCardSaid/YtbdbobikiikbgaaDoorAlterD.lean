/-
  The contract of alter at whatever change.
-/
import Derived.Test.YtbdbobikiikbgaaDoorAlterA
import Derived.Test.YtbdbobikiikbgaaDoorAlterB
import Derived.Test.YtbdbobikiikbgaaDoorAlterC
namespace Go.Proofs.YtbdbobikiikbgaaDoor
open Go.RowKit Go.WideMaps Go.Maps

/-- What a file system's tables and files keep to. -/
structure Inv (s : AS) : Prop where
  names : ∀ name, num s.names name ≠ 0 → s.files (num s.names name) ≠ none
  durable : ∀ name, num s.durable name ≠ 0 → s.files (num s.durable name) ≠ none
  zero : s.files 0 = none
  len : ∀ n f, s.files n = some f → f.data.length ≤ 1099511627776

theorem old_num (D : DataW Unit) (c : Chg) : ∃ name, c.old D = num D name := by
  cases c with
  | put s x => exact ⟨s, rfl⟩
  | move fr tgt => exact ⟨tgt, rfl⟩
  | drop s => exact ⟨s, rfl⟩

theorem old_wf {w : World} {role : Nat → Option Role} {c : Chg} {v : Value} {N n : Nat} {D : DataW Unit} (h : ChgAt w role c v) (hT : Tab w N n D) : (Lit.int .i64 (c.old D)).wf = true := by
  cases c with
  | put s x => obtain ⟨_, _, _, _, _, _, _, h6, _⟩ := h; exact (hT.num s h6).2
  | move fr tgt => obtain ⟨_, _, _, _, _, _, _, h6, _⟩ := h; exact (hT.num tgt h6).2
  | drop s => obtain ⟨_, _, _, _, h6⟩ := h; exact (hT.num s h6).2

theorem alter_rep {w : World} {G : Lie} {s : AS} (c : Chg) {v : Value} (h : Rep w G s) (hb : Bd s) (hi : Inv s) (hc : ChgAt w G.role c v) :
    Calls Tryd.prog 42 #[.pointer (some ⟨G.F, 0, none⟩), .agg #[.string c.dir, v]] w fun e w' => ∃ G', e = .returned (.tuple #[]) ∧ Rep w' G' (alterS s c) ∧ Fr G.role w w' ∧ G'.F = G.F ∧ ∀ b, b < w.heap.size → G'.role b = G.role b := by
  have hwf := old_wf hc h.tN
  obtain ⟨g, caps, hv, hdo⟩ := do_any hc
  have key : c.old s.names = 0 ∧ s.files (c.old s.names) = none ∨ ¬ c.old s.names = 0 ∧ ∃ f, s.files (c.old s.names) = some f := by
    by_cases e : c.old s.names = 0
    · exact Or.inl ⟨e, by rw [e]; exact hi.zero⟩
    · obtain ⟨name, hn⟩ := old_num s.names c
      refine Or.inr ⟨e, ?_⟩
      cases hf : s.files (c.old s.names) with
      | none => rw [hn] at e hf; exact absurd hf (hi.names name e)
      | some f => exact ⟨f, rfl⟩
  cases c with
  | put s' x =>
    obtain ⟨Bs, Bi, rfl, _⟩ := id hc
    simp only [Value.func.injEq, Fn.func.injEq] at hv
    obtain ⟨rfl, _, rfl⟩ := hv
    rcases key with ⟨h1, h2⟩ | ⟨h1, f, h2⟩
    · exact alter_61_none _ _ _ h hb rfl hc hdo h1 h2
    · exact alter_61_some _ _ _ h hb rfl hc hdo h1 hwf f h2 (hi.len _ f h2)
  | move fr tgt =>
    obtain ⟨Bs, Bi, rfl, _⟩ := id hc
    simp only [Value.func.injEq, Fn.func.injEq] at hv
    obtain ⟨rfl, _, rfl⟩ := hv
    rcases key with ⟨h1, h2⟩ | ⟨h1, f, h2⟩
    · exact alter_63_none _ _ _ h hb rfl hc hdo h1 h2
    · exact alter_63_some _ _ _ h hb rfl hc hdo h1 hwf f h2 (hi.len _ f h2)
  | drop s' =>
    obtain ⟨Bs, rfl, _⟩ := id hc
    simp only [Value.func.injEq, Fn.func.injEq] at hv
    obtain ⟨rfl, _, rfl⟩ := hv
    rcases key with ⟨h1, h2⟩ | ⟨h1, f, h2⟩
    · exact alter_72_none _ _ h hb rfl hc hdo h1 h2
    · exact alter_72_some _ _ h hb rfl hc hdo h1 hwf f h2 (hi.len _ f h2)

end Go.Proofs.YtbdbobikiikbgaaDoor
