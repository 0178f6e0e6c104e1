/-
  What a refused write leaves, and that the quota holds, in plain data.
-/
import Derived.Test.YtbdbobikiikbgaaDoorBudget
namespace Go.Proofs.YtbdbobikiikbgaaDoor
open Go.RowKit Go.WideMaps Go.Maps Go.Sort

/-- What a refused write leaves alone. -/
structure Unturned (s s' : AS) : Prop where
  names : s'.names = s.names
  durable : s'.durable = s.durable
  files : s'.files = s.files
  steps : s'.steps = s.steps
  size : s'.size = s.size
  quota : s'.quota = s.quota

theorem begin_err {s : AS} {own : Int} (h : beginE s own ≠ 0) : Unturned s (beginS s own) := by
  unfold beginE at h
  unfold beginS
  by_cases h1 : s.down = true
  · rw [if_pos h1]; exact ⟨rfl, rfl, rfl, rfl, rfl, rfl⟩
  · rw [if_neg h1] at h ⊢
    by_cases h2 : own = 0
    · rw [if_pos h2] at h ⊢
      by_cases h3 : s.armed = 1
      · rw [if_pos h3]; exact ⟨rfl, rfl, rfl, rfl, rfl, rfl⟩
      · rw [if_neg h3] at h; exact absurd rfl h
    · rw [if_neg h2]; exact ⟨rfl, rfl, rfl, rfl, rfl, rfl⟩

theorem told_err {s : AS} {o : AOp} (h : (toldR s o).1 ≠ 0) : Unturned s (toldR s o).2 := by
  have key : ∀ (E : Int) (X : AS), (if beginE s E = 0 then ((0 : Int), X) else (beginE s E, beginS s E)).1 ≠ 0 → Unturned s (if beginE s E = 0 then ((0 : Int), X) else (beginE s E, beginS s E)).2 := by
    intro E X h
    by_cases hE : beginE s E = 0
    · rw [if_pos hE] at h; exact absurd rfl h
    · rw [if_neg hE]; exact begin_err hE
  unfold toldR at h ⊢
  by_cases e0 : o.kind = 0
  · simp only [if_pos e0] at h ⊢; exact key _ _ h
  simp only [if_neg e0] at h ⊢
  by_cases e1 : o.kind = 1
  · simp only [if_pos e1] at h ⊢; exact key _ _ h
  simp only [if_neg e1] at h ⊢
  by_cases e2 : o.kind = 2
  · simp only [if_pos e2] at h ⊢; exact key _ _ h
  simp only [if_neg e2] at h ⊢
  by_cases e3 : o.kind = 3
  · simp only [if_pos e3] at h ⊢; exact key _ _ h
  simp only [if_neg e3] at h ⊢
  by_cases e4 : o.kind = 4
  · simp only [if_pos e4] at h ⊢; exact key _ _ h
  simp only [if_neg e4] at h ⊢
  by_cases e5 : o.kind = 5
  · simp only [if_pos e5] at h ⊢; exact key _ _ h
  simp only [if_neg e5] at h ⊢
  by_cases e6 : o.kind = 6
  · simp only [if_pos e6] at h; exact absurd rfl h
  simp only [if_neg e6] at h ⊢
  by_cases e7 : o.kind = 7
  · simp only [if_pos e7] at h; exact absurd rfl h
  simp only [if_neg e7] at h
  exact absurd rfl h

theorem begin_quota (s : AS) (own : Int) : (beginS s own).quota = s.quota ∧ (beginS s own).size = s.size := by
  unfold beginS
  split
  · exact ⟨rfl, rfl⟩
  · split
    · split <;> exact ⟨rfl, rfl⟩
    · exact ⟨rfl, rfl⟩

theorem alter_size (s : AS) (c : Chg) : (alterS s c).size ≤ s.size := by
  show (match s.files (c.old s.names) with | none => s.size | some f => s.size - f.data.length) ≤ s.size
  rcases s.files (c.old s.names) with _ | f
  · exact Int.le_refl _
  · show s.size - (f.data.length : Int) ≤ s.size; omega

theorem told_quota (s : AS) (o : AOp) : (toldR s o).2.quota = s.quota := by
  have key : ∀ (E : Int) (X : AS), X.quota = s.quota → (if beginE s E = 0 then ((0 : Int), X) else (beginE s E, beginS s E)).2.quota = s.quota := by
    intro E X h
    split
    · exact h
    · exact (begin_quota s E).1
  unfold toldR
  split
  · exact key _ _ (begin_quota s _).1
  split
  · refine key _ _ ?_
    split
    · exact (begin_quota s _).1
    · rfl
  split
  · refine key _ _ ?_
    split
    · exact (begin_quota s _).1
    · rfl
  split
  · refine key _ _ ?_
    unfold renamedS
    split
    · exact (begin_quota s _).1
    · exact (begin_quota s _).1
  split
  · exact key _ _ (begin_quota s _).1
  split
  · exact key _ _ (begin_quota s _).1
  split
  · rfl
  split
  · rfl
  · rfl

theorem told_size {s : AS} {k B : Nat} (ok : OK s k B) (o : AOp) (h7 : o.kind ≠ 7) (hq : s.size ≤ s.quota) : (toldR s o).2.size ≤ s.quota := by
  have key : ∀ (E : Int) (X : AS), (beginE s E = 0 → X.size ≤ s.quota) → (if beginE s E = 0 then ((0 : Int), X) else (beginE s E, beginS s E)).2.size ≤ s.quota := by
    intro E X h
    split
    · rename_i hE; exact h hE
    · show (beginS s E).size ≤ s.quota
      rw [(begin_quota s E).2]; exact hq
  unfold toldR
  split
  · refine key _ _ (fun hE => ?_)
    have h0 := (begin_zero hE).1
    have hd := begin_done hE
    rw [hd]
    have hn : num s.names o.name ≠ s.newest + 1 := by
      intro e
      have h1 := ok.wf.new0
      have := (ok.wf.good.ub o.name (by omega)).2.1
      omega
    show (match (if num s.names o.name = s.newest + 1 then some (⟨o.b, 0⟩ : AF) else s.files (num s.names o.name)) with | none => s.size + (o.b.length : Int) | some f => s.size + (o.b.length : Int) - f.data.length) ≤ s.quota
    rw [if_neg hn]
    unfold writeE at h0
    split at h0
    · rcases hf : s.files (num s.names o.name) with _ | f
      · rw [hf] at h0
        show s.size + (o.b.length : Int) ≤ s.quota
        by_cases hc : s.quota < s.size + (o.b.length : Int) ∨ 4000 < (Maps.size s.names : Int) + 1
        · simp only [if_pos hc] at h0; cases h0
        · omega
      · rw [hf] at h0
        show s.size + (o.b.length : Int) - (f.data.length : Int) ≤ s.quota
        by_cases hc : s.quota < s.size + (o.b.length : Int) - (f.data.length : Int) ∨ 4000 < (Maps.size s.names : Int)
        · simp only [if_pos hc] at h0; cases h0
        · omega
    · cases h0
  split
  · refine key _ _ (fun hE => ?_)
    have h0 := (append_zero (begin_zero hE).1).2
    split
    · show (beginS s _).size + (o.b.length : Int) ≤ s.quota
      rw [(begin_quota s _).2]; exact h0
    · exact hq
  split
  · refine key _ _ (fun hE => ?_)
    split
    · show (beginS s _).size ≤ s.quota
      rw [(begin_quota s _).2]; exact hq
    · exact hq
  split
  · refine key _ _ (fun hE => ?_)
    unfold renamedS
    split
    · rw [(begin_quota s _).2]; exact hq
    · have := alter_size (beginS s (renameE s o.name o.tgt)) (.move o.name o.tgt)
      rw [(begin_quota s _).2] at this; omega
  split
  · refine key _ _ (fun hE => ?_)
    have := alter_size (beginS s (noneE s o.name)) (.drop o.name)
    rw [(begin_quota s _).2] at this; omega
  split
  · refine key _ _ (fun hE => ?_)
    show (beginS s _).size ≤ s.quota
    rw [(begin_quota s _).2]; exact hq
  split
  · exact hq
  · exact hq

end Go.Proofs.YtbdbobikiikbgaaDoor
