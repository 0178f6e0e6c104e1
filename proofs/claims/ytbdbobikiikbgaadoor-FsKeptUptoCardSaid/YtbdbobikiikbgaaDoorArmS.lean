/-
  What arming does, in plain data.
-/
import Derived.Test.YtbdbobikiikbgaaDoorBudget
namespace Go.Proofs.YtbdbobikiikbgaaDoor
open Go.RowKit Go.WideMaps Go.Maps Go.Sort

def arm (s : AS) (a : Int) : AS := { s with armed := a }

/-- An armed file system beside one that is not: nothing is done by either; or both do it; or the armed one goes down. -/
def ArmStep (s : AS) (a : Int) (R1 R2 : Int × AS) : Prop :=
  (∃ e, R1 = (e, s) ∧ R2 = (e, arm s a)) ∨
  ∃ s', R1 = (0, s') ∧ s'.armed = 0 ∧ s'.down = false ∧ s'.steps = s.steps + 1 ∧ (a = 1 → R2 = (5, { s with armed := 0, down := true })) ∧ (2 ≤ a → R2 = (0, arm s' (a - 1)))

theorem op_arm {s : AS} {a : Int} {R1 R2 : Int × AS} (E : Int) (X : AS → AS) (h1 : R1 = if beginE s E = 0 then (0, X (beginS s E)) else (beginE s E, beginS s E))
    (h2 : R2 = if beginE (arm s a) E = 0 then (0, X (beginS (arm s a) E)) else (beginE (arm s a) E, beginS (arm s a) E)) (ha : s.armed = 0) (hd : s.down = false)
    (xa : ∀ s' b, X (arm s' b) = arm (X s') b) (xs : ∀ s', (X s').steps = s'.steps) (xb : ∀ s', (X s').armed = s'.armed) (xd : ∀ s', (X s').down = s'.down) : ArmStep s a R1 R2 := by
  by_cases hE : E = 0
  · subst hE
    right
    have b1 : beginE s 0 = 0 := by simp [beginE, hd, ha]
    have b2 : beginS s 0 = { s with armed := 0, steps := s.steps + 1 } := by simp [beginS, hd, ha]; rfl
    rw [b1, b2, if_pos rfl] at h1
    refine ⟨_, h1, (xb _).trans rfl, (xd _).trans hd, xs _, fun e1 => ?_, fun e2 => ?_⟩
    · subst e1
      have c1 : beginE (arm s 1) 0 = 5 := by simp [beginE, arm, hd]
      have c2 : beginS (arm s 1) 0 = { s with armed := 0, down := true } := by simp [beginS, arm, hd]
      rw [c1, c2, if_neg (by decide)] at h2
      exact h2
    · have hne : ¬ a = 1 := by omega
      have c1 : beginE (arm s a) 0 = 0 := by simp [beginE, arm, hd, hne]
      have c2 : beginS (arm s a) 0 = arm { s with armed := 0, steps := s.steps + 1 } (a - 1) := by
        simp only [beginS, arm, hd, hne, if_false, if_true]
        have : max (a - 1) 0 = a - 1 := by omega
        rw [this]; rfl
      rw [c1, c2, if_pos rfl, xa] at h2
      exact h2
  · left
    have b1 : beginE s E = E := by simp [beginE, hd, hE]
    have b2 : beginS s E = s := by simp [beginS, hd, hE]
    have c1 : beginE (arm s a) E = E := by simp [beginE, arm, hd, hE]
    have c2 : beginS (arm s a) E = arm s a := by simp [beginS, arm, hd, hE]
    rw [b1, b2, if_neg hE] at h1
    rw [c1, c2, if_neg hE] at h2
    exact ⟨E, h1, h2⟩

theorem told_arm {s : AS} {a : Int} (o : AOp) (hi : Inv s) (ha : s.armed = 0) (hd : s.down = false) (h5 : o.kind ≤ 5) : ArmStep s a (toldR s o) (toldR (arm s a) o) := by
  unfold toldR
  by_cases e0 : o.kind = 0
  · rw [if_pos e0, if_pos e0]
    exact op_arm (writeE s o.name o.b.length) (fun s' => wroteS s' o.name o.b) rfl rfl ha hd (fun _ _ => rfl) (fun _ => rfl) (fun _ => rfl) (fun _ => rfl)
  rw [if_neg e0, if_neg e0]
  by_cases e1 : o.kind = 1
  · rw [if_pos e1, if_pos e1]
    by_cases hf : num s.names o.name = 0
    · have hE : appendE s o.name o.b.length = 2 := by unfold appendE; rw [if_pos hf]
      refine op_arm (appendE s o.name o.b.length) id ?_ ?_ ha hd (fun _ _ => rfl) (fun _ => rfl) (fun _ => rfl) (fun _ => rfl)
      · have : beginE s 2 ≠ 0 := by simp [beginE, hd]
        unfold appendR; rw [hE, if_neg this, if_neg this]
      · have : beginE (arm s a) 2 ≠ 0 := by simp [beginE, arm, hd]
        unfold appendR
        rw [show appendE (arm s a) o.name o.b.length = 2 from hE, hE, if_neg this, if_neg this]
    · obtain ⟨f, hf2⟩ := hi.get hf
      refine op_arm (appendE s o.name o.b.length) (fun s' => appendedS s' (num s.names o.name) f o.b) ?_ ?_ ha hd (fun _ _ => rfl) (fun _ => rfl) (fun _ => rfl) (fun _ => rfl)
      · unfold appendR; rw [hf2]
      · unfold appendR
        rw [show (arm s a).files (num (arm s a).names o.name) = some f from hf2]; rfl
  rw [if_neg e1, if_neg e1]
  by_cases e2 : o.kind = 2
  · rw [if_pos e2, if_pos e2]
    by_cases hf : num s.names o.name = 0
    · have hE : noneE s o.name = 2 := by unfold noneE; rw [if_pos hf]
      refine op_arm (noneE s o.name) id ?_ ?_ ha hd (fun _ _ => rfl) (fun _ => rfl) (fun _ => rfl) (fun _ => rfl)
      · have : beginE s 2 ≠ 0 := by simp [beginE, hd]
        unfold syncR; rw [hE, if_neg this, if_neg this]
      · have : beginE (arm s a) 2 ≠ 0 := by simp [beginE, arm, hd]
        unfold syncR
        rw [show noneE (arm s a) o.name = 2 from hE, hE, if_neg this, if_neg this]
    · obtain ⟨f, hf2⟩ := hi.get hf
      refine op_arm (noneE s o.name) (fun s' => setFile s' (num s.names o.name) ⟨f.data, f.data.length⟩) ?_ ?_ ha hd (fun _ _ => rfl) (fun _ => rfl) (fun _ => rfl) (fun _ => rfl)
      · unfold syncR; rw [hf2]
      · unfold syncR
        rw [show (arm s a).files (num (arm s a).names o.name) = some f from hf2]; rfl
  rw [if_neg e2, if_neg e2]
  by_cases e3 : o.kind = 3
  · rw [if_pos e3, if_pos e3]
    refine op_arm (renameE s o.name o.tgt) (fun s' => renamedS s' o.name o.tgt) rfl rfl ha hd (fun s' b => ?_) (fun s' => ?_) (fun s' => ?_) (fun s' => ?_)
    · simp only [renamedS]; split <;> rfl
    · simp only [renamedS]; split <;> rfl
    · simp only [renamedS]; split <;> rfl
    · simp only [renamedS]; split <;> rfl
  rw [if_neg e3, if_neg e3]
  by_cases e4 : o.kind = 4
  · rw [if_pos e4, if_pos e4]
    exact op_arm (noneE s o.name) (fun s' => alterS s' (.drop o.name)) rfl rfl ha hd (fun _ _ => rfl) (fun _ => rfl) (fun _ => rfl) (fun _ => rfl)
  rw [if_neg e4, if_neg e4]
  by_cases e5 : o.kind = 5
  · rw [if_pos e5, if_pos e5]
    exact op_arm (syncDirE o.name) (fun s' => settleS s' (lastOf o.name s.pending s.pending.length)) rfl rfl ha hd (fun _ _ => rfl) (fun _ => rfl) (fun _ => rfl) (fun _ => rfl)
  rw [if_neg e5, if_neg e5, if_neg (by omega), if_neg (by omega), if_neg (by omega), if_neg (by omega)]
  exact Or.inl ⟨0, rfl, rfl⟩

theorem OK.arm {s : AS} {k B : Nat} (h : OK s k B) (a : Int) (h0 : 0 ≤ a) (h1 : a ≤ 9223372036854775807) : OK (arm s a) k B :=
  ⟨⟨h.wf.chain, h.wf.names, h.wf.zero, h.wf.new0⟩, h.q0, h.q1, h.n1, h.z0, h.z1, h.t0, h.t1, h0, h1, h.mD, h.mN, h.fl⟩

end Go.Proofs.YtbdbobikiikbgaaDoor
