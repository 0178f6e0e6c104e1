/-
  The contract of SyncDir.
-/
import Derived.Test.YtbdbobikiikbgaaDoorSettleX
namespace Go.Proofs.YtbdbobikiikbgaaDoor
open Go.RowKit Go.WideMaps Go.Maps

theorem syncDir_err {w : World} {G : Lie} {s : AS} (h : Rep w G s) (hb : Bd s) (d : ByteArray) (hd : d.size ≤ maxLen) (hE : beginE s (syncDirE d) ≠ 0) :
    Calls Tryd.prog 16 #[.pointer (some ⟨G.F, 0, none⟩), .string d] w fun e w' => e = .returned (.int .i64 (beginE s (syncDirE d))) ∧ Rep w' G (beginS s (syncDirE d)) ∧ Fr G.role w w' := by
  obtain ⟨m, hm⟩ := h.glob
  have HN := hide (syncDirErr_any d w m hd hm)
  have HBG : Hid (∀ w1, Below w.heap.size w w1 → _) := fun w1 hbl => begin_rep (h.below hbl) hb (syncDirE d)
  have hne : (beginE s (syncDirE d) != 0) = true := by simp [hE]
  clear h hb hE hm
  go_enter Tryd.func16, Tryd.ntmps16
  go_wp2_with (first
    | (go_at_call 46; refine (unhide HN).mono ?_; rintro e w1 ⟨rfl, hbl⟩)
    | (go_at_call 39; refine (unhide HBG _ hbl).mono ?_; rintro e w2 ⟨rfl, hR2, hF2⟩))
  go_ret
  exact ⟨rfl, hR2, (Fr.of_below hbl).trans hF2 (fun _ _ => rfl)⟩

/-- How many of the pending changes are made durable: up to the last one of that directory. -/
def lastOf (d : ByteArray) (l : List Chg) : Nat → Nat
  | 0 => 0
  | k + 1 => match l[k]? with
    | some c => if c.dir.data.toList = d.data.toList then k + 1 else lastOf d l k
    | none => lastOf d l k

theorem lastOf_le (d : ByteArray) (l : List Chg) : ∀ k, lastOf d l k ≤ k
  | 0 => Nat.le_refl _
  | k + 1 => by
    unfold lastOf
    split
    · split
      · exact Nat.le_refl _
      · exact Nat.le_succ_of_le (lastOf_le d l k)
    · exact Nat.le_succ_of_le (lastOf_le d l k)

set_option maxRecDepth 100000 in
set_option maxHeartbeats 2000000 in
theorem syncDir_ok {w : World} {G : Lie} {s : AS} (h : Rep w G s) (hb : Bd s) (d : ByteArray) (hd : d.size ≤ maxLen) (hE : beginE s (syncDirE d) = 0) (r3 : s.steps + 1 ≤ 1099511627776) :
    Calls Tryd.prog 16 #[.pointer (some ⟨G.F, 0, none⟩), .string d] w fun e w' => ∃ G', e = .returned (.int .i64 0) ∧ Rep w' G' (settleS (beginS s (syncDirE d)) (lastOf d s.pending s.pending.length)) ∧ Went w G w' G' := by
  obtain ⟨m, hm⟩ := h.glob
  have HN := hide (syncDirErr_any d w m hd hm)
  have hbd := hb.begin (syncDirE d) r3
  have HBG : Hid (∀ w1, Below w.heap.size w w1 → Calls Tryd.prog 39 #[.pointer (some ⟨G.F, 0, none⟩), .int .i64 (syncDirE d)] w1 fun e w' => e = .returned (.int .i64 0) ∧ Rep w' G (beginS s (syncDirE d)) ∧ Fr G.role w w') := by
    intro w1 hbl
    have := begin_rep (h.below hbl) hb (syncDirE d)
    rw [hE] at this
    exact this.mono (fun e w' ⟨h1, h2, h3⟩ => ⟨h1, h2, (Fr.of_below hbl).trans h3 (fun _ _ => rfl)⟩)
  have hs2 := begin_done hE
  obtain ⟨s2, hs⟩ : ∃ s2, s2 = beginS s (syncDirE d) := ⟨_, rfl⟩
  rw [← hs] at hbd HBG hs2 ⊢
  have ep : s2.pending = s.pending := by rw [hs2]
  rw [← ep]
  have hpl := hbd.mP
  have HBD := hide hbd
  clear h hb hE hm hs hs2 hbd ep
  go_enter Tryd.func16, Tryd.ntmps16
  go_wp2_with (first
    | (go_at_call 46; refine (unhide HN).mono ?_; rintro e w1 ⟨rfl, hbl⟩)
    | (go_at_call 39; refine (unhide HBG _ hbl).mono ?_; rintro e w2 ⟨rfl, hR2, hF2⟩; obtain ⟨pa, pc, hpv⟩ := row_form hR2.pend; have k5 : w2.cell? ⟨G.F, 5, none⟩ = some (.slice pa s2.pending.length pc) := by rw [← hpv]; exact cell_fs hR2.fsb rfl))
  have hS : Hid (∀ k, k ≤ s2.pending.length → Calls Tryd.prog 36 #[.pointer (some ⟨G.F, 0, none⟩), .int .i64 k] w2 fun e w' => ∃ G', e = .returned (.tuple #[]) ∧ Rep w' G' (settleS s2 k) ∧ Went w2 G w' G') :=
    fun k hk => settle_rep hR2 (unhide HBD) k hk
  have hC : Hid (∀ j, j < s2.pending.length → ∃ c g cap, s2.pending[j]? = some c ∧ pa = some ⟨g, 0, none⟩ ∧ pc = cap ∧ w2.cell? ⟨g, j * 2, none⟩ = some (.string c.dir)) := by
    intro j hj
    have hc : s2.pending[j]? = some s2.pending[j] := by simp
    obtain ⟨v, h1, h2, h3, h4⟩ := chg_get hR2.chg j _ hc
    obtain ⟨g, cap, e, hcl⟩ := row_cell hR2.pend h3
    rw [hpv] at e; simp at e
    exact ⟨_, g, cap, hc, e.1, e.2, hcl⟩
  have HF2 := hide hF2
  clear hR2 hF2 hpv
  go_loop [6] (fun i => ∃ k : Nat, k ≤ s2.pending.length ∧ i = .int .i64 k ∧ lastOf d s2.pending k = lastOf d s2.pending s2.pending.length) (fun i => (intOf i).toNat)
  case atStart => exact ⟨s2.pending.length, Nat.le_refl _, rfl, rfl⟩
  case round =>
    obtain ⟨k, hk, rfl, hlast⟩ := hrel
    have HL := hide hlast
    clear hlast
    cases k with
    | zero =>
      go_wp2_with (go_at_call 36; refine (unhide hS 0 (by omega)).mono ?_; rintro e w3 ⟨G3, rfl, hR3, hW3⟩)
      go_ret
      have e0 : lastOf d s2.pending s2.pending.length = 0 := (unhide HL).symm
      rw [e0]
      exact ⟨G3, rfl, hR3, (Went.of_fr (unhide HF2)).trans hW3⟩
    | succ j =>
      obtain ⟨c, g, cap, hc, rfl, rfl, hcl⟩ := unhide hC j (by omega)
      by_cases he : c.dir.data.toList = d.data.toList
      · have hq : (c.dir.toList == d.toList) = true := by rw [toList_data, toList_data, he]; simp
        have e1 : Hid (lastOf d s2.pending s2.pending.length = j + 1) := by
          show lastOf d s2.pending s2.pending.length = j + 1
          rw [← unhide HL]; simp [lastOf, hc, he]
        clear he hc
        go_wp2_with (go_at_call 36; refine (unhide hS (j + 1) (by omega)).mono ?_; rintro e w3 ⟨G3, rfl, hR3, hW3⟩)
        go_ret
        rw [unhide e1]
        exact ⟨G3, rfl, hR3, (Went.of_fr (unhide HF2)).trans hW3⟩
      · have hq : (c.dir.toList == d.toList) = false := by rw [toList_data, toList_data]; simpa using he
        have e1 : Hid (lastOf d s2.pending j = lastOf d s2.pending s2.pending.length) := by
          show lastOf d s2.pending j = _
          rw [← unhide HL]; simp [lastOf, hc, he]
        clear he hc
        go_wp2_with fail
        go_round
        case rel => exact ⟨j, by omega, by go_num, unhide e1⟩
        case measure => simp [intOf]

end Go.Proofs.YtbdbobikiikbgaaDoor
