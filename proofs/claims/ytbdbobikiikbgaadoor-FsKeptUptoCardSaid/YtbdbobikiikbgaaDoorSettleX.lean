/-
  The contract of settle.
-/
import Derived.Test.YtbdbobikiikbgaaDoorSettleW
namespace Go.Proofs.YtbdbobikiikbgaaDoor
open Go.RowKit Go.WideMaps Go.Maps
attribute [local go_sem ↓] Go.wp_at_zero Go.wp_at_succ

theorem chg_kind {w : World} {r : Nat → Option Role} {c : Chg} {gf : Nat} {caps : Array Value} (h : ChgAt w r c (.func (.func gf) #[] caps)) :
    (∃ p1 p2, gf = 61 ∧ caps = #[.pointer (some p1), .pointer (some p2)]) ∨ (∃ p1 p2, gf = 63 ∧ caps = #[.pointer (some p1), .pointer (some p2)]) ∨ ∃ p1, gf = 72 ∧ caps = #[.pointer (some p1)] := by
  cases c with
  | put s x =>
    obtain ⟨_, _, e, _⟩ := h
    simp only [Value.func.injEq, Fn.func.injEq] at e
    exact Or.inl ⟨_, _, e.1, e.2.2⟩
  | move fr tgt =>
    obtain ⟨_, _, e, _⟩ := h
    simp only [Value.func.injEq, Fn.func.injEq] at e
    exact Or.inr (Or.inl ⟨_, _, e.1, e.2.2⟩)
  | drop s =>
    obtain ⟨_, e, _⟩ := h
    simp only [Value.func.injEq, Fn.func.injEq] at e
    exact Or.inr (Or.inr ⟨_, e.1, e.2.2⟩)

theorem settleS_zero (s : AS) : settleS s 0 = s := rfl
theorem midS_zero (s : AS) : midS s 0 = s := rfl

theorem settle_zero {w : World} {G : Lie} {s : AS} (h : Rep w G s) :
    Calls Tryd.prog 36 #[.pointer (some ⟨G.F, 0, none⟩), .int .i64 0] w fun e w' => ∃ G', e = .returned (.tuple #[]) ∧ Rep w' G' (settleS s 0) ∧ Went w G w' G' := by
  obtain ⟨pa, pc, hpv⟩ := row_form h.pend
  have hcp : s.pending.length ≤ pc ∧ pc ≤ maxLen := by
    rcases h.pend.2 with ⟨e1, e2⟩ | ⟨g, cap, cur, e1, _, _, e2, e3, _⟩
    · rw [hpv] at e1; simp at e1; unfold maxLen; omega
    · rw [hpv] at e1; simp at e1; omega
  obtain ⟨hcp1, hcp2⟩ := hcp
  have k5 : w.cell? ⟨G.F, 5, none⟩ = some (.slice pa s.pending.length pc) := by rw [← hpv]; exact cell_fs h.fsb rfl
  have f5 : w.frozen? ⟨G.F, 5, none⟩ = false := free_fs h.fsb
  have HD := hide (delete_none pa s.pending.length pc w hcp1 hcp2)
  have HFIN : Hid (Rep (w.setCell ⟨G.F, 5, none⟩ (.slice pa s.pending.length pc)) G s ∧ Fr G.role w (w.setCell ⟨G.F, 5, none⟩ (.slice pa s.pending.length pc))) := by
    rw [← hpv]
    exact ⟨h.scal rfl rfl rfl rfl (Int.le_refl _) (heap_setCell_at h.fsb _) (fun b hb => heap_setCell_ne hb _) (by simp [World.setCell]), fr_own h rfl rfl rfl (by simp [World.setCell]) (fun b hb => heap_setCell_ne hb _)⟩
  unfold maxLen at hcp2
  clear h hpv
  go_enter Tryd.func36, Tryd.ntmps36
  go_wp2
  refine wp_loop_rounds 1 ?_
  rw [rounds_succ]
  go_wp2_with (go_at_call 59; refine (unhide HD).mono ?_; rintro e w2 ⟨rfl, rfl⟩)
  go_end0
  exact ⟨G, rfl, HFIN.out.1, Went.of_fr HFIN.out.2⟩

set_option maxRecDepth 100000 in
set_option maxHeartbeats 4000000 in
theorem settle_some {w : World} {G : Lie} {s : AS} (h : Rep w G s) (hb : Bd s) (cnt : Nat) (hc : cnt ≤ s.pending.length) (h0 : 0 < cnt) (g pc : Nat) (hpv : G.pv = .slice (some ⟨g, 0, none⟩) s.pending.length pc) :
    Calls Tryd.prog 36 #[.pointer (some ⟨G.F, 0, none⟩), .int .i64 cnt] w fun e w' => ∃ G', e = .returned (.tuple #[]) ∧ Rep w' G' (settleS s cnt) ∧ Went w G w' G' := by
  have hpl := hb.mP
  have hcp : s.pending.length ≤ pc ∧ pc ≤ maxLen := by
    rcases h.pend.2 with ⟨e1, e2⟩ | ⟨g, cap, cur, e1, _, _, e2, e3, _⟩
    · omega
    · rw [hpv] at e1; simp at e1; omega
  have HCP := hide hcp
  obtain ⟨hcp1, hcp2⟩ := hcp
  unfold maxLen at hcp2
  have k5 : w.cell? ⟨G.F, 5, none⟩ = some (.slice (some ⟨g, 0, none⟩) s.pending.length pc) := by rw [← hpv]; exact cell_fs h.fsb rfl
  have hmid : ∀ k, k ≤ s.pending.length → Maps.size (midS s k).durable < maxLen := by
    intro k hk
    have := (foldD_tidy s (tab_tidy h.tD) k hk).2
    have := hb.mD
    unfold maxLen
    show Maps.size (foldD s k).1 < _
    omega
  have HM := hide hmid
  have HR := hide h
  have HP := hide hpv
  clear h hpv hmid hb
  go_enter Tryd.func36, Tryd.ntmps36
  go_wp2
  go_loopw [13] (fun i wr => ∃ k : Nat, k ≤ cnt ∧ i = .int .i64 k ∧ ∃ G', Rep wr G' (midS s k) ∧ Went w G wr G' ∧ G'.pv = G.pv ∧ G'.M = G.M ∧ G'.D = G.D ∧ G'.F = G.F) (fun i _ => cnt - (intOf i).toNat)
  case atStart => exact ⟨0, Nat.zero_le _, rfl, G, by rw [midS_zero]; exact unhide HR, Went.refl _ _, rfl, rfl, rfl, rfl⟩
  case round =>
    obtain ⟨k, hk, rfl, G1, hR1, hW1, e1, e2, e3, e4⟩ := hrel
    by_cases hlt : k < cnt
    · have hck : s.pending[k]? = some (s.pending[k]'(by omega)) := by simp
      obtain ⟨c, hcc⟩ : ∃ c, c = s.pending[k]'(by omega) := ⟨_, rfl⟩
      rw [← hcc] at hck
      obtain ⟨v, q0, q1, gf, caps, hv, hch, hcall⟩ := settle_step k c hck hR1 (unhide HM k (by omega))
      have hrow : wr.ownsRow 0 76 2 (.slice (some ⟨g, 0, none⟩) s.pending.length pc) s.pending.length (chgCells s.pending G1.cl) := by
        have := hR1.pend; rw [e1, unhide HP] at this; exact this
      have r0 : wr.cell? ⟨g, k * 2, none⟩ = some (.string c.dir) := by
        obtain ⟨g', cap', e, hcl⟩ := row_cell hrow q0
        simp at e; rw [e.1]; exact hcl
      have r1 : wr.cell? ⟨g, k * 2 + 1, none⟩ = some v := by
        obtain ⟨g', cap', e, hcl⟩ := row_cell hrow q1
        simp at e; rw [e.1]; exact hcl
      have kF1 : wr.cell? ⟨G.F, 1, none⟩ = some (.map (some G.M)) := by rw [← e4, ← e2]; exact cell_fs hR1.fsb rfl
      have kF4 : wr.cell? ⟨G.F, 4, none⟩ = some (.map (some G.D)) := by rw [← e4, ← e3]; exact cell_fs hR1.fsb rfl
      have lF : G.F < wr.heap.size := lt_of_cell kF1
      have lg : g < wr.heap.size := lt_of_cell r0
      rw [e2, e3, e4] at hcall
      have HC := hide hcall
      have HX : Hid (∀ w5 x, Rep w5 (G1.erased x) (midS s (k + 1)) → Fr G1.role wr w5 → ∃ G', Rep w5 G' (midS s (k + 1)) ∧ Went w G w5 G' ∧ G'.pv = G.pv ∧ G'.M = G.M ∧ G'.D = G.D ∧ G'.F = G.F) :=
        fun w5 x ha hb => ⟨_, ha, hW1.trans ⟨hb, rfl, fun _ _ => rfl⟩, e1, e2, e3, e4⟩
      subst hv
      have hkind := chg_kind hch
      clear hcall hR1 hW1 e1 e2 e3 e4 q0 q1 hrow hck hcc hch
      rcases hkind with ⟨p1, p2, rfl, rfl⟩ | ⟨p1, p2, rfl, rfl⟩ | ⟨p1, rfl, rfl⟩
      · go_wp2
        go_region_held3 (fun w' => w'.cell? ⟨G.F, 1, none⟩ = some (.map (some G.M)) ∧ w'.cell? ⟨G.F, 4, none⟩ = some (.map (some G.D)) ∧ w'.cell? ⟨wr.heap.size, 1, none⟩ = some (.func (.func 61) #[] #[.pointer (some p1), .pointer (some p2)]))
          (go_keep)
          ((go_at_call 61; refine (unhide HC #[.string c.dir, .func (.func 61) #[] #[.pointer (some p1), .pointer (some p2)]] _ (by rfl) (by rfl) (by rfl) (by rfl)).mono ?_; rintro e w4 ⟨w5, rfl, hdel, hR5, hF5, k14, k44, kb4, k15, k45, kb5⟩; have kc4 : w4.cell? ⟨wr.heap.size, 1, none⟩ = some (.func (.func 61) #[] #[.pointer (some p1), .pointer (some p2)]) := cell_fs kb4 rfl; have kc5 : w5.cell? ⟨wr.heap.size, 1, none⟩ = some (.func (.func 61) #[] #[.pointer (some p1), .pointer (some p2)]) := cell_fs kb5 rfl))
        have HRR := hide (unhide HX w5 _ hR5 hF5)
        clear hdel hR5 hF5 k14 k44 kb4 k15 k45 kb5 kc4 kc5
        go_wp2
        go_roundw
        case rel => exact ⟨k + 1, by omega, by go_num, unhide HRR⟩
        case measure => simp [intOf]; omega
      · go_wp2
        go_region_held3 (fun w' => w'.cell? ⟨G.F, 1, none⟩ = some (.map (some G.M)) ∧ w'.cell? ⟨G.F, 4, none⟩ = some (.map (some G.D)) ∧ w'.cell? ⟨wr.heap.size, 1, none⟩ = some (.func (.func 63) #[] #[.pointer (some p1), .pointer (some p2)]))
          (go_keep)
          ((go_at_call 63; refine (unhide HC #[.string c.dir, .func (.func 63) #[] #[.pointer (some p1), .pointer (some p2)]] _ (by rfl) (by rfl) (by rfl) (by rfl)).mono ?_; rintro e w4 ⟨w5, rfl, hdel, hR5, hF5, k14, k44, kb4, k15, k45, kb5⟩; have kc4 : w4.cell? ⟨wr.heap.size, 1, none⟩ = some (.func (.func 63) #[] #[.pointer (some p1), .pointer (some p2)]) := cell_fs kb4 rfl; have kc5 : w5.cell? ⟨wr.heap.size, 1, none⟩ = some (.func (.func 63) #[] #[.pointer (some p1), .pointer (some p2)]) := cell_fs kb5 rfl))
        have HRR := hide (unhide HX w5 _ hR5 hF5)
        clear hdel hR5 hF5 k14 k44 kb4 k15 k45 kb5 kc4 kc5
        go_wp2
        go_roundw
        case rel => exact ⟨k + 1, by omega, by go_num, unhide HRR⟩
        case measure => simp [intOf]; omega
      · go_wp2
        go_region_held3 (fun w' => w'.cell? ⟨G.F, 1, none⟩ = some (.map (some G.M)) ∧ w'.cell? ⟨G.F, 4, none⟩ = some (.map (some G.D)) ∧ w'.cell? ⟨wr.heap.size, 1, none⟩ = some (.func (.func 72) #[] #[.pointer (some p1)]))
          (go_keep)
          ((go_at_call 72; refine (unhide HC #[.string c.dir, .func (.func 72) #[] #[.pointer (some p1)]] _ (by rfl) (by rfl) (by rfl) (by rfl)).mono ?_; rintro e w4 ⟨w5, rfl, hdel, hR5, hF5, k14, k44, kb4, k15, k45, kb5⟩; have kc4 : w4.cell? ⟨wr.heap.size, 1, none⟩ = some (.func (.func 72) #[] #[.pointer (some p1)]) := cell_fs kb4 rfl; have kc5 : w5.cell? ⟨wr.heap.size, 1, none⟩ = some (.func (.func 72) #[] #[.pointer (some p1)]) := cell_fs kb5 rfl))
        have HRR := hide (unhide HX w5 _ hR5 hF5)
        clear hdel hR5 hF5 k14 k44 kb4 k15 k45 kb5 kc4 kc5
        go_wp2
        go_roundw
        case rel => exact ⟨k + 1, by omega, by go_num, unhide HRR⟩
        case measure => simp [intOf]; omega
    · have hkc : k = cnt := by omega
      subst hkc
      have hpv1 : G1.pv = .slice (some ⟨g, 0, none⟩) s.pending.length pc := e1.trans (unhide HP)
      have kF5 : wr.cell? ⟨G.F, 5, none⟩ = some (.slice (some ⟨g, 0, none⟩) s.pending.length pc) := by rw [← hpv1, ← e4]; exact cell_fs hR1.fsb rfl
      have fF5 : wr.frozen? ⟨G.F, 5, none⟩ = false := by rw [← e4]; exact free_fs hR1.fsb
      have hgp : G1.role g = some .pend := hR1.rP g (by rw [hpv1]; rfl)
      have ngF : G.F ≠ g := by intro e; rw [← e4] at e; have := hR1.rF; rw [e, hgp] at this; simp at this
      have lF : G.F < wr.heap.size := lt_of_cell kF5
      obtain ⟨cur, hb, hz, ht⟩ : ∃ cur, wr.heap[g]? = some (.cells cur 76 (0, 0)) ∧ cur.size = pc * 2 ∧ cur.toList.take (s.pending.length * 2) = chgCells s.pending G1.cl := by
        have hr : wr.ownsRow 0 76 2 G1.pv s.pending.length (chgCells s.pending G1.cl) := hR1.pend
        rcases hr.2 with ⟨ee, ee2⟩ | ⟨g', cap', cur, ee, _, hh, _, _, hz, ht⟩
        · omega
        · rw [hpv1] at ee; simp at ee
          obtain ⟨rfl, rfl⟩ := ee
          exact ⟨cur, hh, hz, ht⟩
      have HD := hide (delete_some g s.pending.length pc k cur wr hb hz (unhide HCP).1 (unhide HCP).2 hc h0 (by rw [ht]; exact chgCells_one hR1.chg))
      have HT := hide ht
      have HZ := hide hz
      have HR1 := hide hR1
      have HW1 := hide hW1
      have HE4 := hide e4
      have HPV := hide hpv1
      clear hb hz ht hR1 hW1 e1 e2 e3 e4 hpv1 hgp
      go_wp2_with (go_at_call 59; refine (unhide HD).mono ?_; rintro e w2 ⟨rfl, hgr, cur', hb', hz', ht'⟩; have kF52 : w2.cell? ⟨G.F, 5, none⟩ = some (.slice (some ⟨g, 0, none⟩) s.pending.length pc) := (hgr.cell_far ⟨G.F, 5, none⟩ lF (by simpa using ngF)).trans kF5; have fF52 : w2.frozen? ⟨G.F, 5, none⟩ = false := (hgr.frozen_far ⟨G.F, 5, none⟩ lF (by simpa using ngF)).trans fF5)
      go_end0
      obtain ⟨r1, r2⟩ := (unhide HR1).dropped (unhide HPV) hgr hc hb' (hz'.trans (unhide HZ)) (by have hq := ht'; rw [unhide HT] at hq; exact hq) (unhide HCP)
      rw [unhide HE4] at r1 r2
      exact ⟨_, rfl, r1, (unhide HW1).trans ⟨r2, (unhide HE4).symm, fun _ _ => rfl⟩⟩

theorem settle_rep {w : World} {G : Lie} {s : AS} (h : Rep w G s) (hb : Bd s) (cnt : Nat) (hc : cnt ≤ s.pending.length) :
    Calls Tryd.prog 36 #[.pointer (some ⟨G.F, 0, none⟩), .int .i64 cnt] w fun e w' => ∃ G', e = .returned (.tuple #[]) ∧ Rep w' G' (settleS s cnt) ∧ Went w G w' G' := by
  by_cases h0 : 0 < cnt
  · rcases h.pend.2 with ⟨_, e2⟩ | ⟨g, cap, cur, e1, _⟩
    · omega
    · exact settle_some h hb cnt hc h0 g cap e1
  · obtain rfl : cnt = 0 := by omega
    exact settle_zero h

end Go.Proofs.YtbdbobikiikbgaaDoor
