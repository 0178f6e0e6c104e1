/-
  The contract of alter at the closure of function 72: a change of one kind is done to the names and is pending from then on.
-/
import Derived.Test.YtbdbobikiikbgaaDoorAlter
namespace Go.Proofs.YtbdbobikiikbgaaDoor
open Go.RowKit Go.WideMaps Go.Maps
attribute [local go_sem ↓] Go.wp_at_zero Go.wp_at_succ

set_option maxRecDepth 100000 in
set_option maxHeartbeats 2000000 in
theorem alter_72_none {W0 w : World} {G : Lie} {s : AS} (c : Chg) (p1 : Addr) (h : Rep w G s) (hb : Bd s) (hW : W0 = w.alloc (.cells #[.string c.dir, .func (.func 72) #[] #[.pointer (some p1)]] 76)) (hc : ChgAt w G.role c (.func (.func 72) #[] #[.pointer (some p1)]))
    (hdo : ∀ (W : World) (N n : Nat) (D : DataW Unit), (∀ b, G.role b = some .cap → W.heap[b]? = w.heap[b]?) → Tab W N n D → n < maxLen →
      Calls Tryd.prog 72 #[.map (some N), .pointer (some p1)] W fun e w' => e = .returned (.int .i64 (c.old D)) ∧ Tab w' N (n + 1) (c.act D) ∧ W.mapTurned w' N) (hold : c.old s.names = 0) (hz : s.files (c.old s.names) = none) :
    Calls Tryd.prog 42 #[.pointer (some ⟨G.F, 0, none⟩), .agg #[.string c.dir, .func (.func 72) #[] #[.pointer (some p1)]]] w fun e w' => ∃ G', e = .returned (.tuple #[]) ∧ Rep w' G' (alterS s c) ∧ Fr G.role w w' ∧ G'.F = G.F ∧ ∀ b, b < w.heap.size → G'.role b = G.role b := by
  have hbl0 : Below w.heap.size w W0 := by rw [hW]; exact (Below.refl _ _).alloc (Nat.le_refl _) _
  have hR0 : Rep W0 G s := h.below hbl0
  have hB0 : W0.heap[w.heap.size]? = some (.cells #[.string c.dir, .func (.func 72) #[] #[.pointer (some p1)]] 76 (0, 0)) := by rw [hW]; exact heap_alloc_new w _
  have HC : Hid (∀ W : World, W.heap = W0.heap → W.os = W0.os → W.tape = W0.tape → W.output = W0.output → Calls Tryd.prog 72 #[.map (some G.N), .pointer (some p1)] W fun e w' => e = .returned (.int .i64 (c.old s.names)) ∧ Rep w' G { s with names := c.act s.names } ∧
      w'.heap[w.heap.size]? = some (.cells #[.string c.dir, .func (.func 72) #[] #[.pointer (some p1)]] 76 (0, 0)) ∧ Fr G.role W0 w') := by
    intro W hWh h1 h2 h3
    have hRW : Rep W G s := hR0.congr (by rw [hWh]; exact Nat.le_refl _) (fun b _ => by rw [hWh]) (glob_of hR0.glob (by rw [hWh]))
    refine (hdo W G.N _ s.names (fun b hb => by rw [hWh]; exact hbl0.block b (h.lt b (by rw [hb]; simp))) hRW.tN (by have := hb.mN; unfold maxLen; omega)).mono ?_
    rintro e w' ⟨rfl, hT, ht⟩
    have hg := ht.grown
    refine ⟨rfl, hRW.named ht hT, ?_, ⟨hg.os.trans h1, hg.tape.trans h2, hg.output.trans h3, by have := hg.size; rw [hWh] at this; exact this, fun k hk hr => ?_⟩⟩
    · rw [hg.block w.heap.size (by rw [hWh]; exact (Array.getElem?_eq_some_iff.1 hB0).1) (fun e => ?_), hWh]; exact hB0
      have : w.heap.size = G.N := by simpa using e
      have := h.lt G.N (by rw [h.rN]; simp); omega
    · rw [hg.block k (by rw [hWh]; exact hk) (fun e => ?_), hWh]
      have : k = G.N := by simpa using e
      rw [this, h.rN] at hr; simp at hr
  have c3 : w.cell? ⟨G.F, 3, none⟩ = some (.map (some G.N)) := cell_fs h.fsb rfl
  have lF := lt_of_cell c3
  obtain ⟨i0, hi, hz0, hz1, hz2⟩ := info_parts Tryd.info76
  have HR := hide h
  have HCC := hide hc
  have HBD := hide hb
  have HW := hide hW
  have hpl : s.pending.length ≤ 1099511627776 := hb.mP
  obtain ⟨pa, pc, hpv⟩ := row_form h.pend
  have HP := hide hpv
  clear hpv
  have hob : (c.old s.names != 0) = false := by simp [hold]
  have HS : Hid (alterS s c = { { s with names := c.act s.names } with pending := s.pending ++ [c] }) := by simp [Hid, alterS, hz]
  have HB0 := hide hbl0
  clear hold hz
  clear h hb hW hc hdo hR0 hB0 hbl0
  go_enter Tryd.func42, Tryd.ntmps42
  go_wp2_with fail
  go_region_held3 (fun w' => w'.cell? ⟨G.F, 3, none⟩ = some (.map (some G.N)) ∧ w'.cell? ⟨w.heap.size, 1, none⟩ = some (.func (.func 72) #[] #[.pointer (some p1)]))
    (go_keep)
    ((go_at_call 72; refine (unhide HC _ (by rw [unhide HW]; rfl) (by rw [unhide HW]; rfl) (by rw [unhide HW]; rfl) (by rw [unhide HW]; rfl)).mono ?_; rintro e w2 ⟨rfl, hR2, hB2, hF2⟩; have k3 : w2.cell? ⟨G.F, 3, none⟩ = some (.map (some G.N)) := cell_fs hR2.fsb rfl; have kb : w2.cell? ⟨w.heap.size, 1, none⟩ = some (.func (.func 72) #[] #[.pointer (some p1)]) := cell_fs hB2 rfl))
  go_wp2
  have k5 : w2.cell? ⟨G.F, 5, none⟩ = some (.slice pa s.pending.length pc) := by rw [← unhide HP]; exact cell_fs hR2.fsb rfl
  have kb0 : w2.cell? ⟨w.heap.size, 0, none⟩ = some (.string c.dir) := cell_fs hB2 rfl
  have f5 : w2.frozen? ⟨G.F, 5, none⟩ = false := free_fs hR2.fsb
  have hown2 : w2.ownsRow 0 76 2 (.slice pa s.pending.length pc) s.pending.length (chgCells s.pending G.cl) := by rw [← unhide HP]; exact hR2.pend
  have hne : (Value.slice pa s.pending.length pc).ownBlock ≠ some G.F := by
    rw [← unhide HP]; intro e; have := hR2.rP _ e; rw [hR2.rF] at this; simp at this
  have l2 : G.F < w2.heap.size := hR2.lt _ (by rw [hR2.rF]; simp)
  have HR2 := hide hR2
  have HB2 := hide hB2
  have HF2 := hide hF2
  clear hR2 hB2 hF2
  go_region_law ((refine step_append_lies _ (by rfl) _ _ _ (by rfl) 0 76 i0 _ 2 24 Tryd.underlying63 hi hz0 hz1 hz2 rfl (by omega) (.slice pa s.pending.length pc) s.pending.length _ (by rfl) ((hown2.alloc _).drew) ⟨w2.heap.size, 0, none⟩ 1 1 [.string c.dir, .func (.func 72) #[] #[.pointer (some p1)]] (by rfl) (by rfl) (World.news_of_block (cs := #[.string c.dir, .func (.func 72) #[] #[.pointer (some p1)]]) (t := 76) (fr := (0, 0)) (heap_alloc_new w2 _)) (by simp [Value.oneCell']) (by omega) (by unfold maxLen; omega) (by omega) (by omega) (w2.heap.size + 1) (by simp) ?_; intro g cap w4 hown4 hgrow hat hlt; have k54 : w4.cell? ⟨G.F, 5, none⟩ = some (.slice pa s.pending.length pc) := (hgrow.cell_far ⟨G.F, 5, none⟩ (by simp; omega) (Ne.symm hne)).trans (cell_alloc_old k5); have f54 : w4.frozen? ⟨G.F, 5, none⟩ = false := (hgrow.frozen_far ⟨G.F, 5, none⟩ (by simp; omega) (Ne.symm hne)).trans (frozen_alloc_old l2 f5)))
  all_goals
    go_end0
    exact alter_close { s with names := c.act s.names } c (unhide HR).lt (unhide HR2) (unhide HCC) (unhide HF2) (unhide HB0) (by rw [unhide HP]; exact (World.grownBy_alloc w2 _ _).trans (grown_drew hgrow)) hown4 (by rw [unhide HP]; exact hat.imp id (fun e => by omega)) hlt (unhide HS)

set_option maxRecDepth 100000 in
set_option maxHeartbeats 2000000 in
theorem alter_72_some {W0 w : World} {G : Lie} {s : AS} (c : Chg) (p1 : Addr) (h : Rep w G s) (hb : Bd s) (hW : W0 = w.alloc (.cells #[.string c.dir, .func (.func 72) #[] #[.pointer (some p1)]] 76)) (hc : ChgAt w G.role c (.func (.func 72) #[] #[.pointer (some p1)]))
    (hdo : ∀ (W : World) (N n : Nat) (D : DataW Unit), (∀ b, G.role b = some .cap → W.heap[b]? = w.heap[b]?) → Tab W N n D → n < maxLen →
      Calls Tryd.prog 72 #[.map (some N), .pointer (some p1)] W fun e w' => e = .returned (.int .i64 (c.old D)) ∧ Tab w' N (n + 1) (c.act D) ∧ W.mapTurned w' N) (hold : ¬ c.old s.names = 0) (hwf : (Lit.int .i64 (c.old s.names)).wf = true) (f : AF) (hf : s.files (c.old s.names) = some f) (hfl : f.data.length ≤ 1099511627776) :
    Calls Tryd.prog 42 #[.pointer (some ⟨G.F, 0, none⟩), .agg #[.string c.dir, .func (.func 72) #[] #[.pointer (some p1)]]] w fun e w' => ∃ G', e = .returned (.tuple #[]) ∧ Rep w' G' (alterS s c) ∧ Fr G.role w w' ∧ G'.F = G.F ∧ ∀ b, b < w.heap.size → G'.role b = G.role b := by
  have hbl0 : Below w.heap.size w W0 := by rw [hW]; exact (Below.refl _ _).alloc (Nat.le_refl _) _
  have hR0 : Rep W0 G s := h.below hbl0
  have hB0 : W0.heap[w.heap.size]? = some (.cells #[.string c.dir, .func (.func 72) #[] #[.pointer (some p1)]] 76 (0, 0)) := by rw [hW]; exact heap_alloc_new w _
  have HC : Hid (∀ W : World, W.heap = W0.heap → W.os = W0.os → W.tape = W0.tape → W.output = W0.output → Calls Tryd.prog 72 #[.map (some G.N), .pointer (some p1)] W fun e w' => e = .returned (.int .i64 (c.old s.names)) ∧ Rep w' G { s with names := c.act s.names } ∧
      w'.heap[w.heap.size]? = some (.cells #[.string c.dir, .func (.func 72) #[] #[.pointer (some p1)]] 76 (0, 0)) ∧ Fr G.role W0 w') := by
    intro W hWh h1 h2 h3
    have hRW : Rep W G s := hR0.congr (by rw [hWh]; exact Nat.le_refl _) (fun b _ => by rw [hWh]) (glob_of hR0.glob (by rw [hWh]))
    refine (hdo W G.N _ s.names (fun b hb => by rw [hWh]; exact hbl0.block b (h.lt b (by rw [hb]; simp))) hRW.tN (by have := hb.mN; unfold maxLen; omega)).mono ?_
    rintro e w' ⟨rfl, hT, ht⟩
    have hg := ht.grown
    refine ⟨rfl, hRW.named ht hT, ?_, ⟨hg.os.trans h1, hg.tape.trans h2, hg.output.trans h3, by have := hg.size; rw [hWh] at this; exact this, fun k hk hr => ?_⟩⟩
    · rw [hg.block w.heap.size (by rw [hWh]; exact (Array.getElem?_eq_some_iff.1 hB0).1) (fun e => ?_), hWh]; exact hB0
      have : w.heap.size = G.N := by simpa using e
      have := h.lt G.N (by rw [h.rN]; simp); omega
    · rw [hg.block k (by rw [hWh]; exact hk) (fun e => ?_), hWh]
      have : k = G.N := by simpa using e
      rw [this, h.rN] at hr; simp at hr
  have c3 : w.cell? ⟨G.F, 3, none⟩ = some (.map (some G.N)) := cell_fs h.fsb rfl
  have lF := lt_of_cell c3
  obtain ⟨i0, hi, hz0, hz1, hz2⟩ := info_parts Tryd.info76
  have HR := hide h
  have HCC := hide hc
  have HBD := hide hb
  have HW := hide hW
  have hpl : s.pending.length ≤ 1099511627776 := hb.mP
  obtain ⟨pa, pc, hpv⟩ := row_form h.pend
  have HP := hide hpv
  clear hpv
  have hob : (c.old s.names != 0) = true := by simp [hold]
  have HS : Hid (alterS s c = { { s with names := c.act s.names, size := s.size - f.data.length } with pending := s.pending ++ [c] }) := by simp [Hid, alterS, hf]
  have HB0 := hide hbl0
  have hz0' := hb.z0
  have hz1' := hb.z1
  obtain ⟨fa, fc, hfv⟩ := row_form (h.files _ f hf).row
  have HFV := hide hfv
  have HFF := hide hf
  have HWF := hide hwf
  obtain ⟨fb, hfb⟩ : ∃ b, b = G.fb (c.old s.names) := ⟨_, rfl⟩
  have HFB := hide hfb
  clear hold hf hfv hwf hfb
  clear h hb hW hc hdo hR0 hB0 hbl0
  go_enter Tryd.func42, Tryd.ntmps42
  go_wp2_with fail
  go_region_held3 (fun w' => w'.cell? ⟨G.F, 3, none⟩ = some (.map (some G.N)) ∧ w'.cell? ⟨w.heap.size, 1, none⟩ = some (.func (.func 72) #[] #[.pointer (some p1)]))
    (go_keep)
    ((go_at_call 72; refine (unhide HC _ (by rw [unhide HW]; rfl) (by rw [unhide HW]; rfl) (by rw [unhide HW]; rfl) (by rw [unhide HW]; rfl)).mono ?_; rintro e w2 ⟨rfl, hR2, hB2, hF2⟩; have k3 : w2.cell? ⟨G.F, 3, none⟩ = some (.map (some G.N)) := cell_fs hR2.fsb rfl; have kb : w2.cell? ⟨w.heap.size, 1, none⟩ = some (.func (.func 72) #[] #[.pointer (some p1)]) := cell_fs hB2 rfl))
  go_wp2
  have k6 : w2.cell? ⟨G.F, 6, none⟩ = some (.int .i64 s.size) := cell_fs hR2.fsb rfl
  have k1 : w2.cell? ⟨G.F, 1, none⟩ = some (.map (some G.M)) := cell_fs hR2.fsb rfl
  have f6 : w2.frozen? ⟨G.F, 6, none⟩ = false := free_fs hR2.fsb
  have kf : w2.cell? ⟨fb, 0, none⟩ = some (.slice fa f.data.length fc) := by
    rw [unhide HFB, ← unhide HFV]; exact cell_fs (hR2.files _ f (unhide HFF)).block rfl
  have hlk : ∀ nq, (Instr.lookup 60 (.map (some G.M)) (.int .i64 (c.old s.names)) false).run Tryd.prog (w2.drewN nq) = .ok (.pointer (some ⟨fb, 0, none⟩)) (w2.drewN nq) := by
    rw [unhide HFB]; exact look_file hR2 _ (unhide HWF) f (unhide HFF)
  have hlk1 : (Instr.lookup 60 (.map (some G.M)) (.int .i64 (c.old s.names)) false).run Tryd.prog w2.drew = .ok (.pointer (some ⟨fb, 0, none⟩)) w2.drew := hlk 1
  clear hlk
  go_region
  obtain ⟨w3, hw3⟩ : ∃ w3, w3 = (w2.setCell ⟨G.F, 6, none⟩ (.int .i64 (s.size - f.data.length))).drew := ⟨_, rfl⟩
  rw [← hw3]
  have hR3 : Rep w3 G { s with names := c.act s.names, size := s.size - f.data.length } := by
    rw [hw3]
    exact hR2.scal rfl rfl rfl rfl (Int.le_refl _) (heap_setCell_at hR2.fsb _) (fun b hb => heap_setCell_ne hb _) (by simp [World.setCell])
  have hF3 : Fr G.role W0 w3 := hF2.trans (by rw [hw3]; exact fr_own hR2 rfl rfl rfl (by simp [World.setCell]) (fun b hb => heap_setCell_ne hb _)) (fun _ _ => rfl)
  have hB3 : w3.heap[w.heap.size]? = some (.cells #[.string c.dir, .func (.func 72) #[] #[.pointer (some p1)]] 76 (0, 0)) := by
    rw [hw3]; exact (heap_setCell_ne (a := ⟨G.F, 6, none⟩) (by show w.heap.size ≠ G.F; omega) _).trans hB2
  clear hw3 hR2 hF2 hB2 k6 k1 f6 kf hlk1 k3 kb
  have kb3 : w3.cell? ⟨w.heap.size, 1, none⟩ = some (.func (.func 72) #[] #[.pointer (some p1)]) := cell_fs hB3 rfl
  have k5 : w3.cell? ⟨G.F, 5, none⟩ = some (.slice pa s.pending.length pc) := by rw [← unhide HP]; exact cell_fs hR3.fsb rfl
  have kb0 : w3.cell? ⟨w.heap.size, 0, none⟩ = some (.string c.dir) := cell_fs hB3 rfl
  have f5 : w3.frozen? ⟨G.F, 5, none⟩ = false := free_fs hR3.fsb
  have hown2 : w3.ownsRow 0 76 2 (.slice pa s.pending.length pc) s.pending.length (chgCells s.pending G.cl) := by rw [← unhide HP]; exact hR3.pend
  have hne : (Value.slice pa s.pending.length pc).ownBlock ≠ some G.F := by
    rw [← unhide HP]; intro e; have := hR3.rP _ e; rw [hR3.rF] at this; simp at this
  have l2 : G.F < w3.heap.size := hR3.lt _ (by rw [hR3.rF]; simp)
  have HR3 := hide hR3
  have HB3 := hide hB3
  have HF3 := hide hF3
  clear hR3 hB3 hF3
  go_wp2
  go_region_law ((refine step_append_lies _ (by rfl) _ _ _ (by rfl) 0 76 i0 _ 2 24 Tryd.underlying63 hi hz0 hz1 hz2 rfl (by omega) (.slice pa s.pending.length pc) s.pending.length _ (by rfl) ((hown2.alloc _).drew) ⟨w3.heap.size, 0, none⟩ 1 1 [.string c.dir, .func (.func 72) #[] #[.pointer (some p1)]] (by rfl) (by rfl) (World.news_of_block (cs := #[.string c.dir, .func (.func 72) #[] #[.pointer (some p1)]]) (t := 76) (fr := (0, 0)) (heap_alloc_new w3 _)) (by simp [Value.oneCell']) (by omega) (by unfold maxLen; omega) (by omega) (by omega) (w3.heap.size + 1) (by simp) ?_; intro g cap w4 hown4 hgrow hat hlt; have k54 : w4.cell? ⟨G.F, 5, none⟩ = some (.slice pa s.pending.length pc) := (hgrow.cell_far ⟨G.F, 5, none⟩ (by simp; omega) (Ne.symm hne)).trans (cell_alloc_old k5); have f54 : w4.frozen? ⟨G.F, 5, none⟩ = false := (hgrow.frozen_far ⟨G.F, 5, none⟩ (by simp; omega) (Ne.symm hne)).trans (frozen_alloc_old l2 f5)))
  all_goals
    go_end0
    exact alter_close { s with names := c.act s.names, size := s.size - f.data.length } c (unhide HR).lt (unhide HR3) (unhide HCC) (unhide HF3) (unhide HB0) (by rw [unhide HP]; exact (World.grownBy_alloc w3 _ _).trans (grown_drew hgrow)) hown4 (by rw [unhide HP]; exact hat.imp id (fun e => by omega)) hlt (unhide HS)

end Go.Proofs.YtbdbobikiikbgaaDoor
