/-
  The contract of Crash.
-/
import Derived.Test.YtbdbobikiikbgaaDoorCrashR
namespace Go.Proofs.YtbdbobikiikbgaaDoor
open Go.RowKit Go.WideMaps Go.Maps Go.Sort

set_option maxRecDepth 100000 in
set_option maxHeartbeats 4000000 in
theorem crash_rep {w : World} {G : Lie} {s : AS} {k B : Nat} (h : Rep w G s) (ok : OK s k B) (hk : k ≤ 4096) (hB : B ≤ 1048576) (nm e : Int) :
    Calls Tryd.prog 13 #[.pointer (some ⟨G.F, 0, none⟩), .int .i64 nm, .int .i64 e] w fun en w' => ∃ G', en = .returned (.tuple #[]) ∧ Rep w' G' (crashS s nm e) ∧ Went w G w' G' := by
  obtain ⟨c, hc⟩ : ∃ c, c = min (max nm 0).toNat s.pending.length := ⟨_, rfl⟩
  have hv : min (max nm 0) (s.pending.length : Int) = (c : Int) := by rw [hc]; omega
  have hcl : c ≤ s.pending.length := by rw [hc]; omega
  have HS := hide (settle_rep h (ok.bd hk) c hcl)
  obtain ⟨pa, pc, hpv⟩ := row_form h.pend
  have k5 : w.cell? ⟨G.F, 5, none⟩ = some (.slice pa s.pending.length pc) := by rw [← hpv]; exact cell_fs h.fsb rfl
  have ok1 := ok.settled c hcl
  obtain ⟨s1, hs1⟩ : ∃ s1, s1 = settleS s c := ⟨_, rfl⟩
  have HE : Hid (crashS s nm e = downS s1 e) := by show crashS s nm e = downS s1 e; unfold crashS; rw [hs1, hc]
  rw [← hs1] at HS ok1
  have hpl : (s.pending.length : Int) ≤ 4096 := by have := ok.mD; omega
  have hmm := @run_makeMap Tryd.prog
  have HOK := hide ok1
  clear hpv h ok ok1 hs1 hc hcl
  go_enter Tryd.func13, Tryd.ntmps13
  go_wp2_with fail
  refine (unhide HS).mono ?_
  rintro en w1 ⟨G1, rfl, hR1, hW1⟩
  have eF : G1.F = G.F := hW1.F
  have k4 : w1.cell? ⟨G.F, 4, none⟩ = some (.map (some G1.D)) := by rw [← eF]; exact cell_fs hR1.fsb rfl
  have f5 : w1.frozen? ⟨G.F, 5, none⟩ = false := by rw [← eF]; exact free_fs hR1.fsb
  have j5 : w1.cell? ⟨G.F, 5, none⟩ = some G1.pv := by rw [← eF]; exact cell_fs hR1.fsb rfl
  go_wp2_with fail
  have lF1 : G.F < w1.heap.size := by rw [← eF]; exact hR1.lt _ (by rw [hR1.rF]; simp)
  have neD : G1.D ≠ G.F := fun e => by have := hR1.rD; rw [e, ← eF, hR1.rF] at this; simp at this
  obtain ⟨w2, hw2⟩ : ∃ w2, w2 = w1.setCell ⟨G.F, 5, none⟩ (.slice none 0 0) := ⟨_, rfl⟩
  rw [← hw2]
  have hs2 : w2.heap.size = w1.heap.size := by rw [hw2]; simp [World.setCell]
  have h2F : w2.heap[G.F]? = some (.cells ((fsCells s1 G1).setIfInBounds 5 (.slice none 0 0)) 65 (0, 0)) := by
    rw [hw2, ← eF]; exact heap_setCell_at hR1.fsb _
  have ho2 : ∀ b, b ≠ G.F → w2.heap[b]? = w1.heap[b]? := fun b hb => by rw [hw2]; exact heap_setCell_ne (a := ⟨G.F, 5, none⟩) hb _
  have ht2 : w2.os = w1.os ∧ w2.tape = w1.tape ∧ w2.output = w1.output := by rw [hw2]; exact ⟨rfl, rfl, rfl⟩
  have tD2 : Tab w2 G1.D (Maps.size s1.durable) s1.durable := tab_congr hR1.tD (ho2 _ neD)
  refine (AnyW.maps_Clone_owns Tryd.cloneM 9 (plainElem Tryd.prog 3) G1.D _ s1.durable w2 tD2).mono ?_
  rintro en w3 ⟨rfl, hT3, _, hB3⟩
  have lF3 : G.F < w3.heap.size := by have := hB3.size; omega
  have h3F : w3.heap[G.F]? = some (.cells ((fsCells s1 G1).setIfInBounds 5 (.slice none 0 0)) 65 (0, 0)) := (hB3.block _ (by omega)).trans h2F
  have k33 : w3.cell? ⟨G.F, 3, none⟩ = some (.map (some G1.N)) := cell_fs h3F rfl
  have k36 : w3.cell? ⟨G.F, 6, none⟩ = some (.int .i64 s1.size) := cell_fs h3F rfl
  have g33 : w3.frozen? ⟨G.F, 3, none⟩ = false := free_fs h3F
  have g36 : w3.frozen? ⟨G.F, 6, none⟩ = false := free_fs h3F
  have l31 : w1.heap.size < w3.heap.size := by have := (World.ownsMap.lt hT3); omega
  rw [hs2] at hT3
  obtain ⟨w6, hw6⟩ : ∃ w6, w6 = ((w3.setCell ⟨G.F, 3, none⟩ (.map (some w1.heap.size))).setCell ⟨G.F, 6, none⟩ (.int .i64 0)).alloc (.map #[] 0) := ⟨_, rfl⟩
  have hs6 : w6.heap.size = w3.heap.size + 1 := by rw [hw6]; simp [World.setCell]
  have ho6 : ∀ b, b < w3.heap.size → b ≠ G.F → w6.heap[b]? = w3.heap[b]? := fun b hb hne => by
    rw [hw6]
    have e1 := Below.heap_alloc ((w3.setCell ⟨G.F, 3, none⟩ (.map (some w1.heap.size))).setCell ⟨G.F, 6, none⟩ (.int .i64 0)) (.map #[] 0) b (by simpa [World.setCell] using hb)
    exact e1.trans ((heap_setCell_ne (a := ⟨G.F, 6, none⟩) hne _).trans (heap_setCell_ne (a := ⟨G.F, 3, none⟩) hne _))
  have h6F : w6.heap[G.F]? = some (.cells (fsCells (crash0S s1) (G1.crash0 w1.heap.size)) 65 (0, 0)) := by
    rw [hw6]
    have e1 := Below.heap_alloc ((w3.setCell ⟨G.F, 3, none⟩ (.map (some w1.heap.size))).setCell ⟨G.F, 6, none⟩ (.int .i64 0)) (.map #[] 0) G.F (by simpa [World.setCell] using lF3)
    refine e1.trans ?_
    exact heap_setCell_at (heap_setCell_at h3F _) _
  have hT6 : Tab w6 w1.heap.size (Maps.size s1.durable) s1.durable := tab_congr hT3 (ho6 _ l31 (by omega))
  have hM6 : Fmap w6 w3.heap.size 0 (.map []) := by
    have m0 := World.ownsMap_made (H := Unit) ((w3.setCell ⟨G.F, 3, none⟩ (.map (some w1.heap.size))).setCell ⟨G.F, 6, none⟩ (.int .i64 0)) Tryd.prog 3 fileElem
    rw [← hw6] at m0
    have e0 : ((w3.setCell ⟨G.F, 3, none⟩ (.map (some w1.heap.size))).setCell ⟨G.F, 6, none⟩ (.int .i64 0)).heap.size = w3.heap.size := by simp [World.setCell]
    rw [e0] at m0
    exact m0
  have ht6 : w6.os = w3.os ∧ w6.tape = w3.tape ∧ w6.output = w3.output := by rw [hw6]; exact ⟨rfl, rfl, rfl⟩
  have hR6 : Rep w6 (G1.crash0 w1.heap.size) (crash0S s1) := by
    refine hR1.crash0 (by omega) (Nat.le_refl _) (by omega) hT6 (by rw [eF]; exact h6F) (fun b hb hne => ?_)
    rw [eF] at hne
    exact (ho6 b (by omega) hne).trans ((hB3.block b (by omega)).trans (ho2 b hne))
  have hW6 : Went w1 G1 w6 (G1.crash0 w1.heap.size) := by
    refine ⟨⟨by rw [ht6.1, hB3.os, ht2.1], by rw [ht6.2.1, hB3.tape, ht2.2.1], by rw [ht6.2.2, hB3.output, ht2.2.2], by omega, fun b hb hr => ?_⟩, rfl, fun b hb => ?_⟩
    · have hne : b ≠ G.F := fun e => by rw [e, ← eF, hR1.rF] at hr; simp at hr
      exact (ho6 b (by omega) hne).trans ((hB3.block b (by omega)).trans (ho2 b hne))
    · show (if b = w1.heap.size then some Role.names else G1.role b) = G1.role b
      rw [if_neg (by omega)]
  have HT6 := hide hT6
  rw [hw6] at HT6
  have HW6 := hide hw6
  have HR6 := hide hR6
  have HWW := hide hW6
  have HM6 := hide hM6
  clear hT6 hR6 hW6 hM6 h6F ho6 ht6 hw6
  have HR1 := hide hR1
  have HW1 := hide hW1
  have HT3 := hide hT3
  have HB3 := hide hB3
  have HO2 := hide ho2
  have HT2 := hide ht2
  have H3F := hide h3F
  clear hR1 hW1 hT3 hB3 ho2 ht2 h3F h2F tD2 hw2 k4 f5 j5 k5 hv
  go_wp2_with (first
    | (at_range; refine wpList_range_own _ rfl _ 62 rfl 9 3 lawS Tryd.underlying62 _ w1.heap.size _ _ rfl (unhide HT6) ?_; intro w7 hrg7 hg7 hs7)
    | go_in)
  go_frame
  rw [← unhide HW6] at hrg7 hg7 hs7 ⊢
  obtain ⟨bd, hG⟩ := (unhide HOK).wf.goodD
  have HGD : Hid (Good s1.durable bd (fun n => (crash0S s1).files n ≠ none)) := hG
  have HFL : Hid (∀ n f, (crash0S s1).files n = some f → f.data.length ≤ 1048576) := fun n f hf => by have := (unhide HOK).fl n f hf; omega
  have HMD : Hid (Maps.size s1.durable ≤ 4096) := by have := (unhide HOK).mD; show Maps.size s1.durable ≤ 4096; omega
  have hbig : ∀ b, w6.heap.size ≤ b → (G1.crash0 w1.heap.size).role b = none := fun b hb => Classical.byContradiction fun hn => absurd ((unhide HR6).lt b hn) (by omega)
  have hrM : (G1.crash0 w1.heap.size).role w3.heap.size = none := by
    show (if w3.heap.size = w1.heap.size then some Role.names else G1.role w3.heap.size) = none
    rw [if_neg (by omega)]
    exact Classical.byContradiction fun hn => absurd ((unhide HR1).lt _ hn) (by omega)
  have hR7 : Rep w7 (G1.crash0 w1.heap.size) (crash0S s1) := (unhide HR6).congr hg7.size (fun b hb => hg7.block b ((unhide HR6).lt b hb) (by simp)) (glob_of (unhide HR6).glob (hg7.block 0 (unhide HR6).pos (by simp)))
  have hst : CrIn w1 w7 G1 (crash0S s1) s1.durable e w1.heap.size w6.heap.size w3.heap.size (Maps.has s1.durable) (Maps.size s1.durable) [] (G1.crash0 w1.heap.size) (.map []) := by
    refine ⟨hrg7, Collected.start _, by simp, by rw [crashedS_nil _ _ _ rfl]; exact hR7, ?_, rfl, rfl, fmap_congr (unhide HM6) (hg7.block _ (by omega) (by simp)), fun m => ?_, ?_, hrM, hbig _ (Nat.le_refl _), by omega, by omega, by omega, by omega⟩
    · exact (unhide HWW).trans ⟨⟨hg7.os, hg7.tape, hg7.output, hg7.size, fun b hb _ => hg7.block b hb (by simp)⟩, rfl, fun _ _ => rfl⟩
    · simp [numL]; rfl
    · intro m hm; cases hm
  have HWf : Hid (Wf s1) := (unhide HOK).wf
  clear hG hbig hrM hR7 hrg7 hg7 hs7 k33 k36 g33 g36 hs6
  go_loopw [8] (fun _ wr => ∃ (left : Lit → Bool) (cnt : Nat) (ss : List (List UInt8)) (G' : Lie) (DM2 : DataW Unit), CrIn w1 wr G1 (crash0S s1) s1.durable e w1.heap.size w6.heap.size w3.heap.size left cnt ss G' DM2 ∧ G'.F = G.F) (fun _ wr => wr.rangeLeft w1.heap.size w6.heap.size)
  case atStart => exact ⟨_, _, _, _, _, hst, eF⟩
  case round =>
    obtain ⟨left, cnt, ss, G', DM2, hC, eF'⟩ := hrel
    clear hst
    go_wp2_with (first
      | (at_next; refine wpList_next_ranges _ rfl _ rfl 9 lawS (plainElem Tryd.prog 3) encStr (Value.int .i64) (fun key kl hk => by obtain ⟨x, hx, _⟩ := Maps.keyOf_str Tryd.underlying9 hk; exact ⟨x, hx⟩) (fun v y hv => by obtain ⟨c, rfl, _⟩ := plainElem_int_inv Tryd.underlying3 hv; exact ⟨c, rfl⟩) w1.heap.size w6.heap.size _ _ _ _ rfl hC.rg ?_ ?_)
      | go_in)
    · intro hc0 hl0
      have hFr : wr.heap[G.F]? = some (.cells (fsCells (crashedS (crash0S s1) s1.durable e ss) G') 65 (0, 0)) := by rw [← eF']; exact hC.rep.fsb
      have j1 : wr.cell? ⟨G.F, 1, none⟩ = some (.map (some G'.M)) := cell_fs hFr rfl
      have j8 : wr.cell? ⟨G.F, 8, none⟩ = some (.int .i64 s1.armed) := cell_fs hFr rfl
      have j9 : wr.cell? ⟨G.F, 9, none⟩ = some (.bool s1.down) := cell_fs hFr rfl
      have f1 : wr.frozen? ⟨G.F, 1, none⟩ = false := free_fs hFr
      have f8 : wr.frozen? ⟨G.F, 8, none⟩ = false := free_fs hFr
      have f9 : wr.frozen? ⟨G.F, 9, none⟩ = false := free_fs hFr
      have HCC := hide hC
      have HL0 := hide hl0
      have HFr := hide hFr
      clear hC hl0 hFr hc0
      go_wp2_with fail
      go_end0
      rw [unhide HE]
      obtain ⟨wf, hwf⟩ : ∃ wf, wf = ((wr.setCell ⟨G.F, 1, none⟩ (.map (some w3.heap.size))).setCell ⟨G.F, 8, none⟩ (.int .i64 0)).setCell ⟨G.F, 9, none⟩ (.bool false) := ⟨_, rfl⟩
      rw [← hwf]
      obtain ⟨G9, h9, h10⟩ := crash_close (w' := wf) (unhide HCC) (unhide HWf) (unhide HL0) (by rw [hwf]; simp [World.setCell]) (by rw [hwf]; exact ⟨rfl, rfl, rfl⟩)
        (by rw [hwf, eF']; exact heap_setCell_at (heap_setCell_at (heap_setCell_at (unhide HFr) _) _) _)
        (fun b hb => by rw [eF'] at hb; rw [hwf]; exact (heap_setCell_ne (a := ⟨G.F, 9, none⟩) hb _).trans ((heap_setCell_ne (a := ⟨G.F, 8, none⟩) hb _).trans (heap_setCell_ne (a := ⟨G.F, 1, none⟩) hb _)))
      exact ⟨G9, rfl, h9, (unhide HW1).trans h10⟩
    · intro x c kl yd yp wn cnt2 hkey hlk hv hat hrg2 hlt hg2 hs2' hen
      obtain ⟨x', ex, rfl, _⟩ := Maps.keyOf_str Tryd.underlying9 hkey
      obtain rfl : x = x' := encStr_inj ex
      obtain ⟨c', ec, ey, hwf⟩ := plainElem_int_inv Tryd.underlying3 hv
      obtain rfl : c = c' := by simpa using ec
      have eyd : yd = .lit (.int .i64 c) := by simpa using congrArg Prod.fst ey
      subst eyd
      obtain ⟨z, d, fb, fa, fc, hz, hz1, hd1, k1, hlook, hcall⟩ := crash_round hC (unhide HGD) (unhide HFL) (unhide HMD) x c hlk hat hwf hrg2 hlt hg2
      rw [eF'] at k1 hcall
      have HC := hide hcall
      have HLT := hide hlt
      have HCC := hide hC
      have z1 : (z : Int) ≤ 4294967296 := by omega
      have d1 : (d : Int) ≤ 1048576 := by omega
      clear hcall hC hrg2 hg2 hs2' hlk hat hv hkey ex ec ey hz hlt hwf eF'
      go_wp2_with (go_at_call 38; refine (unhide HC).mono ?_; rintro en w4 ⟨rfl, w5, hrun, k6, f6, kf, hnext⟩; have HNX := hide hnext; clear hnext)
      go_region
      obtain ⟨G5, DM5, h5, e5⟩ := unhide HNX _ rfl
      have HRES := hide h5
      have HE5 := hide e5
      clear h5 e5
      go_wp2
      go_roundw
      case rel => exact ⟨_, _, _, G5, DM5, unhide HRES, unhide HE5⟩
      case measure => rw [(unhide HRES).rg.left_eq, (unhide HCC).rg.left_eq]; exact unhide HLT

end Go.Proofs.YtbdbobikiikbgaaDoor
