/-
  The contract of settle.
-/
import Derived.Test.YtbdbobikiikbgaaDoorSettle
namespace Go.Proofs.YtbdbobikiikbgaaDoor
open Go.RowKit Go.WideMaps Go.Maps
attribute [local go_sem ↓] Go.wp_at_zero Go.wp_at_succ

/-- What one round does: the change, done to the durable names; the file that it gave up, struck from the files. -/
theorem settle_step {wr : World} {G : Lie} {s : AS} (k : Nat) (c : Chg) (hc : s.pending[k]? = some c) (hR : Rep wr G (midS s k)) (hm : Maps.size (midS s k).durable < maxLen) :
    ∃ v, (chgCells s.pending G.cl)[k * 2]? = some (.string c.dir) ∧ (chgCells s.pending G.cl)[k * 2 + 1]? = some v ∧
     ∃ g caps, v = .func (.func g) #[] caps ∧ ChgAt wr G.role c v ∧ ∀ (cells : Array Value) (W : World), W.heap = (wr.alloc (.cells cells 76)).heap → W.os = wr.os → W.tape = wr.tape → W.output = wr.output →
      Calls Tryd.prog g (#[.map (some G.D)] ++ caps) W fun e w4 => ∃ w5, e = .returned (.int .i64 (c.old (foldD s k).1)) ∧
        (Builtin.delete_ #[60, 3] 0 #[.map (some G.M), .int .i64 (c.old (foldD s k).1)]).run Tryd.prog w4 = .ok (.tuple #[]) w5 ∧
        Rep w5 (G.erased (c.old (foldD s k).1)) (midS s (k + 1)) ∧ Fr G.role wr w5 ∧
        w4.cell? ⟨G.F, 1, none⟩ = some (.map (some G.M)) ∧ w4.cell? ⟨G.F, 4, none⟩ = some (.map (some G.D)) ∧ w4.heap[wr.heap.size]? = some (.cells cells 76 (0, 0)) ∧
        w5.cell? ⟨G.F, 1, none⟩ = some (.map (some G.M)) ∧ w5.cell? ⟨G.F, 4, none⟩ = some (.map (some G.D)) ∧ w5.heap[wr.heap.size]? = some (.cells cells 76 (0, 0)) := by
  obtain ⟨v, h1, h2, h3, h4⟩ := chg_get hR.chg k c hc
  obtain ⟨g, caps, hv, hdo⟩ := do_any h2
  refine ⟨v, h3, h4, g, caps, hv, h2, fun cells W e1 e2 e3 e4 => ?_⟩
  have hb : Below wr.heap.size wr (wr.alloc (.cells cells 76)) := (Below.refl _ _).alloc (Nat.le_refl _) _
  have hB0 : (wr.alloc (.cells cells 76)).heap[wr.heap.size]? = some (.cells cells 76 (0, 0)) := heap_alloc_new wr _
  have hRW : Rep W G (midS s k) := (hR.below hb).congr (by rw [e1]; exact Nat.le_refl _) (fun b _ => by rw [e1]) (glob_of (hR.below hb).glob (by rw [e1]))
  have hWs : W.heap.size = wr.heap.size + 1 := by rw [e1]; exact alloc_size _ _
  have lD := hR.lt G.D (by rw [hR.rD]; simp)
  have lM := hR.lt G.M (by rw [hR.rM]; simp)
  refine (hdo W G.D _ (midS s k).durable (fun b hb' => by rw [e1]; exact hb.block b (hR.lt b (by rw [hb']; simp))) hRW.tD hm).mono ?_
  rintro e w4 ⟨rfl, hT4, ht4⟩
  have hR4 := hRW.durabled ht4 hT4
  have hwf := old_wf h2 hR.tD
  obtain ⟨w5, hd, hT5, ht5⟩ := World.ownsMap.drop hR4.fm lawI Tryd.underlying60 (keyOf_int_mk Tryd.underlying3 hwf) 0
  have hR5 := hR4.erased _ ht5 hT5
  have g4 := ht4.grown
  have g5 := ht5.grown
  have nD : wr.heap.size ≠ G.D := by omega
  have nM : wr.heap.size ≠ G.M := by omega
  have k4 : w4.heap[wr.heap.size]? = some (.cells cells 76 (0, 0)) := by
    rw [g4.block wr.heap.size (by omega) (fun e => nD (by simpa using e)), e1]; exact hB0
  have k5 : w5.heap[wr.heap.size]? = some (.cells cells 76 (0, 0)) :=
    (g5.block wr.heap.size (by have := g4.size; omega) (fun e => nM (by simpa using e))).trans k4
  have es : midS s (k + 1) = { { midS s k with durable := c.act (midS s k).durable } with files := fun m => if m = c.old (midS s k).durable then none else (midS s k).files m } := by
    simp only [midS]; rw [foldD_succ s k c hc]; rfl
  refine ⟨w5, rfl, hd, by rw [es]; exact hR5, ?_, cell_fs hR4.fsb rfl, cell_fs hR4.fsb rfl, k4, cell_fs hR5.fsb rfl, cell_fs hR5.fsb rfl, k5⟩
  refine ⟨g5.os.trans (g4.os.trans e2), g5.tape.trans (g4.tape.trans e3), g5.output.trans (g4.output.trans e4), by have := g4.size; have := g5.size; omega, fun b hb' hr => ?_⟩
  have n1 : some b ≠ some G.M := by
    intro e
    have e' : b = G.M := by simpa using e
    rw [e', hR.rM] at hr; simp at hr
  have n2 : some b ≠ some G.D := by
    intro e
    have e' : b = G.D := by simpa using e
    rw [e', hR.rD] at hr; simp at hr
  rw [g5.block b (by have := g4.size; omega) n1, g4.block b (by omega) n2, e1]
  exact hb.block b hb'

theorem chgCells_drop {w : World} {r : Nat → Option Role} : ∀ {cs : List Chg} {vs : List Value}, ChgsAt w r cs vs → ∀ k, chgCells (cs.drop k) (vs.drop k) = (chgCells cs vs).drop (k * 2) ∧ ChgsAt w r (cs.drop k) (vs.drop k)
  | [], [], _, k => by simp [chgCells, ChgsAt]
  | _ :: _, _ :: _, h, 0 => ⟨rfl, h⟩
  | _ :: cs, _ :: vs, h, k + 1 => by
    obtain ⟨h1, h2⟩ := chgCells_drop h.2 k
    refine ⟨?_, by simpa using h2⟩
    rw [show (k + 1) * 2 = k * 2 + 1 + 1 by omega]
    simpa [chgCells] using h1

theorem chgCells_one {w : World} {r : Nat → Option Role} : ∀ {cs : List Chg} {vs : List Value}, ChgsAt w r cs vs → ∀ u ∈ chgCells cs vs, u.oneCell' = true
  | [], [], _, u, hu => by simp [chgCells] at hu
  | c :: cs, v :: vs, h, u, hu => by
    simp only [chgCells, List.mem_cons] at hu
    rcases hu with rfl | rfl | hu
    · rfl
    · cases c with
      | put s x => obtain ⟨_, _, rfl, _⟩ := h.1; rfl
      | move fr tgt => obtain ⟨_, _, rfl, _⟩ := h.1; rfl
      | drop s => obtain ⟨_, rfl, _⟩ := h.1; rfl
    · exact chgCells_one h.2 u hu

/-- The first changes are pending no more. -/
theorem Rep.dropped {W w2 : World} {G : Lie} {s : AS} {g cap cnt : Nat} {cur' : Array Value} (h : Rep W G s) (hpv : G.pv = .slice (some ⟨g, 0, none⟩) s.pending.length cap) (hg : W.grownBy w2 (some g)) (hc : cnt ≤ s.pending.length)
    (hb : w2.heap[g]? = some (.cells cur' 76 (0, 0))) (hz : cur'.size = cap * 2) (ht : cur'.toList.take ((s.pending.length - cnt) * 2) = (chgCells s.pending G.cl).drop (cnt * 2)) (hcap : s.pending.length ≤ cap ∧ cap ≤ maxLen) :
    Rep (w2.setCell ⟨G.F, 5, none⟩ (.slice (some ⟨g, 0, none⟩) (s.pending.length - cnt) cap)) { G with pv := .slice (some ⟨g, 0, none⟩) (s.pending.length - cnt) cap, cl := G.cl.drop cnt } { s with pending := s.pending.drop cnt } ∧
    Fr G.role W (w2.setCell ⟨G.F, 5, none⟩ (.slice (some ⟨g, 0, none⟩) (s.pending.length - cnt) cap)) := by
  have hgp : G.role g = some .pend := h.rP g (by rw [hpv]; rfl)
  have ho : ∀ b r, G.role b = some r → r ≠ .pend → w2.heap[b]? = W.heap[b]? := by
    intro b r hb hr
    refine hg.block b (h.lt b (by rw [hb]; simp)) (fun e => ?_)
    have e' : b = g := by simpa using e
    rw [e', hgp] at hb; exact hr (by simpa using hb.symm)
  have hF : ∀ b, b ≠ G.F → (w2.setCell ⟨G.F, 5, none⟩ (.slice (some ⟨g, 0, none⟩) (s.pending.length - cnt) cap)).heap[b]? = w2.heap[b]? := fun b hb => heap_setCell_ne hb _
  have ne : ∀ b r, G.role b = some r → r ≠ .fs → b ≠ G.F := by
    intro b r hb hr e; subst e; rw [h.rF] at hb; exact hr (by simpa using hb.symm)
  have hall : ∀ b r, G.role b = some r → r ≠ .pend → r ≠ .fs → (w2.setCell ⟨G.F, 5, none⟩ (.slice (some ⟨g, 0, none⟩) (s.pending.length - cnt) cap)).heap[b]? = W.heap[b]? :=
    fun b r hb h1 h2 => (hF b (ne b r hb h2)).trans (ho b r hb h1)
  obtain ⟨d1, d2⟩ := chgCells_drop h.chg cnt
  refine ⟨⟨?_, h.rF, h.rM, h.rN, h.rD, tab_congr h.tN (hall _ _ h.rN (by simp) (by simp)), tab_congr h.tD (hall _ _ h.rD (by simp) (by simp)),
      fmap_congr h.fm (hall _ _ h.rM (by simp) (by simp)), h.no0, ?_, ?_, ?_, ?_, ?_, ?_, h.r0, h.mM, h.conv⟩, ?_⟩
  · exact heap_setCell_at (i := 5) (((ho _ _ h.rF (by simp)).trans h.fsb)) (.slice (some ⟨g, 0, none⟩) (s.pending.length - cnt) cap)
  · refine ⟨?_, Or.inr ⟨g, cap, cur', by simp, Nat.zero_le _, (hF g (ne g _ hgp (by simp))).trans hb, ?_, hcap.2, hz, ?_⟩⟩
    · show (chgCells (s.pending.drop cnt) (G.cl.drop cnt)).length = (s.pending.drop cnt).length * 2
      rw [d1, List.length_drop, h.pend.1]; simp; omega
    · simp; omega
    · show cur'.toList.take ((s.pending.drop cnt).length * 2) = chgCells (s.pending.drop cnt) (G.cl.drop cnt)
      rw [d1, List.length_drop]; exact ht
  · intro k hk
    have e : some g = some k := hk
    have : k = g := by simpa using e.symm
    subst this; exact hgp
  · exact chgsAt_congr (fun b hb => hall b _ hb (by simp) (by simp)) (fun _ hb => hb) d2
  · intro k f hf
    have q := h.files k f hf
    exact ⟨q.map, q.rb, (hall _ _ q.rb (by simp) (by simp)).trans q.block, row_congr q.row (fun g hg => hall g _ (q.rd g hg) (by simp) (by simp)), q.rd, q.le⟩
  · intro b hb'
    have hsz : (w2.setCell ⟨G.F, 5, none⟩ (.slice (some ⟨g, 0, none⟩) (s.pending.length - cnt) cap)).heap.size = w2.heap.size := by simp [World.setCell]
    rw [hsz]; exact Nat.lt_of_lt_of_le (h.lt b hb') hg.size
  · refine glob_of h.glob ((hF 0 (fun e => ?_)).trans (hg.block 0 h.pos (fun e => ?_)))
    · have := h.rF; rw [← e, h.r0] at this; cases this
    · have e' : 0 = g := by simpa using e
      rw [← e', h.r0] at hgp; cases hgp
  · refine ⟨hg.os, hg.tape, hg.output, by simpa [World.setCell] using hg.size, fun k hk hr => ?_⟩
    refine (hF k (fun e => ?_)).trans (hg.block k hk (fun e => ?_))
    · subst e; rw [h.rF] at hr; simp at hr
    · have e' : k = g := by simpa using e
      rw [e', hgp] at hr; simp at hr

end Go.Proofs.YtbdbobikiikbgaaDoor
