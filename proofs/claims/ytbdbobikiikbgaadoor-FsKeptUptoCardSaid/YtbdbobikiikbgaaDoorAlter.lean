/-
  The contract of alter: a change is done to the names and is pending from then on.
-/
import Derived.Test.YtbdbobikiikbgaaDoorMake
import Derived.Deep.RegionHeld3
import Derived.Deep.AppendLies
import Derived.Deep.RegionLaw
import Derived.Deep.DrawnRows
namespace Go.Proofs.YtbdbobikiikbgaaDoor
open Go.RowKit Go.WideMaps Go.Maps
attribute [local go_sem ↓] Go.wp_at_zero Go.wp_at_succ

/-- A closure, called: what its change does to the table. -/
theorem do_any {w : World} {role : Nat → Option Role} {c : Chg} {v : Value} (h : ChgAt w role c v) :
    ∃ g caps, v = .func (.func g) #[] caps ∧ ∀ (W : World) (N n : Nat) (D : DataW Unit), (∀ b, role b = some .cap → W.heap[b]? = w.heap[b]?) → Tab W N n D → n < maxLen →
      Calls Tryd.prog g (#[.map (some N)] ++ caps) W fun e w' => e = .returned (.int .i64 (c.old D)) ∧ Tab w' N (n + 1) (c.act D) ∧ W.mapTurned w' N := by
  cases c with
  | put s x =>
    obtain ⟨Bs, Bi, rfl, h2, h3, h4, h5, h6, h7⟩ := h
    refine ⟨61, _, rfl, fun W N n D hW hT hn => ?_⟩
    exact put_do N n Bs Bi D s x W hT hn h6 h7 ((World.cell?_of_block (hW Bs h4)).trans h2) ((World.cell?_of_block (hW Bi h5)).trans h3) _ (hT.num s h6).1
  | move fr tgt =>
    obtain ⟨Bt, Bf, rfl, h2, h3, h4, h5, h6, h7⟩ := h
    refine ⟨63, _, rfl, fun W N n D hW hT hn => ?_⟩
    exact move_do N n Bt Bf D tgt fr W hT hn h6 h7 ((World.cell?_of_block (hW Bt h4)).trans h2) ((World.cell?_of_block (hW Bf h5)).trans h3) _ _ (hT.num tgt h6).1 (hT.num fr h7).1
  | drop s =>
    obtain ⟨Bs, rfl, h2, h4, h6⟩ := h
    refine ⟨72, _, rfl, fun W N n D hW hT hn => ?_⟩
    refine (drop_do N n Bs D s W hT h6 ((World.cell?_of_block (hW Bs h4)).trans h2) _ (hT.num s h6).1).mono ?_
    rintro e w' ⟨h1, h2, h3⟩
    exact ⟨h1, World.ownsMap.mono h2 (Nat.le_succ _), h3⟩


theorem chgsAt_snoc {w : World} {r : Nat → Option Role} {c : Chg} {v : Value} (hc : ChgAt w r c v) : ∀ {cs : List Chg} {vs : List Value}, ChgsAt w r cs vs → ChgsAt w r (cs ++ [c]) (vs ++ [v])
  | [], [], _ => ⟨hc, trivial⟩
  | _ :: _, _ :: _, h => ⟨h.1, chgsAt_snoc hc h.2⟩
theorem chgCells_snoc {w : World} {r : Nat → Option Role} (c : Chg) (v : Value) : ∀ {cs : List Chg} {vs : List Value}, ChgsAt w r cs vs → chgCells (cs ++ [c]) (vs ++ [v]) = chgCells cs vs ++ [.string c.dir, v]
  | [], [], _ => rfl
  | _ :: _, _ :: _, h => by simp [chgCells, chgCells_snoc c v h.2]

/-- The names have turned, and nothing else. -/
theorem Rep.named {W w' : World} {G : Lie} {s : AS} {n : Nat} {D' : DataW Unit} (h : Rep W G s) (ht : W.mapTurned w' G.N) (hT : Tab w' G.N n D') : Rep w' G { s with names := D' } := by
  have hg := ht.grown
  have ho : ∀ b r, G.role b = some r → r ≠ .names → w'.heap[b]? = W.heap[b]? := by
    intro b r hb hr
    refine hg.block b (h.lt b (by rw [hb]; simp)) (fun e => ?_)
    have : b = G.N := by simpa using e
    rw [this, h.rN] at hb; exact hr (by simpa using hb.symm)
  refine ⟨(ho _ _ h.rF (by simp)).trans h.fsb, h.rF, h.rM, h.rN, h.rD, tab_size hT, tab_congr h.tD (ho _ _ h.rD (by simp)), fmap_congr h.fm (ho _ _ h.rM (by simp)), h.no0,
    row_congr h.pend (fun g hg => ho _ _ (h.rP g hg) (by simp)), h.rP, chgsAt_congr (fun b hb => ho b _ hb (by simp)) (fun _ hb => hb) h.chg, ?_, fun b hb => Nat.lt_of_lt_of_le (h.lt b hb) hg.size, ?_, h.r0, h.mM, h.conv⟩
  · intro k f hf
    have q := h.files k f hf
    exact ⟨q.map, q.rb, (ho _ _ q.rb (by simp)).trans q.block, row_congr q.row (fun g hg => ho g _ (q.rd g hg) (by simp)), q.rd, q.le⟩
  · refine glob_of h.glob (hg.block 0 h.pos (fun e => ?_))
    have := h.rN
    simp at e
    rw [← e, h.r0] at this; cases this

/-- Where the pending changes lie behind one more. -/
def Lie.pended (G : Lie) (g : Nat) (v pv : Value) : Lie := { G with pv := pv, cl := G.cl ++ [v], role := fun b => if b = g then some .pend else G.role b }

theorem Rep.pended {W w4 : World} {G : Lie} {s : AS} {c : Chg} {v : Value} {g cap : Nat} (h : Rep W G s) (hg : W.grownBy w4 G.pv.ownBlock) (hc : ChgAt W G.role c v)
    (hrow : w4.ownsRow 0 76 2 (.slice (some ⟨g, 0, none⟩) (s.pending.length + 1) cap) (s.pending.length + 1) (chgCells s.pending G.cl ++ [.string c.dir, v]))
    (hat : G.pv.ownBlock = some g ∨ W.heap.size ≤ g) (hlt : g < w4.heap.size) :
    Rep (w4.setCell ⟨G.F, 5, none⟩ (.slice (some ⟨g, 0, none⟩) (s.pending.length + 1) cap)) (G.pended g v (.slice (some ⟨g, 0, none⟩) (s.pending.length + 1) cap)) { s with pending := s.pending ++ [c] } ∧
    Fr G.role W (w4.setCell ⟨G.F, 5, none⟩ (.slice (some ⟨g, 0, none⟩) (s.pending.length + 1) cap)) ∧
    ∀ b, b < W.heap.size → (G.pended g v (.slice (some ⟨g, 0, none⟩) (s.pending.length + 1) cap)).role b = G.role b := by
  have hgr : ∀ b r, G.role b = some r → r ≠ .pend → b ≠ g := by
    intro b r hb hr e
    subst e
    rcases hat with h1 | h1
    · rw [h.rP b h1] at hb; exact hr (by simpa using hb.symm)
    · have := h.lt b (by rw [hb]; simp); omega
  have ho : ∀ b r, G.role b = some r → r ≠ .pend → w4.heap[b]? = W.heap[b]? := by
    intro b r hb hr
    refine hg.block b (h.lt b (by rw [hb]; simp)) (fun e => ?_)
    rw [h.rP b e.symm] at hb; exact hr (by simpa using hb.symm)
  have hF : ∀ b, b ≠ G.F → (w4.setCell ⟨G.F, 5, none⟩ (.slice (some ⟨g, 0, none⟩) (s.pending.length + 1) cap)).heap[b]? = w4.heap[b]? := fun b hb => heap_setCell_ne hb _
  have ne : ∀ b r, G.role b = some r → r ≠ .fs → b ≠ G.F := by
    intro b r hb hr e; subst e; rw [h.rF] at hb; exact hr (by simpa using hb.symm)
  have hall : ∀ b r, G.role b = some r → r ≠ .pend → r ≠ .fs → (w4.setCell ⟨G.F, 5, none⟩ (.slice (some ⟨g, 0, none⟩) (s.pending.length + 1) cap)).heap[b]? = W.heap[b]? :=
    fun b r hb h1 h2 => (hF b (ne b r hb h2)).trans (ho b r hb h1)
  have hrole : ∀ b r, G.role b = some r → r ≠ .pend → (G.pended g v (.slice (some ⟨g, 0, none⟩) (s.pending.length + 1) cap)).role b = some r := by
    intro b r hb hr
    show (if b = g then some .pend else G.role b) = some r
    rw [if_neg (hgr b r hb hr)]; exact hb
  have hgF : g ≠ G.F := fun e => (hgr G.F _ h.rF (by simp)) e.symm
  refine ⟨?_, ?_, ?_⟩
  · refine ⟨?_, hrole _ _ h.rF (by simp), hrole _ _ h.rM (by simp), hrole _ _ h.rN (by simp), hrole _ _ h.rD (by simp), tab_congr h.tN (hall _ _ h.rN (by simp) (by simp)), tab_congr h.tD (hall _ _ h.rD (by simp) (by simp)),
      fmap_congr h.fm (hall _ _ h.rM (by simp) (by simp)), h.no0, ?_, ?_, ?_, ?_, ?_, ?_, ?_, h.mM, h.conv⟩
    · have := heap_setCell_at (i := 5) (((ho _ _ h.rF (by simp)).trans h.fsb)) (.slice (some ⟨g, 0, none⟩) (s.pending.length + 1) cap)
      exact this
    · show World.ownsRow _ 0 76 2 _ (s.pending ++ [c]).length (chgCells (s.pending ++ [c]) (G.cl ++ [v]))
      rw [chgCells_snoc c v h.chg, List.length_append]
      refine row_congr hrow (fun k hk => hF k ?_)
      have e : some g = some k := hk
      have : k = g := by simpa using e.symm
      rw [this]; exact hgF
    · intro k hk
      have e : some g = some k := hk
      have : k = g := by simpa using e.symm
      subst this; simp [Lie.pended]
    · have h1 : ChgsAt W G.role (s.pending ++ [c]) (G.cl ++ [v]) := chgsAt_snoc hc h.chg
      exact chgsAt_congr (fun b hb => hall b _ hb (by simp) (by simp)) (fun b hb => hrole b _ hb (by simp)) h1
    · intro k f hf
      have q := h.files k f hf
      exact ⟨q.map, hrole _ _ q.rb (by simp), (hall _ _ q.rb (by simp) (by simp)).trans q.block, row_congr q.row (fun g hg => hall g _ (q.rd g hg) (by simp) (by simp)), fun g hg => hrole g _ (q.rd g hg) (by simp), q.le⟩
    · intro b hb
      have hsz : (w4.setCell ⟨G.F, 5, none⟩ (.slice (some ⟨g, 0, none⟩) (s.pending.length + 1) cap)).heap.size = w4.heap.size := by simp [World.setCell]
      rw [hsz]
      by_cases e : b = g
      · rw [e]; exact hlt
      · refine Nat.lt_of_lt_of_le (h.lt b ?_) hg.size
        simpa [Lie.pended, e] using hb
    · refine glob_of h.glob ((hF 0 (fun e => ?_)).trans (hg.block 0 h.pos (fun e => ?_)))
      · have := h.rF; rw [← e, h.r0] at this; cases this
      · have := h.rP 0 e.symm; rw [h.r0] at this; cases this
    · show (if 0 = g then some .pend else G.role 0) = none
      have : ¬ 0 = g := by
        intro e
        rcases hat with h1 | h1
        · have := h.rP g h1; rw [← e, h.r0] at this; cases this
        · have := h.pos; omega
      rw [if_neg this]; exact h.r0
  · refine ⟨hg.os, hg.tape, hg.output, by simpa [World.setCell] using hg.size, fun k hk hr => ?_⟩
    refine (hF k (fun e => ?_)).trans (hg.block k hk (fun e => ?_))
    · subst e; rw [h.rF] at hr; simp at hr
    · rw [h.rP k e.symm] at hr; simp at hr
  · intro b hb
    show (if b = g then some .pend else G.role b) = G.role b
    split
    · rename_i e; subst e
      rcases hat with h1 | h1
      · exact (h.rP b h1).symm
      · omega
    · rfl

def alterS (s : AS) (c : Chg) : AS :=
  { s with names := c.act s.names, pending := s.pending ++ [c], size := match s.files (c.old s.names) with | none => s.size | some f => s.size - f.data.length }

theorem cell_alloc_old {w : World} {a : Addr} {v : Value} {o : Obj} (h : w.cell? a = some v) : (w.alloc o).cell? a = some v :=
  (((Below.refl w.heap.size w).alloc (Nat.le_refl _) o).cell (lt_of_cell h)).trans h
theorem frozen_alloc_old {w : World} {a : Addr} {o : Obj} (hl : a.block < w.heap.size) (h : w.frozen? a = false) : (w.alloc o).frozen? a = false :=
  (((Below.refl w.heap.size w).alloc (Nat.le_refl _) o).frozen hl).trans h

theorem grown_drew {w w' : World} {row : Option Nat} (h : w.drew.grownBy w' row) : w.grownBy w' row := ⟨h.os, h.tape, h.output, h.size, h.block⟩

theorem alter_close {w W0 w2 w4 : World} {G : Lie} {s : AS} (s2 : AS) (c : Chg) {v : Value} {g cap : Nat} (hl0 : ∀ b, G.role b ≠ none → b < w.heap.size) (hR2 : Rep w2 G s2) (hc : ChgAt w G.role c v) (hF2 : Fr G.role W0 w2) (hB0 : Below w.heap.size w W0)
    (hg : w2.grownBy w4 G.pv.ownBlock) (hrow : w4.ownsRow 0 76 2 (.slice (some ⟨g, 0, none⟩) (s2.pending.length + 1) cap) (s2.pending.length + 1) (chgCells s2.pending G.cl ++ [.string c.dir, v]))
    (hat : G.pv.ownBlock = some g ∨ w2.heap.size ≤ g) (hlt : g < w4.heap.size) (hs : alterS s c = { s2 with pending := s2.pending ++ [c] }) :
    ∃ G', Ending.returned (.tuple #[]) = .returned (.tuple #[]) ∧ Rep (w4.setCell ⟨G.F, 5, none⟩ (.slice (some ⟨g, 0, none⟩) (s2.pending.length + 1) cap)) G' (alterS s c) ∧
      Fr G.role w (w4.setCell ⟨G.F, 5, none⟩ (.slice (some ⟨g, 0, none⟩) (s2.pending.length + 1) cap)) ∧ G'.F = G.F ∧ ∀ b, b < w.heap.size → G'.role b = G.role b := by
  have hF : Fr G.role w w2 := (Fr.of_below hB0).trans hF2 (fun _ _ => rfl)
  have hc2 : ChgAt w2 G.role c v := chgAt_congr hc (fun b hb => hF.block b (hl0 b (by rw [hb]; simp)) (Or.inr hb)) (fun _ hb => hb)
  obtain ⟨r1, r2, r3⟩ := hR2.pended hg hc2 hrow hat hlt
  rw [hs]
  exact ⟨_, rfl, r1, hF.trans r2 (fun _ _ => rfl), rfl, fun b hb => r3 b (Nat.lt_of_lt_of_le hb hF.size)⟩

theorem look_file {w : World} {G : Lie} {s : AS} (h : Rep w G s) (n : Int) (hn : (Lit.int .i64 n).wf = true) (f : AF) (hf : s.files n = some f) (nq : Nat) :
    (Instr.lookup 60 (.map (some G.M)) (.int .i64 n) false).run Tryd.prog (w.drewN nq) = .ok (.pointer (some ⟨G.fb n, 0, none⟩)) (w.drewN nq) := by
  obtain ⟨v, h1, h2⟩ := h.fm.look n hn
  rw [(h.files n f hf).map] at h2
  rcases h2 with ⟨_, e⟩ | ⟨b, rfl, e⟩
  · cases e
  · simp at e
    have : b = G.fb n := by omega
    rw [h1 nq, this]

theorem Tryd.info76 : (Tryd.prog.info? 76).map (fun i => (i.zero, i.size, i.bytes)) = some (some (.agg #[.string ByteArray.empty, .nilFunc]), 2, 24) := by kernel_rfl

end Go.Proofs.YtbdbobikiikbgaaDoor
