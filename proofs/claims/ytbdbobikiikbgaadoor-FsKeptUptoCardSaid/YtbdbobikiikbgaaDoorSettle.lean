/-
  What settling changes does to a file system; the frame lemmas of the durable names and of the map of files.
-/
import Derived.Test.YtbdbobikiikbgaaDoorDelete
namespace Go.Proofs.YtbdbobikiikbgaaDoor
open Go.RowKit Go.WideMaps Go.Maps

def stepD (p : DataW Unit × (Int → Option AF)) (c : Chg) : DataW Unit × (Int → Option AF) := (c.act p.1, fun n => if n = c.old p.1 then none else p.2 n)
def foldD (s : AS) (k : Nat) : DataW Unit × (Int → Option AF) := (s.pending.take k).foldl stepD (s.durable, s.files)
def midS (s : AS) (k : Nat) : AS := { s with durable := (foldD s k).1, files := (foldD s k).2 }
def settleS (s : AS) (k : Nat) : AS := { s with durable := (foldD s k).1, files := (foldD s k).2, pending := s.pending.drop k }

theorem foldD_succ (s : AS) (k : Nat) (c : Chg) (h : s.pending[k]? = some c) : foldD s (k + 1) = stepD (foldD s k) c := by
  have hk : k < s.pending.length := (List.getElem?_eq_some_iff.1 h).1
  have : s.pending.take (k + 1) = s.pending.take k ++ [c] := by
    rw [List.take_add_one, h]; rfl
  unfold foldD
  rw [this, List.foldl_append]; rfl

theorem Rep.durabled {W w' : World} {G : Lie} {s : AS} {n : Nat} {D' : DataW Unit} (h : Rep W G s) (ht : W.mapTurned w' G.D) (hT : Tab w' G.D n D') : Rep w' G { s with durable := D' } := by
  have hg := ht.grown
  have ho : ∀ b r, G.role b = some r → r ≠ .durable → w'.heap[b]? = W.heap[b]? := by
    intro b r hb hr
    refine hg.block b (h.lt b (by rw [hb]; simp)) (fun e => ?_)
    have : b = G.D := by simpa using e
    rw [this, h.rD] at hb; exact hr (by simpa using hb.symm)
  refine ⟨(ho _ _ h.rF (by simp)).trans h.fsb, h.rF, h.rM, h.rN, h.rD, tab_congr h.tN (ho _ _ h.rN (by simp)), tab_size hT, fmap_congr h.fm (ho _ _ h.rM (by simp)), h.no0,
    row_congr h.pend (fun g hg => ho _ _ (h.rP g hg) (by simp)), h.rP, chgsAt_congr (fun b hb => ho b _ hb (by simp)) (fun _ hb => hb) h.chg, ?_, fun b hb => Nat.lt_of_lt_of_le (h.lt b hb) hg.size, ?_, h.r0, h.mM, h.conv⟩
  · intro k f hf
    have q := h.files k f hf
    exact ⟨q.map, q.rb, (ho _ _ q.rb (by simp)).trans q.block, row_congr q.row (fun g hg => ho g _ (q.rd g hg) (by simp)), q.rd, q.le⟩
  · refine glob_of h.glob (hg.block 0 h.pos (fun e => ?_))
    have := h.rD
    simp at e
    rw [← e, h.r0] at this; cases this

def Lie.erased (G : Lie) (x : Int) : Lie := { G with DM := G.DM.del (.int .i64 x) }

theorem Rep.erased {W w' : World} {G : Lie} {s : AS} {n : Nat} (x : Int) (h : Rep W G s) (ht : W.mapTurned w' G.M) (hT : Fmap w' G.M n (G.DM.del (.int .i64 x))) : Rep w' (G.erased x) { s with files := fun m => if m = x then none else s.files m } := by
  have hg := ht.grown
  have ho : ∀ b r, G.role b = some r → r ≠ .files → w'.heap[b]? = W.heap[b]? := by
    intro b r hb hr
    refine hg.block b (h.lt b (by rw [hb]; simp)) (fun e => ?_)
    have : b = G.M := by simpa using e
    rw [this, h.rM] at hb; exact hr (by simpa using hb.symm)
  refine ⟨(ho _ _ h.rF (by simp)).trans h.fsb, h.rF, h.rM, h.rN, h.rD, tab_congr h.tN (ho _ _ h.rN (by simp)), tab_congr h.tD (ho _ _ h.rD (by simp)), fmap_size hT, ?_,
    row_congr h.pend (fun g hg => ho _ _ (h.rP g hg) (by simp)), h.rP, chgsAt_congr (fun b hb => ho b _ hb (by simp)) (fun _ hb => hb) h.chg, ?_, fun b hb => Nat.lt_of_lt_of_le (h.lt b hb) hg.size, ?_, h.r0, ?_, ?_⟩
  · show (G.DM.del (.int .i64 x)).atKey (.int .i64 0) .nil = .nil
    by_cases e : x = 0
    · subst e; exact atKey_del_same _
    · rw [atKey_del_other (by intro e'; simp at e'; exact e e'.symm)]; exact h.no0
  · intro k f hf
    have hf' : (if k = x then none else s.files k) = some f := hf
    split at hf'
    · cases hf'
    · rename_i e
      have q := h.files k f hf'
      refine ⟨?_, q.rb, (ho _ _ q.rb (by simp)).trans q.block, row_congr q.row (fun g hg => ho g _ (q.rd g hg) (by simp)), q.rd, q.le⟩
      show (G.DM.del (.int .i64 x)).atKey (.int .i64 k) .nil = _
      rw [atKey_del_other (by intro e'; simp at e'; exact e e')]; exact q.map
  · refine glob_of h.glob (hg.block 0 h.pos (fun e => ?_))
    have := h.rM
    simp at e
    rw [← e, h.r0] at this; cases this
  · show (Maps.size (G.DM.del (.int .i64 x)) : Int) ≤ s.newest
    have := size_del (k := .int .i64 x) (World.ownsMap.tidy h.fm lawI)
    have := h.mM
    omega
  · intro m hm
    have hm' : Maps.has (G.DM.del (.int .i64 x)) (.int .i64 m) = true := hm
    show (if m = x then none else s.files m) ≠ none
    by_cases e : m = x
    · subst e; rw [has_del_same] at hm'; cases hm'
    · rw [has_del_other (by intro e'; simp at e'; exact e e')] at hm'
      rw [if_neg e]; exact h.conv m hm'

theorem tab_tidy {w : World} {N n : Nat} {D : DataW Unit} (h : Tab w N n D) : Tidy D := World.ownsMap.tidy h lawS
theorem keyStr (l : List UInt8) : WideAt.IsKeyLit (.string l) := by simp [WideAt.IsKeyLit]

theorem act_tidy {D : DataW Unit} (h : Tidy D) (c : Chg) : Tidy (c.act D) := by
  cases c with
  | put s x => exact h.put (keyStr _) _
  | move fr tgt => exact (h.put (keyStr _) _).del _
  | drop s => exact h.del _
theorem act_size {D : DataW Unit} (h : Tidy D) (c : Chg) : Maps.size (c.act D) ≤ Maps.size D + 1 := by
  cases c with
  | put s x =>
    show Maps.size (D.put _ _) ≤ _
    rw [size_put h]; split <;> omega
  | move fr tgt =>
    show Maps.size ((D.put _ _).del _) ≤ _
    have h1 := size_del (k := key fr) (h.put (keyStr tgt.data.toList) (i64 (num D fr)))
    have h2 : Maps.size (D.put (key tgt) (i64 (num D fr))) ≤ Maps.size D + 1 := by rw [size_put h]; split <;> omega
    unfold key at h1 h2 ⊢
    omega
  | drop s =>
    show Maps.size (D.del _) ≤ _
    have h1 := size_del (k := key s) h
    omega

theorem foldD_tidy (s : AS) (h : Tidy s.durable) : ∀ k, k ≤ s.pending.length → Tidy (foldD s k).1 ∧ Maps.size (foldD s k).1 ≤ Maps.size s.durable + k
  | 0, _ => ⟨h, Nat.le_refl _⟩
  | k + 1, hk => by
    obtain ⟨h1, h2⟩ := foldD_tidy s h k (by omega)
    have hc : s.pending[k]? = some (s.pending[k]'(by omega)) := by simp
    rw [foldD_succ s k _ hc]
    exact ⟨act_tidy h1 _, by have := act_size h1 (s.pending[k]'(by omega)); show Maps.size (Chg.act (foldD s k).1 _) ≤ _; omega⟩

theorem chg_get {w : World} {r : Nat → Option Role} : ∀ {cs : List Chg} {vs : List Value}, ChgsAt w r cs vs → ∀ k c, cs[k]? = some c → ∃ v, vs[k]? = some v ∧ ChgAt w r c v ∧ (chgCells cs vs)[k * 2]? = some (.string c.dir) ∧ (chgCells cs vs)[k * 2 + 1]? = some v
  | [], [], _, k, c, hk => by simp at hk
  | a :: cs, b :: vs, h, 0, c, hk => by
    obtain rfl : a = c := by simpa using hk
    exact ⟨b, rfl, h.1, rfl, rfl⟩
  | a :: cs, b :: vs, h, k + 1, c, hk => by
    obtain ⟨v, h1, h2, h3, h4⟩ := chg_get h.2 k c (by simpa using hk)
    refine ⟨v, by simpa using h1, h2, ?_, ?_⟩
    · rw [show (k + 1) * 2 = k * 2 + 1 + 1 by omega]; simpa [chgCells] using h3
    · rw [show (k + 1) * 2 + 1 = k * 2 + 1 + 1 + 1 by omega]; simpa [chgCells] using h4

theorem row_cell {w : World} {base e size n : Nat} {v : Value} {xs : List Value} (h : w.ownsRow base e size v n xs) {k : Nat} {u : Value} (hu : xs[k]? = some u) : ∃ g cap, v = .slice (some ⟨g, 0, none⟩) n cap ∧ w.cell? ⟨g, k, none⟩ = some u := by
  have hk := (List.getElem?_eq_some_iff.1 hu).1
  rcases h.2 with ⟨_, h2⟩ | ⟨g, cap, cur, h1, _, hh, h3, h4, h5, h6⟩
  · have := h.1; subst h2; omega
  · refine ⟨g, cap, h1, ?_⟩
    rw [← h6, List.getElem?_take] at hu
    split at hu
    · simp only [World.cell?, hh]; simpa using hu
    · cases hu

end Go.Proofs.YtbdbobikiikbgaaDoor
