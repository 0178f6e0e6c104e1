/-
  One file turned; the contracts of Sync, Remove, Rename.
-/
import Derived.Test.YtbdbobikiikbgaaDoorWrite
namespace Go.Proofs.YtbdbobikiikbgaaDoor
open Go.RowKit Go.WideMaps Go.Maps

def setFile (s : AS) (n : Int) (f : AF) : AS := { s with files := fun m => if m = n then some f else s.files m }
def Lie.reput (G : Lie) (n : Int) (v : Value) : Lie := { G with dv := fun m => if m = n then v else G.dv m, role := fun k => if v.ownBlock = some k then some (.data n) else G.role k }

/-- One file has turned: its block, its row. -/
theorem Rep.reput {w w' : World} {G : Lie} {s : AS} {n : Int} {f f' : AF} {v : Value} (h : Rep w G s) (hf : s.files n = some f) (hs : w.heap.size ≤ w'.heap.size)
    (hblk : w'.heap[G.fb n]? = some (.cells #[v, .int .i64 f'.dur] 69 (0, 0))) (hrow : w'.ownsRow 0 5 1 v f'.data.length (bytesV f'.data)) (hat : ∀ g, v.ownBlock = some g → (G.dv n).ownBlock = some g ∨ w.heap.size ≤ g) (hle : f'.dur ≤ f'.data.length)
    (ho : ∀ b, b < w.heap.size → b ≠ G.fb n → (G.dv n).ownBlock ≠ some b → w'.heap[b]? = w.heap[b]?) :
    Rep w' (G.reput n v) (setFile s n f') ∧ ∀ b, b < w.heap.size → (G.reput n v).role b = G.role b := by
  have q := h.files n f hf
  have hr : ∀ b r, G.role b = some r → (G.reput n v).role b = some r := by
    intro b r hbr
    show (if v.ownBlock = some b then some (.data n) else G.role b) = some r
    split
    · rename_i e
      rcases hat b e with e2 | e2
      · rw [q.rd b e2] at hbr; exact hbr
      · have := h.lt b (by rw [hbr]; simp); omega
    · exact hbr
  have ho' : ∀ b r, G.role b = some r → r ≠ .file n → r ≠ .data n → w'.heap[b]? = w.heap[b]? := by
    intro b r hbr h1 h2
    refine ho b (h.lt b (by rw [hbr]; simp)) (fun e => ?_) (fun e => ?_)
    · rw [e, q.rb] at hbr; exact h1 (by simpa using hbr.symm)
    · rw [q.rd b e] at hbr; exact h2 (by simpa using hbr.symm)
  refine ⟨⟨(ho' _ _ h.rF (by simp) (by simp)).trans h.fsb, hr _ _ h.rF, hr _ _ h.rM, hr _ _ h.rN, hr _ _ h.rD, tab_congr h.tN (ho' _ _ h.rN (by simp) (by simp)), tab_congr h.tD (ho' _ _ h.rD (by simp) (by simp)),
    fmap_congr h.fm (ho' _ _ h.rM (by simp) (by simp)), h.no0, row_congr h.pend (fun g hg => ho' g _ (h.rP g hg) (by simp) (by simp)), fun g hg => hr g _ (h.rP g hg),
    chgsAt_congr (fun b hb => ho' b _ hb (by simp) (by simp)) (fun b hb => hr b _ hb) h.chg, ?_, ?_, ?_, ?_, h.mM, (fun m hm => by
      show (if m = n then some f' else s.files m) ≠ none
      split
      · simp
      · exact h.conv m hm)⟩, ?_⟩
  · intro m f1 hf1
    by_cases e : m = n
    · subst e
      have e1 : f' = f1 := by simpa [setFile] using hf1
      subst e1
      refine ⟨q.map, hr _ _ q.rb, ?_, ?_, ?_, hle⟩
      · show w'.heap[G.fb m]? = some (.cells #[if m = m then v else G.dv m, .int .i64 f'.dur] 69 (0, 0))
        rw [if_pos rfl]; exact hblk
      · show w'.ownsRow 0 5 1 (if m = m then v else G.dv m) _ _
        rw [if_pos rfl]; exact hrow
      · intro g hg
        have hg2 : v.ownBlock = some g := by simpa [Lie.reput] using hg
        show (if v.ownBlock = some g then some (.data m) else G.role g) = some (.data m)
        rw [if_pos hg2]
    · have hf2 : s.files m = some f1 := by simpa [setFile, e] using hf1
      have k := h.files m f1 hf2
      refine ⟨k.map, hr _ _ k.rb, ?_, ?_, ?_, k.le⟩
      · show w'.heap[G.fb m]? = some (.cells #[if m = n then v else G.dv m, .int .i64 f1.dur] 69 (0, 0))
        rw [if_neg e]; exact (ho' _ _ k.rb (by simpa using e) (by simp)).trans k.block
      · show w'.ownsRow 0 5 1 (if m = n then v else G.dv m) _ _
        rw [if_neg e]; exact row_congr k.row (fun g hg => ho' g _ (k.rd g hg) (by simp) (by simpa using e))
      · intro g hg
        have hg2 : (G.dv m).ownBlock = some g := by simpa [Lie.reput, e] using hg
        exact hr g _ (k.rd g hg2)
  · intro b hb
    by_cases e : v.ownBlock = some b
    · rcases hrow.2 with ⟨e1, _⟩ | ⟨g, cap, cur, e1, _, hh, _⟩
      · rw [e1] at e; cases e
      · rw [e1] at e
        have : g = b := by have e2 : some g = some b := e; simpa using e2
        rw [← this]; exact (Array.getElem?_eq_some_iff.1 hh).1
    · exact Nat.lt_of_lt_of_le (h.lt b (by simpa [Lie.reput, e] using hb)) hs
  · refine glob_of h.glob (ho 0 h.pos (fun e => ?_) (fun e => ?_))
    · have := q.rb; rw [← e, h.r0] at this; cases this
    · have := q.rd 0 e; rw [h.r0] at this; cases this
  · show (if v.ownBlock = some 0 then some (.data n) else G.role 0) = none
    rw [if_neg (fun e => ?_)]
    · exact h.r0
    · rcases hat 0 e with e2 | e2
      · have := q.rd 0 e2; rw [h.r0] at this; cases this
      · have := h.pos; omega
  · intro b hb
    show (if v.ownBlock = some b then some (.data n) else G.role b) = G.role b
    split
    · rename_i e
      rcases hat b e with e2 | e2
      · exact (q.rd b e2).symm
      · omega
    · rfl

/-- What every call on a file system keeps. -/
structure Went (w : World) (G : Lie) (w' : World) (G' : Lie) : Prop where
  fr : Fr G.role w w'
  F : G'.F = G.F
  role : ∀ b, b < w.heap.size → G'.role b = G.role b

theorem Went.refl (w : World) (G : Lie) : Went w G w G := ⟨Fr.refl _ _, rfl, fun _ _ => rfl⟩
theorem Went.trans {a b c : World} {G H K : Lie} (h : Went a G b H) (k : Went b H c K) : Went a G c K :=
  ⟨h.fr.trans k.fr h.role, k.F.trans h.F, fun x hx => (k.role x (Nat.lt_of_lt_of_le hx h.fr.size)).trans (h.role x hx)⟩
theorem Went.of_fr {w w' : World} {G : Lie} (h : Fr G.role w w') : Went w G w' G := ⟨h, rfl, fun _ _ => rfl⟩
theorem Went.of_below {w w' : World} {G : Lie} (h : Below w.heap.size w w') : Went w G w' G := .of_fr (.of_below h)

theorem none_zero {s : AS} {name : ByteArray} (h : noneE s name = 0) : num s.names name ≠ 0 := by
  unfold noneE at h
  split at h
  · simp at h
  · assumption

theorem Inv.get {s : AS} (hi : Inv s) {name : ByteArray} (h : num s.names name ≠ 0) : ∃ f, s.files (num s.names name) = some f := by
  cases hf : s.files (num s.names name) with
  | none => exact absurd hf (hi.names name h)
  | some f => exact ⟨f, rfl⟩

theorem sync_err {w : World} {G : Lie} {s : AS} (h : Rep w G s) (hb : Bd s) (name : ByteArray) (hn : name.size ≤ maxLen) (hE : beginE s (noneE s name) ≠ 0) :
    Calls Tryd.prog 15 #[.pointer (some ⟨G.F, 0, none⟩), .string name] w fun e w' => e = .returned (.int .i64 (beginE s (noneE s name))) ∧ Rep w' G (beginS s (noneE s name)) ∧ Fr G.role w w' := by
  have HN := hide (none_rep h name hn)
  have HBG := hide (begin_rep h hb (noneE s name))
  have hne : (beginE s (noneE s name) != 0) = true := by simp [hE]
  clear h hb hE
  go_enter Tryd.func15, Tryd.ntmps15
  go_wp2_with (first
    | (go_at_call 44; refine (unhide HN).mono ?_; rintro e w1 ⟨rfl, rfl⟩)
    | (go_at_call 39; refine (unhide HBG).mono ?_; rintro e w2 ⟨rfl, hR2, hF2⟩))
  go_ret
  exact ⟨rfl, hR2, hF2⟩

set_option maxHeartbeats 1000000 in
theorem sync_ok {w : World} {G : Lie} {s : AS} (h : Rep w G s) (hb : Bd s) (hi : Inv s) (name : ByteArray) (hn : name.size ≤ maxLen) (hE : beginE s (noneE s name) = 0) (f : AF) (hf : s.files (num s.names name) = some f) :
    Calls Tryd.prog 15 #[.pointer (some ⟨G.F, 0, none⟩), .string name] w fun e w' => ∃ G', e = .returned (.int .i64 0) ∧ Rep w' G' (setFile (beginS s (noneE s name)) (num s.names name) ⟨f.data, f.data.length⟩) ∧ Went w G w' G' := by
  have HN := hide (none_rep h name hn)
  have hbg := begin_rep h hb (noneE s name)
  rw [hE] at hbg
  have hs2 := begin_done hE
  obtain ⟨s2, hs⟩ : ∃ s2, s2 = beginS s (noneE s name) := ⟨_, rfl⟩
  rw [← hs] at hbg hs2 ⊢
  have en : s2.names = s.names := by rw [hs2]
  have ef : s2.files = s.files := by rw [hs2]
  have hf2 : s2.files (num s2.names name) = some f := by rw [en, ef]; exact hf
  rw [← en]
  have hfl := hi.len _ f hf
  have HBG := hide hbg
  have HF2 := hide hf2
  obtain ⟨x, hx⟩ : ∃ x, x = num s2.names name := ⟨_, rfl⟩
  rw [← hx]
  have HX := hide hx
  clear h hb hi hE hbg hs2 hs en ef hf hf2 hx
  go_enter Tryd.func15, Tryd.ntmps15
  go_wp2_with (first
    | (go_at_call 44; refine (unhide HN).mono ?_; rintro e w1 ⟨rfl, rfl⟩)
    | (go_at_call 39; refine (unhide HBG).mono ?_; rintro e w2 ⟨rfl, hR2, hF2⟩))
  refine (file_some hR2 name hn f (unhide HF2)).mono ?_
  rintro e w3 ⟨rfl, nq, rfl⟩
  rw [← unhide HX]
  have q := hR2.files x f (by rw [unhide HX]; exact unhide HF2)
  obtain ⟨fa, fc, hfv⟩ := row_form q.row
  have k0 : w2.cell? ⟨G.fb x, 0, none⟩ = some (.slice fa f.data.length fc) := by rw [← hfv]; exact cell_fs q.block rfl
  have k1 : w2.cell? ⟨G.fb x, 1, none⟩ = some (.int .i64 f.dur) := cell_fs q.block rfl
  have f1 : w2.frozen? ⟨G.fb x, 1, none⟩ = false := free_fs q.block
  have HR2 := hide hR2
  have HQ := hide q
  have HW := hide hF2
  clear hR2 q hF2 hfv
  go_wp2
  go_ret
  obtain ⟨w3, hw3⟩ : ∃ w3, w3 = (w2.drewN nq).setCell ⟨G.fb x, 1, none⟩ (.int .i64 f.data.length) := ⟨_, rfl⟩
  have hh : ∀ b, b ≠ G.fb x → w3.heap[b]? = w2.heap[b]? := fun b hb => by rw [hw3]; exact heap_setCell_ne (w := w2.drewN nq) (a := ⟨G.fb x, 1, none⟩) hb _
  have hz : w3.heap.size = w2.heap.size := by rw [hw3]; simp [World.setCell]
  have hB : w3.heap[G.fb x]? = some (.cells #[G.dv x, .int .i64 (f.data.length : Nat)] 69 (0, 0)) := by rw [hw3]; exact heap_setCell_at (w := w2.drewN nq) (i := 1) (unhide HQ).block _
  have hfx : s2.files x = some f := by rw [unhide HX]; exact unhide HF2
  have hne : ∀ g, (G.dv x).ownBlock = some g → g ≠ G.fb x := by
    intro g hg e
    have := (unhide HQ).rd g hg; rw [e, (unhide HQ).rb] at this; simp at this
  obtain ⟨r1, r2⟩ := (unhide HR2).reput (f' := ⟨f.data, f.data.length⟩) hfx (Nat.le_of_eq hz.symm) hB (row_congr (unhide HQ).row (fun g hg => hh g (hne g hg))) (fun g hg => Or.inl hg) (Nat.le_refl _) (fun b _ hb _ => hh b hb)
  rw [← hw3]
  refine ⟨_, rfl, r1, (Went.of_fr (unhide HW)).trans ⟨⟨by rw [hw3]; rfl, by rw [hw3]; rfl, by rw [hw3]; rfl, Nat.le_of_eq hz.symm, fun k _ hr => hh k (fun e => ?_)⟩, rfl, r2⟩⟩
  rw [e, (unhide HQ).rb] at hr; simp at hr

end Go.Proofs.YtbdbobikiikbgaaDoor
