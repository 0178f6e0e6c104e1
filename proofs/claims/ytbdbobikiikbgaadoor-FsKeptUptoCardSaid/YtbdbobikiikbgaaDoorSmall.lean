/-
  The contracts of the small methods: begin, Arm, Down, Steps, Size, and of what tells a write's own error.
-/
import Derived.Test.YtbdbobikiikbgaaDoorRep
namespace Go.Proofs.YtbdbobikiikbgaaDoor
open Go.RowKit Go.WideMaps Go.Maps

theorem heap_setCell_at {w : World} {F i : Nat} {cs : Array Value} {e : TypeId} {fr : Nat × Nat} (h : w.heap[F]? = some (.cells cs e fr)) (v : Value) :
    (w.setCell ⟨F, i, none⟩ v).heap[F]? = some (.cells (cs.setIfInBounds i v) e fr) := by
  have hlt := (Array.getElem?_eq_some_iff.1 h).1
  have he := (Array.getElem?_eq_some_iff.1 h).2
  simp only [World.setCell]
  rw [Array.getElem?_modify]
  simp [h]

theorem heap_setCell_ne {w : World} {a : Addr} {b : Nat} (h : b ≠ a.block) (v : Value) : (w.setCell a v).heap[b]? = w.heap[b]? := Below.heap_setCell _ _ _ _ h

/-- Only numbers of the file system's own struct have turned. -/
theorem Rep.scal {w w' : World} {G : Lie} {s s' : AS} (h : Rep w G s) (h1 : s'.names = s.names) (h2 : s'.durable = s.durable) (h3 : s'.pending = s.pending) (h4 : s'.files = s.files) (h5 : s.newest ≤ s'.newest)
    (hw : w'.heap[G.F]? = some (.cells (fsCells s' G) 65 (0, 0))) (ho : ∀ b, b ≠ G.F → w'.heap[b]? = w.heap[b]?) (hz : w.heap.size ≤ w'.heap.size) : Rep w' G s' := by
  have ne : ∀ b r, r ≠ Role.fs → G.role b = some r → b ≠ G.F := by
    intro b r hr hb e; subst e; rw [h.rF] at hb; exact hr (by simpa using hb.symm)
  refine ⟨hw, h.rF, h.rM, h.rN, h.rD, ?_, ?_, ?_, h.no0, ?_, h.rP, ?_, ?_, fun b hb => Nat.lt_of_lt_of_le (h.lt b hb) hz, ?_, h.r0, Int.le_trans h.mM h5, fun n hn => by rw [h4]; exact h.conv n hn⟩
  · rw [h1]; exact tab_congr h.tN (ho _ (ne _ _ (by simp) h.rN))
  · rw [h2]; exact tab_congr h.tD (ho _ (ne _ _ (by simp) h.rD))
  · exact fmap_congr h.fm (ho _ (ne _ _ (by simp) h.rM))
  · rw [h3]; exact row_congr h.pend (fun g hg => ho g (ne _ _ (by simp) (h.rP g hg)))
  · rw [h3]; exact chgsAt_congr (fun b hb => ho b (ne _ _ (by simp) hb)) (fun _ hb => hb) h.chg
  · intro n f hf
    rw [h4] at hf
    have k := h.files n f hf
    exact ⟨k.map, k.rb, (ho _ (ne _ _ (by simp) k.rb)).trans k.block, row_congr k.row (fun g hg => ho g (ne _ _ (by simp) (k.rd g hg))), k.rd, k.le⟩
  · exact glob_of h.glob (ho 0 (fun e => by have := h.rF; rw [← e, h.r0] at this; cases this))

theorem fr_own {w w' : World} {G : Lie} {s : AS} (h : Rep w G s) (h0 : w'.os = w.os) (h1 : w'.tape = w.tape) (h2 : w'.output = w.output) (hz : w.heap.size ≤ w'.heap.size) (ho : ∀ b, b ≠ G.F → w'.heap[b]? = w.heap[b]?) : Fr G.role w w' :=
  ⟨h0, h1, h2, hz, fun k _ hr => ho k (fun e => by subst e; rw [h.rF] at hr; simp at hr)⟩

theorem cell_fs {w : World} {F i : Nat} {cs : Array Value} {e : TypeId} {fr : Nat × Nat} {v : Value} (h : w.heap[F]? = some (.cells cs e fr)) (hv : cs[i]? = some v) : w.cell? ⟨F, i, none⟩ = some v := by
  simp [World.cell?, h, hv]
theorem free_fs {w : World} {F i : Nat} {cs : Array Value} {e : TypeId} (h : w.heap[F]? = some (.cells cs e (0, 0))) : w.frozen? ⟨F, i, none⟩ = false := by
  simp [World.frozen?, h]

/-- What the numbers of a file system keep to. -/
structure Bd (s : AS) : Prop where
  q0 : 0 ≤ s.quota
  q1 : s.quota ≤ 67108864
  n0 : 0 ≤ s.newest
  n1 : s.newest ≤ 1099511627776
  z0 : -1099511627776 ≤ s.size
  z1 : s.size ≤ 1099511627776
  t0 : 0 ≤ s.steps
  t1 : s.steps ≤ 1099511627776
  a0 : 0 ≤ s.armed
  a1 : s.armed ≤ 9223372036854775807
  mN : Maps.size s.names ≤ 1099511627776
  mD : Maps.size s.durable ≤ 1099511627776
  mP : s.pending.length ≤ 1099511627776

def beginE (s : AS) (own : Int) : Int := if s.down then 5 else if own = 0 then (if s.armed = 1 then 5 else 0) else own
def beginS (s : AS) (own : Int) : AS :=
  if s.down then s else if own = 0 then (if s.armed = 1 then { s with armed := 0, down := true } else { s with armed := max (s.armed - 1) 0, steps := s.steps + 1 }) else s

theorem begin_rep {w : World} {G : Lie} {s : AS} (h : Rep w G s) (hb : Bd s) (own : Int) :
    Calls Tryd.prog 39 #[.pointer (some ⟨G.F, 0, none⟩), .int .i64 own] w fun e w' => e = .returned (.int .i64 (beginE s own)) ∧ Rep w' G (beginS s own) ∧ Fr G.role w w' := by
  have f7 := free_fs (i := 7) h.fsb
  have f8 := free_fs (i := 8) h.fsb
  have f9 := free_fs (i := 9) h.fsb
  have c7 : w.cell? ⟨G.F, 7, none⟩ = some (.int .i64 s.steps) := cell_fs h.fsb rfl
  have c8 : w.cell? ⟨G.F, 8, none⟩ = some (.int .i64 s.armed) := cell_fs h.fsb rfl
  have c9 : w.cell? ⟨G.F, 9, none⟩ = some (.bool s.down) := cell_fs h.fsb rfl
  cases hd : s.down
  · rw [hd] at c9
    by_cases ho : own = 0
    · subst ho
      by_cases ha : s.armed = 1
      · rw [ha] at c8
        refine (begin_armed G.F w c8 c9 f8 f9).mono ?_
        rintro e w' ⟨rfl, rfl⟩
        have e1 : beginS s 0 = { s with armed := 0, down := true } := by simp [beginS, hd, ha]
        refine ⟨by simp [beginE, hd, ha], ?_, fr_own h rfl rfl rfl (by simp [World.setCell]) (fun b hb => (heap_setCell_ne hb _).trans (heap_setCell_ne hb _))⟩
        rw [e1]
        exact h.scal rfl rfl rfl rfl (Int.le_refl _) (heap_setCell_at (heap_setCell_at h.fsb _) _) (fun b hb => (heap_setCell_ne hb _).trans (heap_setCell_ne hb _)) (by simp [World.setCell])
      · refine (begin_ok G.F s.steps s.armed w c7 c8 c9 f7 f8 (by simp [ha]) hb.a0 hb.a1 hb.t0 (by have := hb.t1; omega)).mono ?_
        rintro e w' ⟨rfl, rfl⟩
        have e1 : beginS s 0 = { s with armed := max (s.armed - 1) 0, steps := s.steps + 1 } := by simp [beginS, hd, ha]
        refine ⟨by simp [beginE, hd, ha], ?_, fr_own h rfl rfl rfl (by simp [World.setCell]) (fun b hb => (heap_setCell_ne hb _).trans (heap_setCell_ne hb _))⟩
        rw [e1]
        exact h.scal rfl rfl rfl rfl (Int.le_refl _) (heap_setCell_at (heap_setCell_at h.fsb _) _) (fun b hb => (heap_setCell_ne hb _).trans (heap_setCell_ne hb _)) (by simp [World.setCell])
    · refine (begin_own G.F own w c9 (by simp [ho])).mono ?_
      rintro e w' ⟨rfl, rfl⟩
      exact ⟨by simp [beginE, hd, ho], by simpa [beginS, hd, ho] using h, Fr.refl _ _⟩
  · rw [hd] at c9
    refine (begin_down G.F own w c9).mono ?_
    rintro e w' ⟨rfl, rfl⟩
    exact ⟨by simp [beginE, hd], by simpa [beginS, hd] using h, Fr.refl _ _⟩

theorem arm_rep {w : World} {G : Lie} {s : AS} (h : Rep w G s) (n : Int) :
    Calls Tryd.prog 19 #[.pointer (some ⟨G.F, 0, none⟩), .int .i64 n] w fun e w' => e = .returned (.tuple #[]) ∧ Rep w' G { s with armed := max n 0 } ∧ Fr G.role w w' := by
  have hR := hide h
  have f8 := free_fs (i := 8) h.fsb
  have c8 : w.cell? ⟨G.F, 8, none⟩ = some (.int .i64 s.armed) := cell_fs h.fsb rfl
  obtain ⟨F, hF⟩ : ∃ F, F = G.F := ⟨_, rfl⟩
  rw [← hF] at f8 c8 ⊢
  have HF := hide hF
  clear h hF
  by_cases hn : n < 0
  · have e0 : max n 0 = 0 := by omega
    have HM := hide e0
    clear e0
    go_enter Tryd.func19, Tryd.ntmps19
    go_wp2
    go_end0
    rw [unhide HM, unhide HF]
    exact ⟨rfl, (unhide hR).scal rfl rfl rfl rfl (Int.le_refl _) (heap_setCell_at (unhide hR).fsb _) (fun b hb => heap_setCell_ne hb _) (by simp [World.setCell]), fr_own (unhide hR) rfl rfl rfl (by simp [World.setCell]) (fun b hb => heap_setCell_ne hb _)⟩
  · have e0 : max n 0 = n := by omega
    have HM := hide e0
    clear e0
    go_enter Tryd.func19, Tryd.ntmps19
    go_wp2
    go_end0
    rw [unhide HM, unhide HF]
    exact ⟨rfl, (unhide hR).scal rfl rfl rfl rfl (Int.le_refl _) (heap_setCell_at (unhide hR).fsb _) (fun b hb => heap_setCell_ne hb _) (by simp [World.setCell]), fr_own (unhide hR) rfl rfl rfl (by simp [World.setCell]) (fun b hb => heap_setCell_ne hb _)⟩

theorem down_rep {w : World} {G : Lie} {s : AS} (h : Rep w G s) :
    Calls Tryd.prog 27 #[.pointer (some ⟨G.F, 0, none⟩)] w fun e w' => e = .returned (.bool s.down) ∧ w' = w := by
  have c9 : w.cell? ⟨G.F, 9, none⟩ = some (.bool s.down) := cell_fs h.fsb rfl
  clear h
  go_enter Tryd.func27, Tryd.ntmps27
  go_wp2
  go_ret
  exact ⟨rfl, rfl⟩

theorem steps_rep {w : World} {G : Lie} {s : AS} (h : Rep w G s) :
    Calls Tryd.prog 29 #[.pointer (some ⟨G.F, 0, none⟩)] w fun e w' => e = .returned (.int .i64 s.steps) ∧ w' = w := by
  have c9 : w.cell? ⟨G.F, 7, none⟩ = some (.int .i64 s.steps) := cell_fs h.fsb rfl
  clear h
  go_enter Tryd.func29, Tryd.ntmps29
  go_wp2
  go_ret
  exact ⟨rfl, rfl⟩

theorem size_rep {w : World} {G : Lie} {s : AS} (h : Rep w G s) :
    Calls Tryd.prog 31 #[.pointer (some ⟨G.F, 0, none⟩)] w fun e w' => e = .returned (.int .i64 s.size) ∧ w' = w := by
  have c9 : w.cell? ⟨G.F, 6, none⟩ = some (.int .i64 s.size) := cell_fs h.fsb rfl
  clear h
  go_enter Tryd.func31, Tryd.ntmps31
  go_wp2
  go_ret
  exact ⟨rfl, rfl⟩

theorem Tab.num {w : World} {N n : Nat} {D : DataW Unit} (h : Tab w N n D) (s : ByteArray) (hs : s.size ≤ maxLen) : D.atKey (.string s.data.toList) (i64 0) = i64 (num D s) ∧ (Lit.int .i64 (num D s)).wf = true := by
  obtain ⟨c, _, h2, h3⟩ := h.look s hs
  have : YtbdbobikiikbgaaDoor.num D s = c := by simp [YtbdbobikiikbgaaDoor.num, h2]
  rw [this]; exact ⟨h2, h3⟩

theorem has_rep {w : World} {G : Lie} {s : AS} (h : Rep w G s) (name : ByteArray) (hn : name.size ≤ maxLen) :
    Calls Tryd.prog 50 #[.pointer (some ⟨G.F, 0, none⟩), .string name] w fun e w' => e = .returned (.bool (num s.names name != 0)) ∧ w' = w :=
  has_any G.F G.N _ s.names name w (cell_fs h.fsb rfl) h.tN hn _ (h.tN.num name hn).1

def noneE (s : AS) (name : ByteArray) : Int := if num s.names name = 0 then 2 else 0

theorem none_rep {w : World} {G : Lie} {s : AS} (h : Rep w G s) (name : ByteArray) (hn : name.size ≤ maxLen) :
    Calls Tryd.prog 44 #[.pointer (some ⟨G.F, 0, none⟩), .string name] w fun e w' => e = .returned (.int .i64 (noneE s name)) ∧ w' = w := by
  have hc := has_rep h name hn
  have HE : Hid (noneE s name = if num s.names name = 0 then 2 else 0) := rfl
  clear h
  generalize noneE s name = E at HE ⊢
  generalize num s.names name = c at hc HE
  by_cases h0 : c = 0
  · subst h0
    have HC := hide hc
    clear hc
    go_enter Tryd.func44, Tryd.ntmps44
    go_wp2_with (go_at_call 50; refine (unhide HC).mono ?_; rintro e w1 ⟨rfl, rfl⟩)
    go_ret
    exact ⟨by rw [HE.out]; rfl, rfl⟩
  · have hb : (c != 0) = true := by simp [h0]
    rw [hb] at hc
    have HC := hide hc
    have H0 := hide h0
    clear hc hb h0
    go_enter Tryd.func44, Tryd.ntmps44
    go_wp2_with (go_at_call 50; refine (unhide HC).mono ?_; rintro e w1 ⟨rfl, rfl⟩)
    go_ret
    exact ⟨by rw [HE.out, if_neg (unhide H0)]; rfl, rfl⟩

def appendE (s : AS) (name : ByteArray) (len : Int) : Int := if num s.names name = 0 then 2 else if s.quota < s.size + len then 4 else 0

theorem appendErr_rep {w : World} {G : Lie} {s : AS} (h : Rep w G s) (hb : Bd s) (name : ByteArray) (hn : name.size ≤ maxLen) (len : Int) (hl0 : 0 ≤ len) (hl1 : len ≤ 140737488355328) :
    Calls Tryd.prog 56 #[.pointer (some ⟨G.F, 0, none⟩), .string name, .int .i64 len] w fun e w' => e = .returned (.int .i64 (appendE s name len)) ∧ ∃ nq, w' = w.drewN nq := by
  have hc := has_rep h name hn
  have c6 : w.cell? ⟨G.F, 6, none⟩ = some (.int .i64 s.size) := cell_fs h.fsb rfl
  have c0 : w.cell? ⟨G.F, 0, none⟩ = some (.int .i64 s.quota) := cell_fs h.fsb rfl
  have HE : Hid (appendE s name len = if num s.names name = 0 then 2 else if s.quota < s.size + len then 4 else 0) := rfl
  have hz0 := hb.z0
  have hz1 := hb.z1
  clear h hb
  generalize appendE s name len = E at HE ⊢
  generalize num s.names name = c at hc HE
  generalize s.size = z at *
  generalize s.quota = q at *
  by_cases h0 : c = 0
  · subst h0
    have HC := hide hc
    clear hc
    go_enter Tryd.func56, Tryd.ntmps56
    go_wp2_with (go_at_call 50; refine (unhide HC).mono ?_; rintro e w1 ⟨rfl, rfl⟩)
    go_ret
    exact ⟨by rw [HE.out]; rfl, 0, rfl⟩
  · have hb : (c != 0) = true := by simp [h0]
    rw [hb] at hc
    have HC := hide hc
    have H0 := hide h0
    clear hc hb h0
    by_cases hq : q < z + len
    · go_enter Tryd.func56, Tryd.ntmps56
      go_wp2_with (go_at_call 50; refine (unhide HC).mono ?_; rintro e w1 ⟨rfl, rfl⟩)
      go_quiet (fail)
      go_wp2
      go_ret
      exact ⟨by rw [HE.out, if_neg (unhide H0), if_pos hq]; rfl, nq, rfl⟩
    · go_enter Tryd.func56, Tryd.ntmps56
      go_wp2_with (go_at_call 50; refine (unhide HC).mono ?_; rintro e w1 ⟨rfl, rfl⟩)
      go_quiet (fail)
      go_wp2
      go_ret
      exact ⟨by rw [HE.out, if_neg (unhide H0), if_neg (by omega)]; rfl, nq, rfl⟩

end Go.Proofs.YtbdbobikiikbgaaDoor
