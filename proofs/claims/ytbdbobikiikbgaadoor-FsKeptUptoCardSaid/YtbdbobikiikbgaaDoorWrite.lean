/-
  The contract of Write.
-/
import Derived.Test.YtbdbobikiikbgaaDoorFiled
namespace Go.Proofs.YtbdbobikiikbgaaDoor
open Go.RowKit Go.WideMaps Go.Maps
attribute [local go_sem ↓] Go.wp_at_zero Go.wp_at_succ

/-- Behind a Write that is done: the file, then the name. -/
def wroteS (s : AS) (name : ByteArray) (l : List UInt8) : AS :=
  alterS { s with newest := s.newest + 1, size := s.size + l.length, files := fun n => if n = s.newest + 1 then some ⟨l, 0⟩ else s.files n } (.put name (s.newest + 1))

theorem Bd.begin {s : AS} (hb : Bd s) (own : Int) (h : s.steps + 1 ≤ 1099511627776) : Bd (beginS s own) := by
  unfold beginS
  split
  · exact hb
  · split
    · split
      · exact ⟨hb.q0, hb.q1, hb.n0, hb.n1, hb.z0, hb.z1, hb.t0, hb.t1, by simp, by simp, hb.mN, hb.mD, hb.mP⟩
      · exact ⟨hb.q0, hb.q1, hb.n0, hb.n1, hb.z0, hb.z1, by have := hb.t0; simp; omega, by simpa using h, by simp; omega, by have := hb.a1; simp; omega, hb.mN, hb.mD, hb.mP⟩
    · exact hb

theorem Inv.begin {s : AS} (hi : Inv s) (own : Int) : Inv (beginS s own) := by
  unfold beginS
  split
  · exact hi
  · split
    · split
      · exact ⟨hi.names, hi.durable, hi.zero, hi.len⟩
      · exact ⟨hi.names, hi.durable, hi.zero, hi.len⟩
    · exact hi

set_option maxRecDepth 100000 in
set_option maxHeartbeats 2000000 in
theorem write_err {w : World} {G : Lie} {s : AS} (h : Rep w G s) (hb : Bd s) (hi : Inv s) (name : ByteArray) (hn : name.size ≤ maxLen) {a : Option Addr} {n : Nat} (cp : Nat) (hl : n ≤ 1099511627776)
    (hE : beginE s (writeE s name n) ≠ 0) :
    Calls Tryd.prog 14 #[.pointer (some ⟨G.F, 0, none⟩), .string name, .slice a n cp] w fun e w' => e = .returned (.int .i64 (beginE s (writeE s name n))) ∧ Rep w' G (beginS s (writeE s name n)) ∧ Fr G.role w w' := by
  have hw := writeErr_rep h hb name hn n (by omega) (by omega) (hi.names name) hi.len
  have HW := hide hw
  have HR := hide h
  have HBD := hide hb
  have HE : Hid (beginE s (writeE s name n) ≠ 0) := hE
  have hne : (beginE s (writeE s name n) != 0) = true := by simp [hE]
  clear hw h hb hi hE
  go_enter Tryd.func14, Tryd.ntmps14
  go_wp2_with (first
    | (go_at_call 40; refine (unhide HW).mono ?_; rintro e w1 ⟨rfl, hbl⟩)
    | (go_at_call 39; refine (begin_rep ((unhide HR).below hbl) (unhide HBD) _).mono ?_; rintro e w2 ⟨rfl, hR2, hF2⟩))
  go_ret
  exact ⟨rfl, hR2, (Fr.of_below hbl).trans hF2 (fun _ _ => rfl)⟩

theorem bytes_fr {w w' : World} {role : Nat → Option Role} {a : Option Addr} {n : Nat} {l : List UInt8} (h : Bytes w a n l) (hr : ∀ ad, a = some ad → 0 < n → role ad.block = none) (hf : Fr role w w') : Bytes w' a n l :=
  ⟨h.len, h.nil, fun ad ha i hi => by
    have hc := h.cell ad ha i hi
    have hb : (ad.add i).block = ad.block := by unfold Addr.add; split <;> rfl
    refine (World.cell?_of_block (w := w) (hf.block _ (lt_of_cell hc) (Or.inl (by rw [hb]; exact hr ad ha (by omega))))).trans hc⟩

theorem begin_zero {s : AS} {own : Int} (h : beginE s own = 0) : own = 0 ∧ s.down = false ∧ ¬ s.armed = 1 := by
  unfold beginE at h
  split at h
  · simp at h
  · rename_i hd
    split at h
    · rename_i ho
      split at h
      · simp at h
      · rename_i ha
        exact ⟨ho, by simpa using hd, ha⟩
    · rename_i ho; exact absurd h ho

theorem begin_done {s : AS} {own : Int} (h : beginE s own = 0) : beginS s own = { s with armed := max (s.armed - 1) 0, steps := s.steps + 1 } := by
  obtain ⟨h1, h2, h3⟩ := begin_zero h
  simp [beginS, h1, h2, h3]

theorem wf_of {x : Int} (h0 : 0 ≤ x) (h1 : x ≤ 1099511627777) : (Lit.int .i64 x).wf = true := WalkArith.wf_i64 (by omega)

/-- A new file, made in the world W that is w but for draws. -/
theorem filed_call {w : World} {G : Lie} {s : AS} (h : Rep w G s) {a : Option Addr} (cp : Nat) (l : List UInt8) (hby : Bytes w a l.length l) (hl : l.length ≤ 1099511627776) (x : Int) (hx : (Lit.int .i64 x).wf = true) (hx0 : x ≠ 0)
    (hM : (Maps.size G.DM : Int) + 1 ≤ s.newest) (hM2 : s.newest ≤ 1099511627776) (n1 : Int) (hn1 : s.newest = n1) (W : World) (e1 : W.heap = w.heap) (e2 : W.os = w.os) (e3 : W.tape = w.tape) (e4 : W.output = w.output) :
    Calls Tryd.prog 41 #[.slice a l.length cp] W fun e w4 => ∃ a' c' w5, e = .returned (.slice a' l.length c') ∧
      (Instr.mapUpdate 60 (.map (some G.M)) (.int .i64 x) (.pointer (some ⟨w4.heap.size, 0, none⟩))).run Tryd.prog (w4.alloc (.cells #[.slice a' l.length c', .int .i64 0] 69)) = .ok () w5 ∧
      Rep w5 (G.filed x w4.heap.size (.slice a' l.length c')) { s with files := fun n => if n = x then some ⟨l, 0⟩ else s.files n } ∧ Fr G.role w w5 ∧
      (∀ b, b < w.heap.size → (G.filed x w4.heap.size (.slice a' l.length c')).role b = G.role b) ∧
      w4.cell? ⟨G.F, 1, none⟩ = some (.map (some G.M)) ∧ w4.cell? ⟨G.F, 2, none⟩ = some (.int .i64 n1) ∧ w5.cell? ⟨G.F, 1, none⟩ = some (.map (some G.M)) ∧ w5.cell? ⟨G.F, 2, none⟩ = some (.int .i64 n1) ∧ G.F ≠ w4.heap.size := by
  have hRW : Rep W G s := h.congr (by rw [e1]; exact Nat.le_refl _) (fun b _ => by rw [e1]) (glob_of h.glob (by rw [e1]))
  have hbW : Bytes W a l.length l := ⟨hby.len, hby.nil, fun ad ha i hi => (World.cell?_of_block (w := w) (by rw [e1])).trans (hby.cell ad ha i hi)⟩
  refine (clone_any cp hbW (by omega)).mono ?_
  rintro e w4 ⟨a', c', rfl, hrow, hbl⟩
  obtain ⟨w5, hrun, hR5, hF5, hro⟩ := hRW.filed hbl hrow x hx hx0 hM hM2
  have hR4 := hRW.below hbl
  subst hn1
  refine ⟨a', c', w5, rfl, hrun, hR5, ⟨hF5.os.trans e2, hF5.tape.trans e3, hF5.output.trans e4, by have := hF5.size; rw [e1] at this; exact this, fun k hk hr => by have := hF5.block k (by rw [e1]; exact hk) hr; rw [e1] at this; exact this⟩,
    fun b hb => hro b (by rw [e1]; exact hb), cell_fs hR4.fsb rfl, cell_fs hR4.fsb rfl, cell_fs hR5.fsb rfl, cell_fs hR5.fsb rfl, ?_⟩
  have := hRW.lt G.F (by rw [hRW.rF]; simp)
  have := hbl.size
  omega

theorem put_rep {w : World} {G : Lie} {s : AS} (h : Rep w G s) (name : ByteArray) (hn : name.size < 4611686018427387904) (x : Int) (hx : (Lit.int .i64 x).wf = true) :
    Calls Tryd.prog 43 #[.string name, .int .i64 x] w fun e w' => ∃ v G', e = .returned (.agg #[.string (dirB name), v]) ∧ Rep w' G' s ∧ ChgAt w' G'.role (.put name x) v ∧ Fr G.role w w' ∧ G'.F = G.F ∧ ∀ b, b < w.heap.size → G'.role b = G.role b := by
  refine (put_world name x w hn).mono ?_
  rintro e w' ⟨rfl, o, rfl⟩
  have hb : Below w.heap.size w (((w.alloc (.cells #[.string name] 9)).alloc (.cells #[.int .i64 x] 3)).alloc o) := (((Below.refl _ _).alloc (Nat.le_refl _) _).alloc (by simp) _).alloc (by simp; omega) _
  refine ⟨_, G.capped w.heap.size (w.heap.size + 1), rfl, h.capped hb _ _ (Nat.le_refl _) (by omega) (by simp <;> omega) (by simp <;> omega), ⟨w.heap.size, w.heap.size + 1, rfl, ?_, ?_, by simp [Lie.capped], by simp [Lie.capped], by unfold maxLen; omega, hx⟩, Fr.of_below hb, rfl, ?_⟩
  · exact cell_alloc_old (cell_alloc_old (cell_fs (heap_alloc_new w _) rfl))
  · have := heap_alloc_new (w.alloc (.cells #[.string name] 9)) (.cells #[.int .i64 x] 3)
    rw [alloc_size] at this
    exact cell_alloc_old (cell_fs this rfl)
  · intro b hb'
    show (if b = w.heap.size ∨ b = w.heap.size + 1 then some .cap else G.role b) = G.role b
    rw [if_neg (by omega)]

theorem Inv.filed {s : AS} (hi : Inv s) (x : Int) (l : List UInt8) (q z : Int) (hx : x ≠ 0) (hl : l.length ≤ 1099511627776) :
    Inv { s with newest := q, size := z, files := fun n => if n = x then some ⟨l, 0⟩ else s.files n } := by
  refine ⟨fun name h => ?_, fun name h => ?_, ?_, ?_⟩
  · show (if num s.names name = x then some (⟨l, 0⟩ : AF) else s.files (num s.names name)) ≠ none
    split
    · simp
    · exact hi.names name h
  · show (if num s.durable name = x then some (⟨l, 0⟩ : AF) else s.files (num s.durable name)) ≠ none
    split
    · simp
    · exact hi.durable name h
  · show (if (0 : Int) = x then some (⟨l, 0⟩ : AF) else s.files 0) = none
    rw [if_neg (fun e => hx e.symm)]; exact hi.zero
  · intro n f hf
    simp only at hf
    split at hf
    · obtain rfl : (⟨l, 0⟩ : AF) = f := by simpa using hf
      exact hl
    · exact hi.len n f hf

set_option maxRecDepth 100000 in
set_option maxHeartbeats 2000000 in
theorem write_ok {w : World} {G : Lie} {s : AS} (h : Rep w G s) (hb : Bd s) (hi : Inv s) (name : ByteArray) (hn : name.size < 4611686018427387904) {a : Option Addr} (cp : Nat) (l : List UInt8) (hby : Bytes w a l.length l) (hbr : ∀ ad, a = some ad → 0 < l.length → G.role ad.block = none)
    (hl : l.length ≤ 1099511627776) (hE : beginE s (writeE s name l.length) = 0) (r1 : s.newest + 1 ≤ 1099511627776) (r2 : s.size + l.length ≤ 1099511627776) (r3 : s.steps + 1 ≤ 1099511627776) :
    Calls Tryd.prog 14 #[.pointer (some ⟨G.F, 0, none⟩), .string name, .slice a l.length cp] w fun e w' => ∃ G', e = .returned (.int .i64 0) ∧ Rep w' G' (wroteS (beginS s (writeE s name l.length)) name l) ∧ Fr G.role w w' ∧ G'.F = G.F ∧ ∀ b, b < w.heap.size → G'.role b = G.role b := by
  have hw := writeErr_rep h hb name (by unfold maxLen; omega) l.length (by omega) (by omega) (hi.names name) hi.len
  have hbd := hb.begin (writeE s name l.length) r3
  have hin := hi.begin (writeE s name l.length)
  have hs2 := begin_done hE
  obtain ⟨s2, hs⟩ : ∃ s2, s2 = beginS s (writeE s name l.length) := ⟨_, rfl⟩
  have n1 : s2.newest = s.newest := by rw [hs, hs2]
  have z1 : s2.size = s.size := by rw [hs, hs2]
  rw [← hs] at hbd hin ⊢
  have HBG : Hid (∀ w1, Below w.heap.size w w1 → Calls Tryd.prog 39 #[.pointer (some ⟨G.F, 0, none⟩), .int .i64 (writeE s name l.length)] w1 fun e w' => e = .returned (.int .i64 0) ∧ Rep w' G s2 ∧ Fr G.role w w') := by
    intro w1 hbl
    have := begin_rep (h.below hbl) hb (writeE s name l.length)
    rw [hE, ← hs] at this
    exact this.mono (fun e w' ⟨h1, h2, h3⟩ => ⟨h1, h2, (Fr.of_below hbl).trans h3 (fun _ _ => rfl)⟩)
  have q0 := hbd.n0
  have q1 := hbd.z0
  rw [← n1] at r1
  rw [← z1] at r2
  have HW := hide hw
  have HBD := hide hbd
  have HIN := hide hin
  have HBY : Hid (∀ w', Fr G.role w w' → Bytes w' a l.length l) := fun w' hf => bytes_fr hby hbr hf
  clear hw h hb hi hE hs hs2 n1 z1 hbd hin hby
  go_enter Tryd.func14, Tryd.ntmps14
  go_wp2_with (first
    | (go_at_call 40; refine (unhide HW).mono ?_; rintro e w1 ⟨rfl, hbl⟩)
    | (go_at_call 39; refine (unhide HBG _ hbl).mono ?_; rintro e w2 ⟨rfl, hR2, hF2⟩; have k2 : w2.cell? ⟨G.F, 2, none⟩ = some (.int .i64 s2.newest) := cell_fs hR2.fsb rfl; have f2 : w2.frozen? ⟨G.F, 2, none⟩ = false := free_fs hR2.fsb))
  obtain ⟨w3, hw3⟩ : ∃ w3, w3 = w2.setCell ⟨G.F, 2, none⟩ (.int .i64 (s2.newest + 1)) := ⟨_, rfl⟩
  rw [← hw3]
  have hR3 : Rep w3 G { s2 with newest := s2.newest + 1 } := by
    rw [hw3]
    exact hR2.scal rfl rfl rfl rfl (by show s2.newest ≤ s2.newest + 1; omega) (heap_setCell_at hR2.fsb _) (fun b hb => heap_setCell_ne hb _) (by simp [World.setCell])
  have hF3 : Fr G.role w w3 := hF2.trans (by rw [hw3]; exact fr_own hR2 rfl rfl rfl (by simp [World.setCell]) (fun b hb => heap_setCell_ne hb _)) (fun _ _ => rfl)
  have k13 : w3.cell? ⟨G.F, 1, none⟩ = some (.map (some G.M)) := cell_fs hR3.fsb rfl
  have k23 : w3.cell? ⟨G.F, 2, none⟩ = some (.int .i64 (s2.newest + 1)) := cell_fs hR3.fsb rfl
  have HCL : Hid (∀ W : World, W.heap = w3.heap → W.os = w3.os → W.tape = w3.tape → W.output = w3.output → _) := fun W e1 e2 e3 e4 =>
    filed_call hR3 cp l (unhide HBY w3 hF3) hl (s2.newest + 1) (wf_of (by omega) (by omega)) (by omega) (by have := hR2.mM; show (Maps.size G.DM : Int) + 1 ≤ s2.newest + 1; omega) (by show s2.newest + 1 ≤ _; omega) (s2.newest + 1) rfl W e1 e2 e3 e4
  have lF3 : G.F < w3.heap.size := hR3.lt _ (by rw [hR3.rF]; simp)
  have HF3 := hide hF3
  clear hw3 hR2 hF2 k2 f2 hR3 hF3
  go_wp2_with fail
  go_region_held3 (fun w' => w'.cell? ⟨G.F, 1, none⟩ = some (.map (some G.M)) ∧ w'.cell? ⟨G.F, 2, none⟩ = some (.int .i64 (s2.newest + 1)))
    (go_keep)
    ((go_at_call 41; refine (unhide HCL _ (by rfl) (by rfl) (by rfl) (by rfl)).mono ?_; rintro e w4 ⟨a', c', w5, rfl, hrun, hR5, hF5, hro, k14, k24, k15, k25, hne4⟩))
  have k65 : w5.cell? ⟨G.F, 6, none⟩ = some (.int .i64 s2.size) := cell_fs hR5.fsb rfl
  have f65 : w5.frozen? ⟨G.F, 6, none⟩ = false := free_fs hR5.fsb
  have HR5 := hide hR5
  have HF5 := hide hF5
  have HRO := hide hro
  clear hR5 hF5 hro hrun k13 k23 k14 k24 k15
  go_wp2_with fail
  obtain ⟨w6, hw6⟩ : ∃ w6, w6 = w5.setCell ⟨G.F, 6, none⟩ (.int .i64 (s2.size + l.length)) := ⟨_, rfl⟩
  rw [← hw6]
  have hR6 : Rep w6 (G.filed (s2.newest + 1) w4.heap.size (.slice a' l.length c')) { s2 with newest := s2.newest + 1, size := s2.size + l.length, files := fun n => if n = s2.newest + 1 then some ⟨l, 0⟩ else s2.files n } := by
    rw [hw6]
    exact (unhide HR5).scal rfl rfl rfl rfl (Int.le_refl _) (heap_setCell_at (unhide HR5).fsb _) (fun b hb => heap_setCell_ne hb _) (by simp [World.setCell])
  have hF6 : Fr G.role w w6 := ((unhide HF3).trans (unhide HF5) (fun _ _ => rfl)).trans (by rw [hw6]; exact fr_own (unhide HR5) rfl rfl rfl (by simp [World.setCell]) (fun b hb => heap_setCell_ne hb _))
    (fun b hb => unhide HRO b (Nat.lt_of_lt_of_le hb (unhide HF3).size))
  refine (put_rep hR6 name hn (s2.newest + 1) (wf_of (by omega) (by omega))).mono ?_
  rintro e w7 ⟨v, G7, rfl, hR7, hc7, hF7, hFF, hro7⟩
  have hi6 : Inv { s2 with newest := s2.newest + 1, size := s2.size + l.length, files := fun n => if n = s2.newest + 1 then some ⟨l, 0⟩ else s2.files n } := (unhide HIN).filed _ l _ _ (by omega) hl
  have hb6 : Bd { s2 with newest := s2.newest + 1, size := s2.size + l.length, files := fun n => if n = s2.newest + 1 then some ⟨l, 0⟩ else s2.files n } :=
    ⟨(unhide HBD).q0, (unhide HBD).q1, by show 0 ≤ s2.newest + 1; omega, r1, by show -1099511627776 ≤ s2.size + (l.length : Int); omega, r2, (unhide HBD).t0, (unhide HBD).t1, (unhide HBD).a0, (unhide HBD).a1, (unhide HBD).mN, (unhide HBD).mD, (unhide HBD).mP⟩
  have hal := alter_rep (.put name (s2.newest + 1)) hR7 hb6 hi6 hc7
  have e7 : G7.F = G.F := hFF
  rw [e7] at hal
  have HAL := hide hal
  have HFR : Hid (Fr G.role w w7) := hF6.trans hF7 (fun b hb => unhide HRO b (Nat.lt_of_lt_of_le hb (unhide HF3).size))
  have HRR : Hid (∀ b, b < w.heap.size → G7.role b = G.role b) := fun b hb =>
    (hro7 b (Nat.lt_of_lt_of_le hb hF6.size)).trans (unhide HRO b (Nat.lt_of_lt_of_le hb (unhide HF3).size))
  clear hal hR7 hc7 hF7 hFF hro7 hR6 hF6 hw6 k65 f65 k25 e7 hi6 hb6
  go_wp2_with (go_at_call 42; refine (unhide HAL).mono ?_; rintro e w8 ⟨G8, rfl, hR8, hF8, hFF8, hro8⟩)
  go_ret
  exact ⟨G8, rfl, hR8, (unhide HFR).trans hF8 (unhide HRR), hFF8, fun b hb => (hro8 b (Nat.lt_of_lt_of_le hb (unhide HFR).size)).trans (unhide HRR b hb)⟩

end Go.Proofs.YtbdbobikiikbgaaDoor
