/-
  The contracts of Append and Read.
-/
import Derived.Test.YtbdbobikiikbgaaDoorMove
import Derived.Maps.AppendAt
import Derived.Laws.AppendOwnNone
namespace Go.Proofs.YtbdbobikiikbgaaDoor
open Go.RowKit Go.WideMaps Go.Maps

theorem Tryd.info5 : (Tryd.prog.info? 5).map (fun i => (i.zero, i.size, i.bytes)) = some (some (.int .u8 0), 1, 1) := by kernel_rfl

theorem append_err {w : World} {G : Lie} {s : AS} (h : Rep w G s) (hb : Bd s) (name : ByteArray) (hn : name.size ≤ maxLen) {a : Option Addr} {n : Nat} (cp : Nat) (hl : n ≤ 1099511627776) (hE : beginE s (appendE s name n) ≠ 0) :
    Calls Tryd.prog 32 #[.pointer (some ⟨G.F, 0, none⟩), .string name, .slice a n cp] w fun e w' => e = .returned (.int .i64 (beginE s (appendE s name n))) ∧ Rep w' G (beginS s (appendE s name n)) ∧ Fr G.role w w' := by
  have HN := hide (appendErr_rep h hb name hn n (by omega) (by omega))
  have HBG : Hid (∀ nq, _) := fun nq => begin_rep (h.drewN nq) hb (appendE s name n)
  have hne : (beginE s (appendE s name n) != 0) = true := by simp [hE]
  clear h hb hE
  go_enter Tryd.func32, Tryd.ntmps32
  go_wp2_with (first
    | (go_at_call 56; refine (unhide HN).mono ?_; rintro e w1 ⟨rfl, nq, rfl⟩)
    | (go_at_call 39; refine (unhide HBG nq).mono ?_; rintro e w2 ⟨rfl, hR2, hF2⟩))
  go_ret
  exact ⟨rfl, hR2, (Fr.drewN nq).trans hF2 (fun _ _ => rfl)⟩

theorem bytesV_append (l m : List UInt8) : bytesV (l ++ m) = bytesV l ++ bytesV m := by simp [bytesV]
theorem bytesV_one (l : List UInt8) : ∀ u ∈ bytesV l, u.oneCell' = true := by
  intro u hu
  obtain ⟨c, _, rfl⟩ := List.mem_map.1 hu
  rfl

def appendedS (s : AS) (n : Int) (f : AF) (l : List UInt8) : AS := { setFile s n ⟨f.data ++ l, f.dur⟩ with size := s.size + l.length }

/-- What is left of Append behind the append itself. -/
theorem append_close {w2 w3 : World} {G : Lie} {s2 : AS} {x : Int} {f : AF} {l : List UInt8} {v : Value} (hR : Rep w2 G s2) (hf : s2.files x = some f)
    (hg : w2.grownBy w3 (G.dv x).ownBlock) (hrow : w3.ownsRow 0 5 1 v (f.data.length + l.length) (bytesV f.data ++ bytesV l)) (hat : ∀ g, v.ownBlock = some g → (G.dv x).ownBlock = some g ∨ w2.heap.size ≤ g) :
    let w5 := (w3.setCell ⟨G.fb x, 0, none⟩ v).setCell ⟨G.F, 6, none⟩ (.int .i64 (s2.size + l.length))
    ∃ G', Rep w5 G' (appendedS s2 x f l) ∧ Went w2 G w5 G' := by
  intro w5
  have q := hR.files x f hf
  have hne : ∀ g, (G.dv x).ownBlock = some g → g ≠ G.fb x := by
    intro g hg e
    have := q.rd g hg; rw [e, q.rb] at this; simp at this
  have hfF : G.fb x ≠ G.F := fun e => by have := q.rb; rw [e, hR.rF] at this; simp at this
  have hb3 : w3.heap[G.fb x]? = some (.cells #[G.dv x, .int .i64 f.dur] 69 (0, 0)) := (hg.block _ (hR.lt _ (by rw [q.rb]; simp)) (fun e => hne _ e.symm rfl)).trans q.block
  have hvb : ∀ g, v.ownBlock = some g → g ≠ G.fb x := by
    intro g hv
    rcases hat g hv with e | e
    · exact hne g e
    · have := hR.lt (G.fb x) (by rw [q.rb]; simp); omega
  obtain ⟨r1, r2⟩ := hR.reput (w' := w3.setCell ⟨G.fb x, 0, none⟩ v) (f' := ⟨f.data ++ l, f.dur⟩) hf (by simpa [World.setCell] using hg.size) (heap_setCell_at (i := 0) hb3 v)
    (by rw [bytesV_append, List.length_append]; exact row_congr hrow (fun g hv => heap_setCell_ne (a := ⟨G.fb x, 0, none⟩) (hvb g hv) _)) hat (by have := q.le; simp; omega)
    (fun b hb h1 h2 => (heap_setCell_ne (a := ⟨G.fb x, 0, none⟩) h1 _).trans (hg.block b hb (fun e => h2 e.symm)))
  refine ⟨G.reput x v, r1.scal rfl rfl rfl rfl (Int.le_refl _) (heap_setCell_at (i := 6) r1.fsb _) (fun b hb => heap_setCell_ne (a := ⟨G.F, 6, none⟩) hb _) (by simp [World.setCell, w5]), ⟨?_, rfl, r2⟩⟩
  refine ⟨hg.os, hg.tape, hg.output, by simpa [World.setCell, w5] using hg.size, fun k hk hr => ?_⟩
  refine (heap_setCell_ne (a := ⟨G.F, 6, none⟩) (fun e => ?_) _).trans ((heap_setCell_ne (a := ⟨G.fb x, 0, none⟩) (fun e => ?_) _).trans (hg.block k hk (fun e => ?_)))
  · have e' : k = G.F := e
    rw [e', hR.rF] at hr; simp at hr
  · have e' : k = G.fb x := e
    rw [e', q.rb] at hr; simp at hr
  · rw [q.rd k e.symm] at hr; simp at hr

theorem append_zero {s : AS} {name : ByteArray} {n : Int} (h : appendE s name n = 0) : num s.names name ≠ 0 ∧ s.size + n ≤ s.quota := by
  unfold appendE at h
  split at h
  · simp at h
  · rename_i h1
    split at h
    · simp at h
    · exact ⟨h1, by omega⟩

set_option maxRecDepth 100000 in
set_option maxHeartbeats 1000000 in
theorem append_ok {w : World} {G : Lie} {s : AS} (h : Rep w G s) (hb : Bd s) (hi : Inv s) (name : ByteArray) (hn : name.size ≤ maxLen) {a : Option Addr} (cp : Nat) (hcp : a = none → cp = 0) (l : List UInt8) (hby : Bytes w a l.length l) (hbr : ∀ ad, a = some ad → 0 < l.length → G.role ad.block = none)
    (hl : l.length ≤ 1099511627776) (hE : beginE s (appendE s name l.length) = 0) (f : AF) (hf : s.files (num s.names name) = some f) :
    Calls Tryd.prog 32 #[.pointer (some ⟨G.F, 0, none⟩), .string name, .slice a l.length cp] w fun e w' => ∃ G', e = .returned (.int .i64 0) ∧ Rep w' G' (appendedS (beginS s (appendE s name l.length)) (num s.names name) f l) ∧ Went w G w' G' := by
  have HN := hide (appendErr_rep h hb name hn l.length (by omega) (by omega))
  have HBG : Hid (∀ nq, Calls Tryd.prog 39 #[.pointer (some ⟨G.F, 0, none⟩), .int .i64 (appendE s name l.length)] (w.drewN nq) fun e w' => e = .returned (.int .i64 0) ∧ Rep w' G (beginS s (appendE s name l.length)) ∧ Fr G.role w w') := by
    intro nq
    have := begin_rep (h.drewN nq) hb (appendE s name l.length)
    rw [hE] at this
    exact this.mono (fun e w' ⟨h1, h2, h3⟩ => ⟨h1, h2, (Fr.drewN nq).trans h3 (fun _ _ => rfl)⟩)
  have hs2 := begin_done hE
  obtain ⟨s2, hs⟩ : ∃ s2, s2 = beginS s (appendE s name l.length) := ⟨_, rfl⟩
  rw [← hs] at HBG hs2 ⊢
  have en : s2.names = s.names := by rw [hs2]
  have ef : s2.files = s.files := by rw [hs2]
  have ez : s2.size = s.size := by rw [hs2]
  have hf2 : s2.files (num s2.names name) = some f := by rw [en, ef]; exact hf
  rw [← en]
  have hfl := hi.len _ f hf
  have z0 := hb.z0
  have z1 := hb.z1
  rw [← ez] at z0 z1
  have HF2 := hide hf2
  obtain ⟨x, hx⟩ : ∃ x, x = num s2.names name := ⟨_, rfl⟩
  rw [← hx]
  have HX := hide hx
  have HBY : Hid (∀ w', Fr G.role w w' → Bytes w' a l.length l) := fun w' hf => bytes_fr hby hbr hf
  obtain ⟨i0, hi0, hz0, hz1, hz2⟩ := info_parts Tryd.info5
  clear h hb hi hE hs2 hs en ef hf hf2 hx ez hby
  go_enter Tryd.func32, Tryd.ntmps32
  go_wp2_with (first
    | (go_at_call 56; refine (unhide HN).mono ?_; rintro e w1 ⟨rfl, nq, rfl⟩)
    | (go_at_call 39; refine (unhide HBG nq).mono ?_; rintro e w2 ⟨rfl, hR2, hF2⟩))
  refine (file_some hR2 name hn f (unhide HF2)).mono ?_
  rintro e w3 ⟨rfl, nq3, rfl⟩
  rw [← unhide HX]
  obtain ⟨w3, hw3⟩ : ∃ w3, w3 = w2.drewN nq3 := ⟨_, rfl⟩
  rw [← hw3]
  have hR3 : Rep w3 G s2 := by rw [hw3]; exact hR2.drewN nq3
  have hF3 : Fr G.role w w3 := by rw [hw3]; exact hF2.trans (Fr.drewN nq3) (fun _ _ => rfl)
  have hfx : s2.files x = some f := by rw [unhide HX]; exact unhide HF2
  have q := hR3.files x f hfx
  obtain ⟨fa, fc, hfv⟩ := row_form q.row
  have k0 : w3.cell? ⟨G.fb x, 0, none⟩ = some (.slice fa f.data.length fc) := by rw [← hfv]; exact cell_fs q.block rfl
  have f0 : w3.frozen? ⟨G.fb x, 0, none⟩ = false := free_fs q.block
  have k6 : w3.cell? ⟨G.F, 6, none⟩ = some (.int .i64 s2.size) := cell_fs hR3.fsb rfl
  have f6 : w3.frozen? ⟨G.F, 6, none⟩ = false := free_fs hR3.fsb
  have hown : w3.ownsRow 0 5 1 (.slice fa f.data.length fc) f.data.length (bytesV f.data) := by rw [← hfv]; exact q.row
  have hfF : G.F ≠ G.fb x := fun e => by have := q.rb; rw [← e, hR3.rF] at this; simp at this
  have lb : G.fb x < w3.heap.size := hR3.lt _ (by rw [q.rb]; simp)
  have lF : G.F < w3.heap.size := hR3.lt _ (by rw [hR3.rF]; simp)
  have n1 : some (G.fb x) ≠ (Value.slice fa f.data.length fc).ownBlock := by
    rw [← hfv]; intro e; have := q.rd _ e.symm; rw [q.rb] at this; simp at this
  have n2 : some G.F ≠ (Value.slice fa f.data.length fc).ownBlock := by
    rw [← hfv]; intro e; have := q.rd _ e.symm; rw [hR3.rF] at this; simp at this
  have HR3 := hide hR3
  have HFX := hide hfx
  have HFV := hide hfv
  have HW3 := hide hF3
  clear hR2 hF2 hw3 hR3 q hfv hfx hF3
  cases a with
  | none =>
    have hl0 : l.length = 0 := (unhide HBY _ (unhide HW3)).nil rfl
    have hl1 : l = [] := List.length_eq_zero_iff.1 hl0
    obtain rfl := hcp rfl
    subst hl1
    go_wp2_with (at_builtin; refine wpList_append_own_none rfl _ _ 23 rfl 0 5 i0 1 Tryd.underlying23 hi0 (.slice fa f.data.length fc) f.data.length (bytesV f.data) rfl hown rfl ?_)
    go_ret
    obtain ⟨G', r1, r2⟩ := append_close (l := []) (v := .slice fa f.data.length fc) (unhide HR3) (unhide HFX) (w3 := w3) (by rw [unhide HFV]; exact ⟨rfl, rfl, rfl, Nat.le_refl _, fun _ _ _ => rfl⟩) (by simpa [bytesV] using hown) (fun g hg => Or.inl (by rw [unhide HFV]; exact hg))
    exact ⟨G', rfl, by simpa using r1, (Went.of_fr (unhide HW3)).trans (by simpa using r2)⟩
  | some ad =>
    have hB := unhide HBY _ (unhide HW3)
    have hnews : ∀ j u, (bytesV l)[j]? = some u → w3.cell? (ad.add j) = some u := by
      intro j u hu
      have hj : j < l.length := by
        have := (List.getElem?_eq_some_iff.1 hu).1
        simpa [bytesV] using this
      rw [hB.cell ad rfl j hj]
      simpa [bytesV, hj, List.getD] using hu
    clear hB
    go_wp2_with (at_builtin; refine wpList_append_own_at _ rfl _ _ 23 rfl 0 5 i0 (.int .u8 0) 1 1 Tryd.underlying23 hi0 hz0 hz1 hz2 rfl (by decide) (.slice fa f.data.length fc) f.data.length (bytesV f.data) rfl hown ad l.length cp (bytesV l) rfl (by simp [bytesV]) hnews (bytesV_one l) (by unfold maxLen; omega) (by omega) (Nat.zero_le _) ?_; intro v' w4 hown' hgrow hnil hloc; obtain ⟨a4, c4, hv4⟩ := row_form hown'; rw [hv4]; have k04 : w4.cell? ⟨G.fb x, 0, none⟩ = some (.slice fa f.data.length fc) := (hgrow.cell_far ⟨G.fb x, 0, none⟩ lb n1).trans k0; have f04 : w4.frozen? ⟨G.fb x, 0, none⟩ = false := (hgrow.frozen_far ⟨G.fb x, 0, none⟩ lb n1).trans f0; have k64 : w4.cell? ⟨G.F, 6, none⟩ = some (.int .i64 s2.size) := (hgrow.cell_far ⟨G.F, 6, none⟩ lF n2).trans k6; have f64 : w4.frozen? ⟨G.F, 6, none⟩ = false := (hgrow.frozen_far ⟨G.F, 6, none⟩ lF n2).trans f6)
    go_ret
    rw [hv4] at hown' hloc
    obtain ⟨G', r1, r2⟩ := append_close (l := l) (v := .slice a4 (f.data.length + l.length) c4) (unhide HR3) (unhide HFX) (w3 := w4) (by rw [unhide HFV]; exact hgrow) hown' (fun g hg => by
      rw [unhide HFV]
      rcases hloc with e | e
      · exact Or.inl (e.symm.trans hg)
      · rw [hg] at e
        have : g = w3.heap.size := by simpa using e
        exact Or.inr (by omega))
    exact ⟨G', rfl, r1, (Went.of_fr (unhide HW3)).trans r2⟩

theorem front_bytes {w : World} {base : Nat} {a : Option Addr} {c : Nat} {l : List UInt8} (h : w.ownsRow base 5 1 (.slice a l.length c) l.length (bytesV l)) : Bytes w a l.length l := by
  refine ⟨rfl, fun e => ?_, fun ad ha i hi => ?_⟩
  · rcases h.2 with ⟨_, e2⟩ | ⟨g, cap, cur, e2, _⟩
    · exact e2
    · subst e; simp at e2
  · rcases h.2 with ⟨e2, _⟩ | ⟨g, cap, cur, e2, _, hh, h3, h4, h5, h6⟩
    · subst ha; simp at e2
    · subst ha
      simp at e2
      obtain ⟨rfl, rfl⟩ := e2
      have e1 : (⟨g, 0, none⟩ : Addr).add i = ⟨g, i, none⟩ := by unfold Addr.add; split <;> simp_all
      rw [e1]
      have e3 : (cur.toList.take (l.length * 1))[i]? = (bytesV l)[i]? := by rw [h6]
      have e4 : cur.toList[i]? = some (.int .u8 ((l.getD i 0).toNat : Int)) := by
        rw [List.getElem?_take] at e3
        rw [if_pos (by omega)] at e3
        rw [e3]
        simp [bytesV, hi, List.getD]
      simpa [World.cell?, hh] using e4

theorem read_none {w : World} {G : Lie} {s : AS} (h : Rep w G s) (name : ByteArray) (hn : name.size ≤ maxLen) (h0 : num s.names name = 0) :
    Calls Tryd.prog 21 #[.pointer (some ⟨G.F, 0, none⟩), .string name] w fun e w' => e = .returned (.tuple #[.slice none 0 0, .int .i64 2]) ∧ w' = w := by
  have hc := has_rep h name hn
  rw [h0] at hc
  have HC := hide hc
  clear h hc h0
  go_enter Tryd.func21, Tryd.ntmps21
  go_wp2_with (go_at_call 50; refine (unhide HC).mono ?_; rintro e w1 ⟨rfl, rfl⟩)
  go_ret2
  exact ⟨rfl, rfl⟩

theorem read_some {w : World} {G : Lie} {s : AS} (h : Rep w G s) (name : ByteArray) (hn : name.size ≤ maxLen) (h0 : num s.names name ≠ 0) (f : AF) (hf : s.files (num s.names name) = some f) (hfl : f.data.length ≤ 1099511627776) :
    Calls Tryd.prog 21 #[.pointer (some ⟨G.F, 0, none⟩), .string name] w fun e w' => ∃ a c, e = .returned (.tuple #[.slice a f.data.length c, .int .i64 0]) ∧ w'.ownsRow w.heap.size 5 1 (.slice a f.data.length c) f.data.length (bytesV f.data) ∧ Below w.heap.size w w' := by
  have hc := has_rep h name hn
  have hb : (num s.names name != 0) = true := by simp [h0]
  rw [hb] at hc
  have HC := hide hc
  have HF := hide (file_some h name hn f hf)
  have q := h.files _ f hf
  obtain ⟨fa, fc, hfv⟩ := row_form q.row
  obtain ⟨b, hbb⟩ : ∃ b, b = G.fb (num s.names name) := ⟨_, rfl⟩
  have k0 : w.cell? ⟨b, 0, none⟩ = some (.slice fa f.data.length fc) := by rw [hbb, ← hfv]; exact cell_fs q.block rfl
  rw [← hbb] at HF
  have hby : Bytes w fa f.data.length f.data := front_bytes (base := 0) (c := fc) (by rw [← hfv]; exact q.row)
  have HCL : Hid (∀ nq, _) := fun nq => clone_any (w := w.drewN nq) fc (⟨hby.len, hby.nil, hby.cell⟩ : Bytes (w.drewN nq) fa f.data.length f.data) (by omega)
  clear h hc hb h0 hf q hfv hbb hby
  go_enter Tryd.func21, Tryd.ntmps21
  go_wp2_with (first
    | (go_at_call 50; refine (unhide HC).mono ?_; rintro e w1 ⟨rfl, rfl⟩)
    | (go_at_call 45; refine (unhide HF).mono ?_; rintro e w2 ⟨rfl, nq, rfl⟩)
    | (go_at_call 41; refine (unhide HCL nq).mono ?_; rintro e w3 ⟨a', c', rfl, hrow, hbl⟩))
  go_ret2
  exact ⟨a', c', rfl, hrow, ⟨hbl.os, hbl.tape, hbl.output, hbl.size, hbl.block⟩⟩

end Go.Proofs.YtbdbobikiikbgaaDoor
