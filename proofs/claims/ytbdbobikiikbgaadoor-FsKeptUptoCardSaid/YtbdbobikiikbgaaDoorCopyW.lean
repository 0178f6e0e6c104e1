/-
  The contract of Copy.
-/
import Derived.Test.YtbdbobikiikbgaaDoorCopyS
namespace Go.Proofs.YtbdbobikiikbgaaDoor
open Go.RowKit Go.WideMaps Go.Maps Go.Sort

set_option maxRecDepth 100000 in
set_option maxHeartbeats 1000000 in
theorem fileCopy_any (b dur fc : Nat) (fa : Option Addr) (l : List UInt8) (w : World) (hblk : w.heap[b]? = some (.cells #[.slice fa l.length fc, .int .i64 (dur : Nat)] 69 (0, 0))) (hby : Bytes w fa l.length l) (hl : l.length ≤ 1099511627776) :
    Calls Tryd.prog 51 #[.pointer (some ⟨b, 0, none⟩)] w fun e w' => ∃ a' c' bF, e = .returned (.pointer (some ⟨bF, 0, none⟩)) ∧ Below w.heap.size w w' ∧ w'.ownsRow w.heap.size 5 1 (.slice a' l.length c') l.length (bytesV l) ∧
      w'.heap[bF]? = some (.cells #[.slice a' l.length c', .int .i64 (dur : Nat)] 69 (0, 0)) ∧ w.heap.size ≤ bF ∧ (Value.slice a' l.length c').ownBlock ≠ some bF := by
  have k0 : w.cell? ⟨b, 0, none⟩ = some (.slice fa l.length fc) := cell_fs hblk rfl
  have k1 : w.cell? ⟨b, 1, none⟩ = some (.int .i64 (dur : Nat)) := cell_fs hblk rfl
  have lb : b < w.heap.size := (Array.getElem?_eq_some_iff.1 hblk).1
  have HCL : Hid (∀ W : World, W.heap = w.heap → W.os = w.os → W.tape = w.tape → W.output = w.output → Calls Tryd.prog 41 #[.slice fa l.length fc] W fun e w4 => ∃ a' c', e = .returned (.slice a' l.length c') ∧ w4.ownsRow w.heap.size 5 1 (.slice a' l.length c') l.length (bytesV l) ∧ Below w.heap.size w w4 ∧
      w4.cell? ⟨b, 0, none⟩ = some (.slice fa l.length fc) ∧ w4.cell? ⟨b, 1, none⟩ = some (.int .i64 (dur : Nat))) := by
    intro W e1 e2 e3 e4
    have hbW : Bytes W fa l.length l := ⟨hby.len, hby.nil, fun ad ha i hi => (World.cell?_of_block (w := w) (by rw [e1])).trans (hby.cell ad ha i hi)⟩
    refine (clone_any fc hbW (by omega)).mono ?_
    rintro e w4 ⟨a', c', rfl, hrow, hbl⟩
    rw [e1] at hrow hbl
    have hB : Below w.heap.size w w4 := ⟨hbl.os.trans e2, hbl.tape.trans e3, hbl.output.trans e4, by have := hbl.size; rw [e1] at this; exact this, fun k hk => (hbl.block k hk).trans (by rw [e1])⟩
    exact ⟨a', c', rfl, hrow, hB, (hB.cell (p := ⟨b, 0, none⟩) lb).trans k0, (hB.cell (p := ⟨b, 1, none⟩) lb).trans k1⟩
  clear hby hblk
  go_enter Tryd.func51, Tryd.ntmps51
  go_wp2_with fail
  go_region_held3 (fun w' => w'.cell? ⟨b, 0, none⟩ = some (.slice fa l.length fc) ∧ w'.cell? ⟨b, 1, none⟩ = some (.int .i64 (dur : Nat)))
    (go_keep)
    ((go_at_call 41; refine (unhide HCL _ (by rfl) (by rfl) (by rfl) (by rfl)).mono ?_; rintro e w4 ⟨a', c', rfl, hrow, hbl, k04, k14⟩))
  have hrl : ∀ g, (Value.slice a' l.length c').ownBlock = some g → g < w4.heap.size := row_lt hrow
  have hrow2 := row_below hrow ((Below.refl _ w4).alloc (Nat.le_refl _) (.cells #[.slice a' l.length c', .int .i64 (dur : Nat)] 69))
  have HR := hide hrow2
  have HL := hide hrl
  have HB := hide hbl
  clear hrow hrow2 hrl hbl k0 k1 k04 k14
  go_wp2
  go_ret
  exact ⟨a', c', w4.heap.size, rfl, (unhide HB).alloc (unhide HB).size _, unhide HR, heap_alloc_new w4 _, (unhide HB).size, fun e => Nat.lt_irrefl _ (unhide HL _ e)⟩

/-- What stands between two rounds. -/
structure CpIn (w wr : World) (G : Lie) (s : AS) (C M2 r : Nat) (left : Lit → Bool) (cnt : Nat) (G' : Lie) : Prop where
  rg : wr.ranges Tryd.prog 3 fileElem G.M r (Maps.size G.DM) G.DM left cnt
  sum : Maps.size G'.DM + cnt ≤ Maps.size G.DM
  rep : Rep wr G' { s with files := fun n => if left (.int .i64 n) = true then none else s.files n }
  below : Below w.heap.size w wr
  F : G'.F = C
  M : G'.M = M2
  cl : G'.cl = G.cl
  N : G'.N = G.N
  D : G'.D = G.D
  pv : G'.pv = G.pv
  role : ∀ b, b < w.heap.size → G'.role b = keepR (G.role b)
  rr : G'.role r = none
  br : w.heap.size ≤ r
  fw : ∀ n f, (if left (.int .i64 n) = true then none else s.files n) = some f → w.heap.size ≤ G'.fb n ∧ ∀ g, (G'.dv n).ownBlock = some g → w.heap.size ≤ g

def ptrV : Option Nat → Value
  | none => .pointer none
  | some b => .pointer (some ⟨b, 0, none⟩)
theorem ptrV_inv (v : Value) (y : DataW Unit × List MemPlace) (h : fileElem v = some y) : ∃ c, v = ptrV c := by
  obtain ⟨d, ps⟩ := y
  rcases fileElem_inv h with ⟨rfl, _⟩ | ⟨b, rfl, _⟩
  · exact ⟨none, rfl⟩
  · exact ⟨some b, rfl⟩

theorem same_int (n x : Int) : (Lit.int .i64 n).sameKey (.int .i64 x) = decide (n = x) := by
  by_cases e : n = x
  · subst e; simp [WideAt.sameKey_self (keyInt n)]
  · rw [sameKey_ne (by simpa using e)]; simp [e]

theorem copy_round {w wr w2 : World} {G G' : Lie} {s : AS} {C M2 r cnt cnt2 : Nat} {left : Lit → Bool} {c : Option Nat} {y : DataW Unit × List MemPlace} (hC : CpIn w wr G s C M2 r left cnt G') (hG : Rep w G s) (hz : s.files 0 = none)
    (hfl : ∀ n f, s.files n = some f → f.data.length ≤ 1048576) (hnew : s.newest ≤ 4096) (x : Int) (hwf : (Lit.int .i64 x).wf = true) (hlk : left (.int .i64 x) = true) (hv : fileElem (ptrV c) = some y) (hat : ∀ zd, G.DM.atKey (.int .i64 x) zd = y.1)
    (hrg : w2.ranges Tryd.prog 3 fileElem G.M r (Maps.size G.DM) G.DM (fun z => left z && !z.sameKey (.int .i64 x)) cnt2) (hlt : cnt2 < cnt) (hg : wr.grownBy w2 (some r)) :
    ∃ b, c = some b ∧ w2.cell? ⟨C, 1, none⟩ = some (.map (some M2)) ∧ ∀ W : World, W.heap = w2.heap → W.os = w2.os → W.tape = w2.tape → W.output = w2.output → Calls Tryd.prog 51 #[.pointer (some ⟨b, 0, none⟩)] W fun e w4 => ∃ bF w5, e = .returned (.pointer (some ⟨bF, 0, none⟩)) ∧
      (Instr.mapUpdate 60 (.map (some M2)) (.int .i64 x) (.pointer (some ⟨bF, 0, none⟩))).run Tryd.prog w4 = .ok () w5 ∧ w4.cell? ⟨C, 1, none⟩ = some (.map (some M2)) ∧ w5.cell? ⟨C, 1, none⟩ = some (.map (some M2)) ∧
      ∃ G5, CpIn w w5 G s C M2 r (fun z => left z && !z.sameKey (.int .i64 x)) cnt2 G5 := by
  have hhas : Maps.has G.DM (.int .i64 x) = true := has_true_of_atKey hat
  obtain ⟨f, hf⟩ : ∃ f, s.files x = some f := by
    have := hG.conv x hhas
    cases hq : s.files x with
    | none => exact absurd hq this
    | some f => exact ⟨f, rfl⟩
  have q := hG.files x f hf
  have x0 : x ≠ 0 := fun e => by rw [e, hz] at hf; cases hf
  have hc : c = some (G.fb x) := by
    have h1 := hat .nil
    rw [q.map] at h1
    obtain ⟨d, ps⟩ := y
    rcases fileElem_inv hv with ⟨_, e2⟩ | ⟨b, e1, e2⟩
    · rw [e2] at h1; cases h1
    · have h2 : DataW.ptr (.lit (.int .i64 (G.fb x))) = (DataW.ptr (.lit (.int .i64 b)) : DataW Unit) := by rw [h1]; exact e2
      have h3 : G.fb x = b := by simp at h2; omega
      cases c with
      | none => cases e1
      | some b' =>
        have : b' = b := by simp [ptrV] at e1; exact e1
        rw [this, h3]
  have lw := hC.below.size
  have l2 := hg.size
  have hrlt := hC.rg.lt
  have lb : G.fb x < w.heap.size := hG.lt _ (by rw [q.rb]; simp)
  have old2 : ∀ b, b < w.heap.size → w2.heap[b]? = w.heap[b]? := fun b hb => (hg.block b (by omega) (by have := hC.br; intro e; simp at e; omega)).trans (hC.below.block b hb)
  have hnr : ∀ b, G'.role b ≠ none → some b ≠ some r := fun b hb e => by
    have e' : b = r := by simpa using e
    exact hb (by rw [e']; exact hC.rr)
  have hn0 : some 0 ≠ some r := fun e => by
    have e' : 0 = r := by simpa using e
    have := hC.br
    have := hG.pos
    omega
  have hR2 : Rep w2 G' { s with files := fun n => if left (.int .i64 n) = true then none else s.files n } :=
    hC.rep.congr hg.size (fun b hb => hg.block b (hC.rep.lt b hb) (hnr b hb)) (glob_of hC.rep.glob (hg.block 0 hC.rep.pos hn0))
  obtain ⟨fa, fc, hdv⟩ := row_form q.row
  have hrowW : w.ownsRow 0 5 1 (.slice fa f.data.length fc) f.data.length (bytesV f.data) := by rw [← hdv]; exact q.row
  refine ⟨G.fb x, hc, by have := cell_fs (i := 1) hR2.fsb rfl; rw [hC.F] at this; rw [← hC.M]; exact this, ?_⟩
  intro W e1 e2 e3 e4
  have hblkW : W.heap[G.fb x]? = some (.cells #[.slice fa f.data.length fc, .int .i64 (f.dur : Nat)] 69 (0, 0)) := by
    rw [e1, old2 _ lb, q.block, hdv]
  have hrow2 : W.ownsRow 0 5 1 (.slice fa f.data.length fc) f.data.length (bytesV f.data) := row_congr hrowW (fun g hg' => by
    rw [e1]; exact old2 g (hG.lt g (by rw [q.rd g (by rw [hdv]; exact hg')]; simp)))
  have hflx := hfl x f hf
  refine (fileCopy_any (G.fb x) f.dur fc fa f.data W hblkW (front_bytes hrow2) (by omega)).mono ?_
  rintro e w4 ⟨a', c', bF, rfl, hB4, hrow4, hblk4, hbF, hnb⟩
  have hB24 : Below w2.heap.size w2 w4 := ⟨hB4.os.trans e2, hB4.tape.trans e3, hB4.output.trans e4, by have := hB4.size; rw [e1] at this; exact this, fun b hb => (hB4.block b (by rw [e1]; exact hb)).trans (by rw [e1])⟩
  rw [e1] at hrow4 hbF
  have hsum := hC.sum
  have hmG := hG.mM
  obtain ⟨w5, hrun, hR5, hg5, hro5⟩ := hR2.filedD hB24 hrow4 hblk4 hbF hnb q.le x hwf x0 (by show (Maps.size G'.DM : Int) + 1 ≤ s.newest; omega) (by show s.newest ≤ _; omega)
  have e5 : ({ s with files := fun n => if n = x then some (⟨f.data, f.dur⟩ : AF) else (if left (.int .i64 n) = true then none else s.files n) } : AS) = { s with files := fun n => if (left (.int .i64 n) && !(Lit.int .i64 n).sameKey (.int .i64 x)) = true then none else s.files n } := by
    have hfun : (fun n : Int => if n = x then some (⟨f.data, f.dur⟩ : AF) else (if left (.int .i64 n) = true then none else s.files n)) = fun n => if (left (.int .i64 n) && !(Lit.int .i64 n).sameKey (.int .i64 x)) = true then none else s.files n := by
      funext n
      rw [same_int]
      by_cases en : n = x
      · subst en; simp [hf]
      · simp [en]
    rw [hfun]
  have hR5' : Rep w5 (G'.filed x bF (.slice a' f.data.length c')) { s with files := fun n => if (left (.int .i64 n) && !(Lit.int .i64 n).sameKey (.int .i64 x)) = true then none else s.files n } := by rw [← e5]; exact hR5
  have hg24 : w2.grownBy w4 none := ⟨hB24.os, hB24.tape, hB24.output, hB24.size, fun b hb _ => hB24.block b hb⟩
  have l4 := hB24.size
  have l5 := hg5.size
  have hMge : w.heap.size ≤ G'.M := by
    by_cases hlt2 : G'.M < w.heap.size
    · exfalso
      have h1 := hC.role _ hlt2
      rw [hC.rep.rM] at h1
      cases hq : G.role G'.M with
      | none => rw [hq] at h1; simp [keepR] at h1
      | some rr => cases rr <;> rw [hq] at h1 <;> simp [keepR] at h1
    · omega
  have lM : G.M < w.heap.size := hG.lt _ (by rw [hG.rM]; simp)
  have hMr : r ≠ G'.M := fun e => by have := hC.rr; rw [e, hC.rep.rM] at this; cases this
  have b5 : Below w.heap.size w w5 := by
    have ha : Below w.heap.size w w2 := ⟨hg.os.trans hC.below.os, hg.tape.trans hC.below.tape, hg.output.trans hC.below.output, by omega, old2⟩
    have hb : Below w.heap.size w w4 := ha.trans (hB24.mono (by omega))
    exact ⟨hg5.os.trans hb.os, hg5.tape.trans hb.tape, hg5.output.trans hb.output, by omega, fun b hb' => (hg5.block b (by omega) (by intro e; simp at e; omega)).trans (hb.block b hb')⟩
  have hcel : ∀ (W' : World) (Gx : Lie) (sx : AS), Rep W' Gx sx → Gx.F = C → Gx.M = M2 → W'.cell? ⟨C, 1, none⟩ = some (.map (some M2)) := by
    intro W' Gx sx hr h1 h2
    have := cell_fs (i := 1) hr.fsb rfl
    rw [h1] at this; rw [← h2]; exact this
  refine ⟨bF, w5, rfl, by rw [← hC.M]; exact hrun, hcel w4 G' _ (hR2.below hB24) hC.F hC.M, hcel w5 _ _ hR5' hC.F hC.M, G'.filed x bF (.slice a' f.data.length c'), ?_⟩
  refine ⟨(hrg.kept hg24 (by simp) (by simp)).kept hg5 (by intro e; simp at e; omega) (by intro e; simp at e; exact hMr e), ?_, hR5', b5, hC.F, hC.M, hC.cl, hC.N, hC.D, hC.pv, fun b hb => (hro5 b (by omega)).trans (hC.role b hb), ?_, hC.br, ?_⟩
  · show Maps.size (G'.DM.put (.int .i64 x) _) + cnt2 ≤ _
    rw [size_put (World.ownsMap.tidy hC.rep.fm lawI)]
    split <;> omega
  · exact (hro5 r (by omega)).trans hC.rr
  · intro n f' hf'
    rw [same_int] at hf'
    by_cases en : n = x
    · subst en
      refine ⟨?_, fun g hg' => ?_⟩
      · show w.heap.size ≤ (if n = n then bF else G'.fb n)
        rw [if_pos rfl]; omega
      · have hg2 : (Value.slice a' f.data.length c').ownBlock = some g := by simpa [Lie.filed] using hg'
        rcases hrow4.2 with ⟨e6, _⟩ | ⟨g0, cap, cur, e6, hge, _⟩
        · rw [e6] at hg2; cases hg2
        · rw [e6] at hg2
          have e7 : some g0 = some g := hg2
          have : g0 = g := by simpa using e7
          omega
    · have hf2 : (if left (.int .i64 n) = true then none else s.files n) = some f' := by simpa [en] using hf'
      obtain ⟨h1, h2⟩ := hC.fw n f' hf2
      refine ⟨?_, fun g hg' => ?_⟩
      · show w.heap.size ≤ (if n = x then bF else G'.fb n)
        rw [if_neg en]; exact h1
      · exact h2 g (by simpa [Lie.filed, en] using hg')

theorem row_le {w : World} {base base' e size n : Nat} {v : Value} {xs : List Value} (h : w.ownsRow base e size v n xs) (hb : base' ≤ base) : w.ownsRow base' e size v n xs := by
  refine ⟨h.1, h.2.imp id ?_⟩
  rintro ⟨g, cap, cur, h1, h2, h3⟩
  exact ⟨g, cap, cur, h1, Nat.le_trans hb h2, h3⟩

theorem clonePend_any {w : World} {pa : Option Addr} {n pc : Nat} {cells : List Value} (hrow : w.ownsRow 0 76 2 (.slice pa n pc) n cells) (h1 : ∀ u ∈ cells, u.oneCell' = true) (hn : n ≤ 4096) :
    Calls Tryd.prog 52 #[.slice pa n pc] w fun e w' => ∃ v', e = .returned v' ∧ w'.ownsRow w.heap.size 76 2 v' n cells ∧ Below w.heap.size w w' := by
  rcases hrow.2 with ⟨e, n0⟩ | ⟨g, cap, cur, e, _, hh, hle, _, hsz, htk⟩
  · simp at e
    obtain ⟨rfl, rfl, rfl⟩ := e
    refine (AnyE.slices_Clone_nil Tryd.cloneC 0 0 w).mono ?_
    rintro e w' ⟨rfl, rfl⟩
    exact ⟨_, rfl, ⟨hrow.1, Or.inl ⟨rfl, rfl⟩⟩, Below.refl _ _⟩
  · simp at e
    obtain ⟨rfl, rfl⟩ := e
    obtain ⟨i0, hi, hz0, hz1, hz2⟩ := info_parts Tryd.info76
    refine (AnyE.slices_Clone Tryd.cloneC i0 _ 2 24 hi hz0 hz1 hz2 rfl (by omega) Tryd.sizeOf76 g 0 n pc cells w hrow.1 (by unfold maxLen; omega) (by omega) ?_ h1).mono ?_
    · intro j u hj
      have hjl : j < n * 2 := by rw [← hrow.1]; exact (List.getElem?_eq_some_iff.1 hj).1
      rw [← htk] at hj
      have h2 : cur.toList[j]? = some u := by rw [List.getElem?_take] at hj; simpa [hjl] using hj
      have h3 : cur[j]? = some u := by simpa using h2
      rw [Nat.zero_add]
      exact cell_fs hh h3
    · rintro e w' ⟨v', rfl, h2, _, h3⟩
      exact ⟨v', rfl, h2, h3⟩

set_option maxRecDepth 100000 in
set_option maxHeartbeats 1000000 in
theorem copy_rep {w : World} {G : Lie} {s : AS} {k B : Nat} (h : Rep w G s) (ok : OK s k B) (hk : k ≤ 4096) (hB : B ≤ 1048576) :
    Calls Tryd.prog 23 #[.pointer (some ⟨G.F, 0, none⟩)] w fun e w' => ∃ G2, e = .returned (.pointer (some ⟨G2.F, 0, none⟩)) ∧ Rep w' G2 s ∧ Below w.heap.size w w' ∧ ∀ b, b < w.heap.size → G2.role b = none ∨ (G2.role b = some .cap ∧ G.role b = some .cap) := by
  have k0 : w.cell? ⟨G.F, 0, none⟩ = some (.int .i64 s.quota) := cell_fs h.fsb rfl
  have k1 : w.cell? ⟨G.F, 1, none⟩ = some (.map (some G.M)) := cell_fs h.fsb rfl
  have k2 : w.cell? ⟨G.F, 2, none⟩ = some (.int .i64 s.newest) := cell_fs h.fsb rfl
  have k3 : w.cell? ⟨G.F, 3, none⟩ = some (.map (some G.N)) := cell_fs h.fsb rfl
  have k4 : w.cell? ⟨G.F, 4, none⟩ = some (.map (some G.D)) := cell_fs h.fsb rfl
  have k5 : w.cell? ⟨G.F, 5, none⟩ = some G.pv := cell_fs h.fsb rfl
  have k6 : w.cell? ⟨G.F, 6, none⟩ = some (.int .i64 s.size) := cell_fs h.fsb rfl
  have k7 : w.cell? ⟨G.F, 7, none⟩ = some (.int .i64 s.steps) := cell_fs h.fsb rfl
  have k8 : w.cell? ⟨G.F, 8, none⟩ = some (.int .i64 s.armed) := cell_fs h.fsb rfl
  have k9 : w.cell? ⟨G.F, 9, none⟩ = some (.bool s.down) := cell_fs h.fsb rfl
  obtain ⟨pa, pc, hpv⟩ := row_form h.pend
  rw [hpv] at k5
  have hmm := @run_makeMap Tryd.prog
  have lF : G.F < w.heap.size := h.lt _ (by rw [h.rF]; simp)
  have HR := hide h
  have HOK := hide ok
  have HPV := hide hpv
  clear h ok hpv
  have HK : Hid (∀ W, Below w.heap.size w W → W.cell? ⟨G.F, 3, none⟩ = some (.map (some G.N)) ∧ W.cell? ⟨G.F, 4, none⟩ = some (.map (some G.D)) ∧ W.cell? ⟨G.F, 5, none⟩ = some (.slice pa s.pending.length pc)) := fun W hb =>
    ⟨(hb.cell (p := ⟨G.F, 3, none⟩) lF).trans k3, (hb.cell (p := ⟨G.F, 4, none⟩) lF).trans k4, (hb.cell (p := ⟨G.F, 5, none⟩) lF).trans k5⟩
  obtain ⟨w6, hw6⟩ : ∃ w6, w6 = (w.alloc (.cells #[.int .i64 s.quota, .map (some (w.heap.size + 1)), .int .i64 s.newest, .map (some G.N), .map (some G.D), .slice pa s.pending.length pc, .int .i64 s.size, .int .i64 s.steps, .int .i64 s.armed, .bool s.down] 65)).alloc (.map #[] 0) := ⟨_, rfl⟩
  have hs6 : w6.heap.size = w.heap.size + 2 := by rw [hw6]; simp
  have hb6 : Below w.heap.size w w6 := by rw [hw6]; exact ((Below.refl _ w).alloc (Nat.le_refl _) _).alloc (by simp) _
  have h6C : w6.heap[w.heap.size]? = some (.cells #[.int .i64 s.quota, .map (some (w.heap.size + 1)), .int .i64 s.newest, .map (some G.N), .map (some G.D), .slice pa s.pending.length pc, .int .i64 s.size, .int .i64 s.steps, .int .i64 s.armed, .bool s.down] 65 (0, 0)) := by
    rw [hw6, Below.heap_alloc _ _ _ (by simp)]; exact heap_alloc_new w _
  have h6M : Fmap w6 (w.heap.size + 1) 0 (.map []) := by
    have m0 := World.ownsMap_made (H := Unit) (w.alloc (.cells #[.int .i64 s.quota, .map (some (w.heap.size + 1)), .int .i64 s.newest, .map (some G.N), .map (some G.D), .slice pa s.pending.length pc, .int .i64 s.size, .int .i64 s.steps, .int .i64 s.armed, .bool s.down] 65)) Tryd.prog 3 fileElem
    rw [← hw6, alloc_size] at m0
    exact m0
  have hR6 : Rep w6 (G.copy0 w.heap.size (w.heap.size + 1)) (bareS s) := by
    refine (unhide HR).copy0 hb6 (Nat.le_refl _) (by omega) (by omega) (by omega) (by omega) ?_ h6M
    rw [h6C]
    simp [fsCells, Lie.copy0, bareS, unhide HPV]
  have HT6 := hide (fmap_congr (unhide HR).fm (hb6.block G.M ((unhide HR).lt _ (by rw [(unhide HR).rM]; simp))))
  rw [hw6] at HT6
  have HW6 := hide hw6
  have HR6 := hide hR6
  have HB6 := hide hb6
  clear hw6 hR6 hb6 h6C h6M
  go_enter Tryd.func23, Tryd.ntmps23
  go_wp2_with (first
    | (at_range; refine wpList_range_own _ rfl _ 60 rfl 3 67 lawI Tryd.underlying60 _ G.M _ _ rfl (unhide HT6) ?_; intro w7 hrg7 hg7 hs7)
    | go_in)
  go_frame
  rw [← unhide HW6] at hrg7 hg7 hs7 ⊢
  have hz0 : s.files 0 = none := (unhide HOK).wf.zero
  have hfl0 : ∀ n f, s.files n = some f → f.data.length ≤ 1048576 := fun n f hf => by have := (unhide HOK).fl n f hf; omega
  have hnew0 : s.newest ≤ 4096 := by have := (unhide HOK).n1; omega
  have hbig : ∀ b, w6.heap.size ≤ b → (G.copy0 w.heap.size (w.heap.size + 1)).role b = none := fun b hb => Classical.byContradiction fun hn => absurd ((unhide HR6).lt b hn) (by omega)
  have hR7 : Rep w7 (G.copy0 w.heap.size (w.heap.size + 1)) (bareS s) := (unhide HR6).congr hg7.size (fun b hb => hg7.block b ((unhide HR6).lt b hb) (by simp)) (glob_of (unhide HR6).glob (hg7.block 0 (unhide HR6).pos (by simp)))
  have hnone : ∀ n : Int, (if Maps.has G.DM (.int .i64 n) = true then none else s.files n) = none := by
    intro n
    by_cases e : Maps.has G.DM (.int .i64 n) = true
    · rw [if_pos e]
    · rw [if_neg e]
      cases hq : s.files n with
      | none => rfl
      | some f =>
        exfalso
        have h1 := ((unhide HR).files n f hq).map
        rw [atKey_of_not_has (by simpa using e)] at h1
        cases h1
  have hst : CpIn w w7 G s w.heap.size (w.heap.size + 1) w6.heap.size (Maps.has G.DM) (Maps.size G.DM) (G.copy0 w.heap.size (w.heap.size + 1)) := by
    refine ⟨hrg7, by show Maps.size (.map [] : DataW Unit) + _ ≤ _; simp [Maps.size], ?_, ?_, rfl, rfl, rfl, rfl, rfl, rfl, fun b hb => ?_, hbig _ (Nat.le_refl _), by omega, fun n f hf => ?_⟩
    · have : (fun n : Int => if Maps.has G.DM (.int .i64 n) = true then none else s.files n) = fun _ => none := funext hnone
      rw [this]; exact hR7
    · exact (unhide HB6).trans ⟨hg7.os, hg7.tape, hg7.output, hg7.size, fun b hb => hg7.block b (by omega) (by simp)⟩
    · show (if b = w.heap.size then some .fs else if b = w.heap.size + 1 then some .files else keepR (G.role b)) = _
      rw [if_neg (by omega), if_neg (by omega)]
    · rw [hnone] at hf; cases hf
  have HZ := hide hz0
  have HFL := hide hfl0
  have HNW := hide hnew0
  clear hs6 hbig hR7 hnone hrg7 hg7 hs7 hz0 hfl0 hnew0 k0 k1 k2 k3 k4 k5 k6 k7 k8 k9
  go_loopw [4, 5] (fun _ _ wr => ∃ (left : Lit → Bool) (cnt : Nat) (G' : Lie), CpIn w wr G s w.heap.size (w.heap.size + 1) w6.heap.size left cnt G') (fun _ _ wr => wr.rangeLeft G.M w6.heap.size)
  case atStart => exact ⟨_, _, _, hst⟩
  case round =>
    obtain ⟨left, cnt, G', hC⟩ := hrel
    clear hst
    go_wp2_with (first
      | (at_next; refine wpList_next_ranges _ rfl _ rfl 3 lawI fileElem (Value.int .i64) ptrV (fun key kl hk => by obtain ⟨x, hx, _⟩ := Maps.keyOf_int_inv Tryd.underlying3 hk; exact ⟨x, hx⟩) ptrV_inv G.M w6.heap.size _ _ _ _ rfl hC.rg ?_ ?_)
      | go_in)
    · intro hc0 hl0
      have hR : Rep wr G' s := by
        have e : (fun n : Int => if left (.int .i64 n) = true then none else s.files n) = s.files := funext fun n => by rw [hl0]; rfl
        have := hC.rep
        rw [e] at this
        exact this
      have hfw : ∀ n f, s.files n = some f → w.heap.size ≤ G'.fb n ∧ ∀ g, (G'.dv n).ownBlock = some g → w.heap.size ≤ g := fun n f hf => hC.fw n f (by rw [hl0]; exact hf)
      have hFr : wr.heap[w.heap.size]? = some (.cells (fsCells s G') 65 (0, 0)) := by rw [← hC.F]; exact hR.fsb
      have lC : w.heap.size < wr.heap.size := by rw [← hC.F]; exact hR.lt _ (by rw [hR.rF]; simp)
      have j3 := (unhide HK wr hC.below).1
      have tNr : Tab wr G.N _ s.names := tab_congr (unhide HR).tN (hC.below.block _ ((unhide HR).lt _ (by rw [(unhide HR).rN]; simp)))
      have HCC := hide hC
      have HRR := hide hR
      have HFW := hide hfw
      have hneF : G.F ≠ w.heap.size := by omega
      have HLF := hide lF
      clear hC hR hfw hc0 hl0 lF
      go_wp2_with fail
      refine (AnyW.maps_Clone_owns Tryd.cloneM 9 (plainElem Tryd.prog 3) G.N _ s.names wr tNr).mono ?_
      rintro en w8 ⟨rfl, hT8, _, hB8⟩
      have h8C := (hB8.block _ lC).trans hFr
      have k83 : w8.cell? ⟨w.heap.size, 3, none⟩ = some (.map (some G'.N)) := cell_fs h8C rfl
      have f83 : w8.frozen? ⟨w.heap.size, 3, none⟩ = false := free_fs h8C
      have b8 : Below w.heap.size w w8 := (unhide HCC).below.trans (hB8.mono (by omega))
      have j84 := (unhide HK w8 b8).2.1
      have l8 := World.ownsMap.lt hT8
      have HT8 := hide hT8
      have HB8 := hide hB8
      have H8C := hide h8C
      have Hb8 := hide b8
      clear hT8 hB8 h8C b8 tNr hFr j3
      go_wp2_with fail
      obtain ⟨w9, hw9⟩ : ∃ w9, w9 = w8.setCell ⟨w.heap.size, 3, none⟩ (.map (some wr.heap.size)) := ⟨_, rfl⟩
      rw [← hw9]
      have hs9 : w9.heap.size = w8.heap.size := by rw [hw9]; simp [World.setCell]
      have h9C : w9.heap[w.heap.size]? = some (.cells ((fsCells s G').setIfInBounds 3 (.map (some wr.heap.size))) 65 (0, 0)) := by rw [hw9]; exact heap_setCell_at (unhide H8C) _
      have ho9 : ∀ b, b ≠ w.heap.size → w9.heap[b]? = w8.heap[b]? := fun b hb => by rw [hw9]; exact heap_setCell_ne (a := ⟨w.heap.size, 3, none⟩) hb _
      have ht9 : w9.os = w8.os ∧ w9.tape = w8.tape ∧ w9.output = w8.output := by rw [hw9]; exact ⟨rfl, rfl, rfl⟩
      have b9 : Below w.heap.size w w9 := ⟨ht9.1.trans (unhide Hb8).os, ht9.2.1.trans (unhide Hb8).tape, ht9.2.2.trans (unhide Hb8).output, by have := (unhide Hb8).size; omega, fun b hb => (ho9 b (by omega)).trans ((unhide Hb8).block b hb)⟩
      have tD9 : Tab w9 G.D _ s.durable := tab_congr (unhide HR).tD (b9.block _ ((unhide HR).lt _ (by rw [(unhide HR).rD]; simp)))
      clear hw9 k83 f83 j84
      refine (AnyW.maps_Clone_owns Tryd.cloneM 9 (plainElem Tryd.prog 3) G.D _ s.durable w9 tD9).mono ?_
      rintro en w10 ⟨rfl, hT10, _, hB10⟩
      have h10C := (hB10.block _ (by omega)).trans h9C
      have k104 : w10.cell? ⟨w.heap.size, 4, none⟩ = some (.map (some G'.D)) := cell_fs h10C rfl
      have f104 : w10.frozen? ⟨w.heap.size, 4, none⟩ = false := free_fs h10C
      have b10 : Below w.heap.size w w10 := b9.trans (hB10.mono (by omega))
      have j105 := (unhide HK w10 b10).2.2
      have l10 := World.ownsMap.lt hT10
      have HT10 := hide hT10
      have HB10 := hide hB10
      have H10C := hide h10C
      have Hb10 := hide b10
      have HO9 := hide ho9
      have HS9 := hide hs9
      clear hT10 hB10 h10C b10 tD9 h9C ho9 ht9 b9 hs9
      go_wp2_with fail
      obtain ⟨w11, hw11⟩ : ∃ w11, w11 = w10.setCell ⟨w.heap.size, 4, none⟩ (.map (some w9.heap.size)) := ⟨_, rfl⟩
      rw [← hw11]
      have hs11 : w11.heap.size = w10.heap.size := by rw [hw11]; simp [World.setCell]
      have h11C : w11.heap[w.heap.size]? = some (.cells (((fsCells s G').setIfInBounds 3 (.map (some wr.heap.size))).setIfInBounds 4 (.map (some w9.heap.size))) 65 (0, 0)) := by rw [hw11]; exact heap_setCell_at (unhide H10C) _
      have ho11 : ∀ b, b ≠ w.heap.size → w11.heap[b]? = w10.heap[b]? := fun b hb => by rw [hw11]; exact heap_setCell_ne (a := ⟨w.heap.size, 4, none⟩) hb _
      have ht11 : w11.os = w10.os ∧ w11.tape = w10.tape ∧ w11.output = w10.output := by rw [hw11]; exact ⟨rfl, rfl, rfl⟩
      have b11 : Below w.heap.size w w11 := ⟨ht11.1.trans (unhide Hb10).os, ht11.2.1.trans (unhide Hb10).tape, ht11.2.2.trans (unhide Hb10).output, by have := (unhide Hb10).size; omega, fun b hb => (ho11 b (by omega)).trans ((unhide Hb10).block b hb)⟩
      have hpr : w11.ownsRow 0 76 2 (.slice pa s.pending.length pc) s.pending.length (chgCells s.pending G.cl) := by
        rw [← unhide HPV]
        exact row_congr (unhide HR).pend (fun g hg => b11.block g ((unhide HR).lt g (by rw [(unhide HR).rP g hg]; simp)))
      clear hw11 k104 f104 j105
      refine (clonePend_any hpr (chgCells_one (unhide HR).chg) (by have := (unhide HOK).mD; omega)).mono ?_
      rintro en w12 ⟨v', rfl, hP12, hB12⟩
      have h12C := (hB12.block _ (by have := unhide HS9; omega)).trans h11C
      have k125 : w12.cell? ⟨w.heap.size, 5, none⟩ = some G'.pv := cell_fs h12C rfl
      have f125 : w12.frozen? ⟨w.heap.size, 5, none⟩ = false := free_fs h12C
      have HP12 := hide hP12
      have HB12 := hide hB12
      have H12C := hide h12C
      have HO11 := hide ho11
      have HS11 := hide hs11
      have Hb11 := hide b11
      clear hP12 hB12 h12C h11C ho11 ht11 b11 hs11 hpr
      obtain ⟨va, vc, rfl⟩ := row_form (unhide HP12)
      go_wp2_with fail
      go_ret
      obtain ⟨w13, hw13⟩ : ∃ w13, w13 = w12.setCell ⟨w.heap.size, 5, none⟩ (.slice va s.pending.length vc) := ⟨_, rfl⟩
      rw [← hw13]
      have e9 := unhide HS9
      have e11 := unhide HS11
      have l12 := (unhide HB12).size
      have hs13 : w13.heap.size = w12.heap.size := by rw [hw13]; simp [World.setCell]
      have ho13 : ∀ b, b ≠ w.heap.size → w13.heap[b]? = w12.heap[b]? := fun b hb => by rw [hw13]; exact heap_setCell_ne (a := ⟨w.heap.size, 5, none⟩) hb _
      have ht13 : w13.os = w12.os ∧ w13.tape = w12.tape ∧ w13.output = w12.output := by rw [hw13]; exact ⟨rfl, rfl, rfl⟩
      have chain : ∀ b, b < wr.heap.size → b ≠ w.heap.size → w13.heap[b]? = wr.heap[b]? := fun b hb hne =>
        (ho13 b hne).trans (((unhide HB12).block b (by omega)).trans ((unhide HO11 b hne).trans (((unhide HB10).block b (by omega)).trans ((unhide HO9 b hne).trans ((unhide HB8).block b hb)))))
      have eF := (unhide HCC).F
      have ecl := (unhide HCC).cl
      have h13C : w13.heap[w.heap.size]? = some (.cells (fsCells s (G'.copied G w.heap.size wr.heap.size w9.heap.size (.slice va s.pending.length vc))) 65 (0, 0)) := by
        rw [hw13]; exact heap_setCell_at (unhide H12C) _
      have tN13 : Tab w13 wr.heap.size _ s.names := tab_congr (unhide HT8) ((ho13 _ (by omega)).trans (((unhide HB12).block _ (by omega)).trans ((unhide HO11 _ (by omega)).trans (((unhide HB10).block _ (by omega)).trans (unhide HO9 _ (by omega))))))
      have tD13 : Tab w13 w9.heap.size _ s.durable := tab_congr (unhide HT10) ((ho13 _ (by omega)).trans (((unhide HB12).block _ (by omega)).trans (unhide HO11 _ (by omega))))
      have hge : ∀ g, (Value.slice va s.pending.length vc).ownBlock = some g → w11.heap.size ≤ g := by
        intro g hg
        rcases (unhide HP12).2 with ⟨e, _⟩ | ⟨g0, cap, cur, e, hge, _⟩
        · rw [e] at hg; cases hg
        · rw [e] at hg
          have e2 : some g0 = some g := hg
          have : g0 = g := by simpa using e2
          omega
      have hp13 : w13.ownsRow wr.heap.size 76 2 (.slice va s.pending.length vc) s.pending.length (chgCells s.pending G'.cl) := by
        rw [ecl]
        refine row_le (row_congr (unhide HP12) (fun g hg => ho13 g (by have := hge g hg; omega))) (by omega)
      have hMw : w.heap.size ≤ G'.M := by rw [(unhide HCC).M]; omega
      obtain ⟨hRf, hrole⟩ := (unhide HR).copied (w' := w13) (N2 := wr.heap.size) (D2 := w9.heap.size) (pv2 := .slice va s.pending.length vc) (unhide HRR) (unhide HCC).role (by omega) (Nat.le_refl _) (by omega) (by omega) (by omega) (by omega)
        (by rw [eF]; exact h13C) (fun b hb hne => chain b hb (by rw [← eF]; exact hne)) (by omega) hMw (unhide HFW) tN13 tD13 hp13 (fun e => by have := hge _ e; omega) (fun e => by have := hge _ e; omega)
      refine ⟨G'.copied G w.heap.size wr.heap.size w9.heap.size (.slice va s.pending.length vc), ?_, hRf, ?_, hrole⟩
      · rw [show (G'.copied G w.heap.size wr.heap.size w9.heap.size (.slice va s.pending.length vc)).F = w.heap.size from eF]; rfl
      · have bb : Below w.heap.size w w12 := (unhide Hb11).trans ((unhide HB12).mono (by omega))
        exact ⟨ht13.1.trans bb.os, ht13.2.1.trans bb.tape, ht13.2.2.trans bb.output, by omega, fun b hb => (ho13 b (by omega)).trans (bb.block b hb)⟩
    · intro x c kl yd yp wn cnt2 hkey hlk hv hat hrg2 hlt hg2 hs2' hen
      obtain ⟨x', ex, rfl, hwf⟩ := Maps.keyOf_int_inv Tryd.underlying3 hkey
      obtain rfl : x = x' := by simpa using ex
      obtain ⟨b, rfl, kC, hcall⟩ := copy_round hC (unhide HR) (unhide HZ) (unhide HFL) (unhide HNW) x hwf hlk hv hat hrg2 hlt hg2
      have HC := hide hcall
      have HLT := hide hlt
      have HCC := hide hC
      simp only [ptrV] at hen ⊢
      clear hcall hC hrg2 hg2 hs2' hlk hat hv hkey ex hlt hwf
      go_wp2_with fail
      go_region_held3 (fun w' => w'.cell? ⟨w.heap.size, 1, none⟩ = some (.map (some (w.heap.size + 1))))
        (go_keep)
        ((go_at_call 51; refine (unhide HC _ (by rfl) (by rfl) (by rfl) (by rfl)).mono ?_; rintro en w4 ⟨bF, w5, rfl, hrun, k4, k5, hnext⟩; have HNX := hide hnext; clear hnext))
      obtain ⟨G5, h5⟩ := unhide HNX
      have HRES := hide h5
      clear h5
      go_wp2
      go_roundw
      case rel => exact ⟨_, _, G5, unhide HRES⟩
      case measure => rw [(unhide HRES).rg.left_eq, (unhide HCC).rg.left_eq]; exact unhide HLT

end Go.Proofs.YtbdbobikiikbgaaDoor
