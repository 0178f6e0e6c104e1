/-
  One round of Crash.
-/
import Derived.Test.YtbdbobikiikbgaaDoorCrashS
namespace Go.Proofs.YtbdbobikiikbgaaDoor
open Go.RowKit Go.WideMaps Go.Maps Go.Sort

structure CrIn (w1 wr : World) (G1 : Lie) (s6 : AS) (D : DataW Unit) (e : Int) (NB r M2 : Nat) (left : Lit → Bool) (cnt : Nat) (ss : List (List UInt8)) (G' : Lie) (DM2 : DataW Unit) : Prop where
  rg : wr.ranges Tryd.prog 9 (plainElem Tryd.prog 3) NB r (Maps.size D) D left cnt
  col : Collected D left ss
  sum : ss.length + cnt ≤ Maps.size D
  rep : Rep wr G' (crashedS s6 D e ss)
  went : Went w1 G1 wr G'
  fb : G'.fb = G1.fb
  nn : G'.N = NB
  fm : Fmap wr M2 ss.length DM2
  at_ : ∀ m : Int, DM2.atKey (.int .i64 m) .nil = if m ∈ numL D ss then .ptr (.lit (.int .i64 (G1.fb m))) else .nil
  has_ : ∀ m : Int, Maps.has DM2 (.int .i64 m) = true → m ∈ numL D ss
  rM : G'.role M2 = none
  rr : G'.role r = none
  lM : M2 < wr.heap.size
  nM : M2 ≠ r
  bM : w1.heap.size ≤ M2
  br : w1.heap.size ≤ r

theorem row_take {w w' : World} {fa : Option Addr} {l : List UInt8} {fc d : Nat} (h : w.ownsRow 0 5 1 (.slice fa l.length fc) l.length (bytesV l)) (hd : d ≤ l.length) (he : ∀ g, (Value.slice fa l.length fc).ownBlock = some g → w'.heap[g]? = w.heap[g]?) :
    w'.ownsRow 0 5 1 (.slice fa d fc) (l.take d).length (bytesV (l.take d)) := by
  have hl : (l.take d).length = d := by simp; omega
  rw [hl]
  refine ⟨by simp [bytesV]; omega, ?_⟩
  rcases h.2 with ⟨e1, e2⟩ | ⟨g, cap, cur, e1, e2, e3, e4, e5, e6, e7⟩
  · simp at e1
    left
    have : d = 0 := by omega
    rw [this, e1.1, e1.2.2]; exact ⟨rfl, rfl⟩
  · right
    simp at e1
    obtain ⟨rfl, rfl⟩ := e1
    refine ⟨g, fc, cur, rfl, e2, (he g rfl).trans e3, by omega, e5, e6, ?_⟩
    have : cur.toList.take (d * 1) = (cur.toList.take (l.length * 1)).take d := by rw [List.take_take]; congr 1; omega
    rw [this, e7]
    simp [bytesV, List.map_take]

theorem crashed_size {s6 : AS} {D : DataW Unit} {e : Int} (hl : ∀ n f, s6.files n = some f → f.data.length ≤ 1048576) : ∀ ss : List (List UInt8), 0 ≤ (crashedS s6 D e ss).size ∧ (crashedS s6 D e ss).size ≤ (ss.length : Int) * 1048576 := by
  intro ss
  show 0 ≤ ((numL D ss).map (lenAt fun n => (s6.files n).map (crashF e))).sum ∧ ((numL D ss).map (lenAt fun n => (s6.files n).map (crashF e))).sum ≤ _
  induction ss with
  | nil => simp [numL]
  | cons x r ih =>
    have h1 : 0 ≤ lenAt (fun n => (s6.files n).map (crashF e)) (num D ⟨x.toArray⟩) ∧ lenAt (fun n => (s6.files n).map (crashF e)) (num D ⟨x.toArray⟩) ≤ 1048576 := by
      show (0 : Int) ≤ (match (s6.files (num D ⟨x.toArray⟩)).map (crashF e) with | some f => (f.data.length : Int) | none => 0) ∧ (match (s6.files (num D ⟨x.toArray⟩)).map (crashF e) with | some f => (f.data.length : Int) | none => 0) ≤ 1048576
      rcases hf : s6.files (num D ⟨x.toArray⟩) with _ | f
      · simp
      · have := hl _ f hf
        show (0 : Int) ≤ ((crashF e f).data.length : Int) ∧ ((crashF e f).data.length : Int) ≤ 1048576
        have : (crashF e f).data.length ≤ f.data.length := by simp [crashF]; omega
        omega
    simp only [numL, List.map_cons, List.sum_cons, List.length_cons] at ih ⊢
    omega

theorem crash_round {w1 wr w2 : World} {G1 : Lie} {s6 : AS} {D : DataW Unit} {e : Int} {NB r M2 : Nat} {left : Lit → Bool} {cnt cnt2 : Nat} {ss : List (List UInt8)} {G' : Lie} {DM2 : DataW Unit} {bd : Int}
    (hC : CrIn w1 wr G1 s6 D e NB r M2 left cnt ss G' DM2) (hG : Good D bd (fun n => s6.files n ≠ none)) (hl : ∀ n f, s6.files n = some f → f.data.length ≤ 1048576) (hm : Maps.size D ≤ 4096) (x : List UInt8) (c : Int)
    (hlk : left (.string x) = true) (hat : ∀ zd, D.atKey (.string x) zd = .lit (.int .i64 c)) (hwf : (Lit.int .i64 c).wf = true) (hrg : w2.ranges Tryd.prog 9 (plainElem Tryd.prog 3) NB r (Maps.size D) D (fun z => left z && !z.sameKey (.string x)) cnt2) (hlt : cnt2 < cnt)
    (hg : wr.grownBy w2 (some r)) :
    ∃ (z d fb : Nat) (fa : Option Addr) (fc : Nat), (crashedS s6 D e ss).size = z ∧ z ≤ 4294967296 ∧ d ≤ 1048576 ∧ w2.cell? ⟨G'.F, 1, none⟩ = some (.map (some G'.M)) ∧
      (Instr.lookup 60 (.map (some G'.M)) (.int .i64 c) false).run Tryd.prog w2 = .ok (.pointer (some ⟨fb, 0, none⟩)) w2 ∧
      Calls Tryd.prog 38 #[.pointer (some ⟨fb, 0, none⟩), .int .i64 e] w2 fun en w3 => en = .returned (.tuple #[]) ∧ ∃ w4, (Instr.mapUpdate 60 (.map (some M2)) (.int .i64 c) (.pointer (some ⟨fb, 0, none⟩))).run Tryd.prog w3 = .ok () w4 ∧
        w4.cell? ⟨G'.F, 6, none⟩ = some (.int .i64 z) ∧ w4.frozen? ⟨G'.F, 6, none⟩ = false ∧ w4.cell? ⟨fb, 0, none⟩ = some (.slice fa d fc) ∧
        ∀ w5, w5 = (w4.setCell ⟨G'.F, 6, none⟩ (.int .i64 ((z : Int) + d))).drew → ∃ G5 DM5, CrIn w1 w5 G1 s6 D e NB r M2 (fun z => left z && !z.sameKey (.string x)) cnt2 (ss ++ [x]) G5 DM5 ∧ G5.F = G'.F := by
  have nx : num D ⟨x.toArray⟩ = c := by unfold num; simp only []; rw [hat]
  have hhas : Maps.has D (key ⟨x.toArray⟩) = true := by unfold key; rw [show (⟨x.toArray⟩ : ByteArray).data.toList = x by simp]; exact has_true_of_atKey hat
  have c0 : c ≠ 0 := by rw [← nx]; exact hG.nz _ hhas
  obtain ⟨f, hf⟩ : ∃ f, s6.files c = some f := by
    have := (hG.ub ⟨x.toArray⟩ (by rw [nx]; exact c0)).2.2
    rw [nx] at this
    cases hq : s6.files c with
    | none => exact absurd hq this
    | some f => exact ⟨f, rfl⟩
  have hxs : x ∉ ss := fun hx => by have := ((hC.col.2 x).1 hx).2; rw [hlk] at this; cases this
  have hcn : c ∉ numL D ss := fun hx => by
    obtain ⟨y, hy, e1⟩ := List.mem_map.1 hx
    have := hG.inj ⟨y.toArray⟩ ⟨x.toArray⟩ (by rw [e1]; exact c0) (by rw [e1, nx])
    simp at this
    rw [this] at hy; exact hxs hy
  have hfc : (crashedS s6 D e ss).files c = some f := by
    show (if c ∈ numL D ss then (s6.files c).map (crashF e) else s6.files c) = some f
    rw [if_neg hcn]; exact hf
  have hrne : ∀ b, G'.role b ≠ none → b ≠ r := fun b hb e => hb (by rw [e]; exact hC.rr)
  have hR2 : Rep w2 G' (crashedS s6 D e ss) := hC.rep.congr hg.size (fun b hb => hg.block b (hC.rep.lt b hb) (fun e => hrne b hb (by simpa using e))) (glob_of hC.rep.glob (hg.block 0 hC.rep.pos (fun e => by
    have hz0 : 0 = r := by simpa using e
    have h1 := hC.br
    have h2 := hC.went.fr.size
    have h3 := hC.rg.lt
    have h4 : 0 < w1.heap.size := by
      have := hC.rep.lt G'.F (by rw [hC.rep.rF]; simp)
      by_cases hz : 0 < w1.heap.size
      · exact hz
      · exfalso
        have h5 := hC.rg.owns
        obtain ⟨m, hm⟩ := hC.rep.glob
        obtain ⟨_, _, _, _, _, _, _, _, _, hr, _⟩ := hC.rg
        unfold World.cell? at hm
        rw [← hz0] at hr
        rw [hr] at hm
        cases hm
    omega)))
  have q := hR2.files c f hfc
  obtain ⟨fa, fc, hdv⟩ := row_form q.row
  have hrow := q.row
  rw [hdv] at hrow
  have hcap : f.data.length ≤ fc ∧ fc ≤ maxLen ∧ (fa = none → fc = 0) := by
    rcases hrow.2 with ⟨e1, e2⟩ | ⟨g, cap, cur, e1, _, _, e2, e3, _⟩
    · simp at e1; exact ⟨by omega, by unfold maxLen; omega, fun _ => e1.2.2⟩
    · simp at e1; exact ⟨by omega, by omega, fun h => by rw [h] at e1; simp at e1⟩
  have hfl := hl c f hf
  obtain ⟨d, hd⟩ : ∃ d, d = crashN e f.data.length f.dur := ⟨_, rfl⟩
  have hdle : d ≤ f.data.length := by rw [hd]; exact crashN_le e q.le
  have hcF : crashF e f = ⟨f.data.take d, d⟩ := by rw [hd]; rfl
  have hcl : (f.data.take d).length = d := by simp; omega
  obtain ⟨z0, z1⟩ := crashed_size (D := D) (e := e) hl ss
  have hsl : ss.length ≤ 4096 := by have := hC.sum; omega
  have hblk : w2.heap[G'.fb c]? = some (.cells #[.slice fa f.data.length fc, .int .i64 f.dur] 69 (0, 0)) := by rw [← hdv]; exact q.block
  refine ⟨(crashedS s6 D e ss).size.toNat, d, G'.fb c, fa, fc, by omega, by omega, by omega, cell_fs hR2.fsb rfl, look_file hR2 c hwf f hfc 0, ?_⟩
  refine (fileCrash_any (G'.fb c) f.data.length f.dur fc fa e w2 hblk q.le hcap.1 (by omega) (by have := hcap.2.1; unfold maxLen at this; omega) hcap.2.2).mono ?_
  rintro en w3 ⟨rfl, ht⟩
  rw [← hd] at ht
  refine ⟨rfl, ?_⟩
  have hneD : ∀ g, (Value.slice fa f.data.length fc).ownBlock = some g → g ≠ G'.fb c := fun g hg' e1 => by
    have h1 := q.rd g (by rw [hdv]; exact hg')
    rw [e1, q.rb] at h1; simp at h1
  have hg3 : w2.grownBy w3 (some (G'.fb c)) := ⟨ht.os, ht.tape, ht.output, by rw [ht.size]; exact Nat.le_refl _, fun k _ hk => ht.block k (fun e => hk (by rw [e]))⟩
  obtain ⟨hR3, hro3⟩ := hR2.reput (w' := w3) (n := c) (f := f) (f' := crashF e f) (v := .slice fa d fc) hfc (by rw [ht.size]; exact Nat.le_refl _) (by rw [hcF]; exact ht.own)
    (by rw [hcF]; exact row_take hrow hdle (fun g hg' => ht.block g (hneD g hg'))) (fun g hg' => Or.inl (by rw [hdv]; cases fa <;> exact hg')) (by rw [hcF]; show d ≤ (f.data.take d).length; omega) (fun b _ h1 _ => ht.block b h1)
  have hM2ne : M2 ≠ G'.fb c := fun e1 => by have := q.rb; rw [← e1, hC.rM] at this; cases this
  have hfm2 : Fmap w2 M2 ss.length DM2 := fmap_congr hC.fm (hg.block M2 hC.lM (fun e1 => hC.nM (by simpa using e1)))
  have hfm3 : Fmap w3 M2 ss.length DM2 := fmap_congr hfm2 (ht.block M2 hM2ne)
  obtain ⟨w4, hrun, hfm4, ht4⟩ := World.ownsMap.store hfm3 lawI Tryd.underlying60 (by unfold maxLen; omega) (keyOf_int_mk Tryd.underlying3 hwf) (val := .pointer (some ⟨G'.fb c, 0, none⟩)) (d := .ptr (.lit (.int .i64 (G'.fb c)))) (ps := []) rfl
  have hg4 := ht4.grown
  have lM3 : M2 < w3.heap.size := by rw [ht.size]; exact Nat.lt_of_lt_of_le hC.lM hg.size
  have l23 : w2.heap.size = w3.heap.size := ht.size.symm
  have rM3 : (G'.reput c (.slice fa d fc)).role M2 = none := by rw [hro3 M2 (by omega)]; exact hC.rM
  have rr3 : (G'.reput c (.slice fa d fc)).role r = none := by rw [hro3 r hrg.lt]; exact hC.rr
  have p0 : (0 : Nat) ≠ M2 := fun e1 => by
    obtain ⟨m, hm⟩ := hR3.glob
    obtain ⟨es, ck, hb, _⟩ := hfm3
    unfold World.cell? at hm
    rw [← e1] at hb
    rw [hb] at hm
    cases hm
  have hR4 : Rep w4 (G'.reput c (.slice fa d fc)) (setFile (crashedS s6 D e ss) c (crashF e f)) :=
    hR3.congr hg4.size (fun b hb => hg4.block b (hR3.lt b hb) (fun e1 => hb (by rw [show b = M2 by simpa using e1]; exact rM3))) (glob_of hR3.glob (hg4.block 0 hR3.pos (fun e1 => p0 (by simpa using e1))))
  refine ⟨w4, hrun, ?_, free_fs hR4.fsb, ?_, ?_⟩
  · rw [show (((crashedS s6 D e ss).size.toNat : Nat) : Int) = (crashedS s6 D e ss).size by omega]; exact cell_fs (F := (G'.reput c (.slice fa d fc)).F) hR4.fsb rfl
  · have q4 := hR4.files c (crashF e f) (by show (if c = c then some (crashF e f) else _) = _; rw [if_pos rfl])
    have e4 : (G'.reput c (.slice fa d fc)).dv c = .slice fa d fc := by show (if c = c then _ else _) = _; rw [if_pos rfl]
    rw [← e4]; exact cell_fs q4.block rfl
  · intro w5 hw5
    have hF5 : w5.heap[G'.F]? = some (.cells (fsCells (crashedS s6 D e (ss ++ [x])) (G'.reput c (.slice fa d fc))) 65 (0, 0)) := by
      rw [hw5, crashedS_snoc s6 D e ss x c nx f hf, hcF]
      have h1 := heap_setCell_at (i := 6) hR4.fsb (.int .i64 ((((crashedS s6 D e ss).size.toNat : Nat) : Int) + d))
      rw [show (((crashedS s6 D e ss).size.toNat : Nat) : Int) = (crashedS s6 D e ss).size by omega] at h1 ⊢
      have h2 : ((f.data.take d).length : Int) = d := by omega
      simp only [fsCells] at h1 ⊢
      rw [h2]
      exact h1
    have ho5 : ∀ b, b ≠ G'.F → w5.heap[b]? = w4.heap[b]? := fun b hb => by rw [hw5]; exact heap_setCell_ne (a := ⟨G'.F, 6, none⟩) hb _
    have hs5 : w5.heap.size = w4.heap.size := by rw [hw5]; simp [World.setCell, World.drew]
    have ht5 : w5.os = w4.os ∧ w5.tape = w4.tape ∧ w5.output = w4.output := by rw [hw5]; exact ⟨rfl, rfl, rfl⟩
    have hg5 : w4.grownBy w5 (some G'.F) := ⟨ht5.1, ht5.2.1, ht5.2.2, by omega, fun k _ hk => ho5 k (fun e1 => hk (by rw [e1]))⟩
    have hR5 : Rep w5 (G'.reput c (.slice fa d fc)) (crashedS s6 D e (ss ++ [x])) := by
      refine hR4.scal (s' := crashedS s6 D e (ss ++ [x])) rfl rfl rfl ?_ (Int.le_refl _) hF5 ho5 (by omega)
      rw [crashedS_snoc s6 D e ss x c nx f hf]
    have rF := hC.rep.rF
    have hNBF : NB ≠ G'.F := fun e1 => by have := hC.rep.rN; rw [hC.nn, e1, rF] at this; simp at this
    have hNBb : NB ≠ G'.fb c := fun e1 => by have := hC.rep.rN; rw [hC.nn, e1, q.rb] at this; simp at this
    have hNBM : NB ≠ M2 := fun e1 => by have := hC.rep.rN; rw [hC.nn, e1, hC.rM] at this; cases this
    have hrF : r ≠ G'.F := fun e1 => by have := hC.rr; rw [e1, rF] at this; cases this
    have hrb : r ≠ G'.fb c := fun e1 => by have := hC.rr; rw [e1, q.rb] at this; cases this
    have hMF : M2 ≠ G'.F := fun e1 => by have := hC.rM; rw [e1, rF] at this; cases this
    have hnum : numL D (ss ++ [x]) = numL D ss ++ [c] := by simp [numL, nx]
    refine ⟨G'.reput c (.slice fa d fc), DM2.put (.int .i64 c) (.ptr (.lit (.int .i64 (G'.fb c)))), ⟨((hrg.kept hg3 (by simpa using hNBb) (by simpa using hrb)).kept hg4 (by simpa using hNBM) (by simpa using hC.nM.symm)).kept hg5 (by simpa using hNBF) (by simpa using hrF), hC.col.step hlk hat, by have := hC.sum; simp; omega, hR5, ?_, hC.fb, hC.nn,
      ?_, ?_, ?_, rM3, rr3, by have := hg4.size; omega, hC.nM, hC.bM, hC.br⟩, rfl⟩
    · have l1 := hC.went.fr.size
      have l2 := hg.size
      have l4 := hg4.size
      refine ⟨⟨?_, ?_, ?_, by omega, fun b hb hr => ?_⟩, hC.went.F, fun b hb => ?_⟩
      · rw [ht5.1, hg4.os, ht.os, hg.os, hC.went.fr.os]
      · rw [ht5.2.1, hg4.tape, ht.tape, hg.tape, hC.went.fr.tape]
      · rw [ht5.2.2, hg4.output, ht.output, hg.output, hC.went.fr.output]
      · have hrole := hC.went.role b hb
        have n1 : b ≠ G'.F := fun e1 => by rw [← hrole, e1, rF] at hr; simp at hr
        have n2 : b ≠ G'.fb c := fun e1 => by rw [← hrole, e1, q.rb] at hr; simp at hr
        have n3 : b ≠ M2 := by have := hC.bM; omega
        have n4 : b ≠ r := by have := hC.br; omega
        exact (ho5 b n1).trans ((hg4.block b (by omega) (by simpa using n3)).trans ((ht.block b n2).trans ((hg.block b (by omega) (by simpa using n4)).trans (hC.went.fr.block b hb hr))))
      · exact (hro3 b (by omega)).trans (hC.went.role b hb)
    · have h1 : Fmap w5 M2 (ss.length + 1) _ := fmap_congr hfm4 (ho5 M2 hMF)
      have h2 : (ss ++ [x]).length = ss.length + 1 := by simp
      rw [h2]; exact h1
    · intro m
      rw [hnum]
      by_cases em : m = c
      · subst em
        rw [atKey_put_same (World.ownsMap.isMap hfm3) (keyInt _), hC.fb]
        simp
      · rw [atKey_put_other (by simpa using em), hC.at_ m]
        simp [em]
    · intro m hm
      rw [hnum]
      by_cases em : m = c
      · subst em; simp
      · rw [has_put_other (by simpa using em)] at hm
        have := hC.has_ m hm
        simp [this]

theorem Chn.le {P : Int → Prop} {hi : Int} : ∀ {cs : List Chg} {D : DataW Unit} {b : Int}, Chn P hi cs D b → b ≤ hi
  | [], _, _, h => h.2
  | _ :: _, _, _, h => Int.le_trans (Step.nxt_le h.2.1) (Chn.le h.2.2)
theorem Wf.goodN {s : AS} (h : Wf s) : Good s.durable s.newest (fun n => s.files n ≠ none) := by
  obtain ⟨b, hc⟩ := h.chain
  exact hc.first.mono hc.le (fun _ h => h)

/-- Behind the last round. -/
theorem crash_close {w1 wr w' : World} {G1 : Lie} {s1 : AS} {e : Int} {NB r M2 : Nat} {left : Lit → Bool} {cnt : Nat} {ss : List (List UInt8)} {G' : Lie} {DM2 : DataW Unit}
    (hC : CrIn w1 wr G1 (crash0S s1) s1.durable e NB r M2 left cnt ss G' DM2) (hW : Wf s1) (hl0 : ∀ kl, left kl = false) (hs : w'.heap.size = wr.heap.size) (ht : w'.os = wr.os ∧ w'.tape = wr.tape ∧ w'.output = wr.output)
    (hF : w'.heap[G'.F]? = some (.cells ((((fsCells (crashedS (crash0S s1) s1.durable e ss) G').setIfInBounds 1 (.map (some M2))).setIfInBounds 8 (.int .i64 0)).setIfInBounds 9 (.bool false)) 65 (0, 0))) (ho : ∀ b, b ≠ G'.F → w'.heap[b]? = wr.heap[b]?) :
    ∃ G'', Rep w' G'' (downS s1 e) ∧ Went w1 G1 w' G'' := by
  have hperm := hC.col.perm hC.rg.owns lawS Tryd.underlying9 hl0
  have hend := crashed_end s1 e ss hperm (crash0S s1) rfl
  have hhas : ∀ x ∈ ss, Maps.has s1.durable (key ⟨x.toArray⟩) = true := fun x hx => by
    have h1 := ((hC.col.2 x).1 hx).1
    unfold key; rw [show (⟨x.toArray⟩ : ByteArray).data.toList = x by simp]; exact h1
  have hlen := numL_len hW.goodN hC.col.1 hhas s1.newest hW.new0 (Int.le_refl _)
  have hMF : M2 ≠ G'.F := fun e1 => by have := hC.rM; rw [e1, hC.rep.rF] at this; cases this
  have p0 : 0 < M2 := by
    have h1 : G'.role G'.F ≠ none := by rw [hC.rep.rF]; simp
    obtain ⟨m, hm⟩ := hC.rep.glob
    by_cases hz : M2 = 0
    · exfalso
      obtain ⟨es, ck, hb, _⟩ := hC.fm
      unfold World.cell? at hm
      rw [hz] at hb
      rw [hb] at hm
      cases hm
    · omega
  refine ⟨G'.crash1 M2 DM2, ?_, ?_⟩
  · refine hC.rep.crash1 (L := numL s1.durable ss) (n := ss.length) (by omega) hC.lM hC.rM p0 (fmap_congr hC.fm (ho M2 hMF)) hlen (fun m => by rw [hC.at_ m, hC.fb]) ?_ rfl rfl rfl rfl ?_ ?_ ?_ (fun b _ hb => ho b hb)
    · intro h0
      obtain ⟨x, hx, e1⟩ := List.mem_map.1 h0
      exact hW.goodN.nz _ (hhas x hx) e1
    · intro m f hf
      rw [← hend] at hf
      have hf' : (if m ∈ numL s1.durable ss then (s1.files m).map (crashF e) else none) = some f := hf
      by_cases hm : m ∈ numL s1.durable ss
      · rw [if_pos hm] at hf'
        refine ⟨hm, ?_⟩
        show (if m ∈ numL s1.durable ss then (s1.files m).map (crashF e) else s1.files m) = some f
        rw [if_pos hm]; exact hf'
      · rw [if_neg hm] at hf'; cases hf'
    · intro m hm'
      have hm := hC.has_ m hm'
      rw [← hend]
      show (if m ∈ numL s1.durable ss then (s1.files m).map (crashF e) else none) ≠ none
      rw [if_pos hm]
      obtain ⟨x, hx, e1⟩ := List.mem_map.1 hm
      have e1' : num s1.durable ⟨x.toArray⟩ = m := e1
      have h3 := (hW.goodN.ub ⟨x.toArray⟩ (hW.goodN.nz _ (hhas x hx))).2.2
      rw [e1'] at h3
      rcases hq : s1.files m with _ | f0
      · exact absurd hq h3
      · simp
    · rw [hF, ← hend]; rfl
  · have l1 := hC.went.fr.size
    refine ⟨⟨ht.1.trans hC.went.fr.os, ht.2.1.trans hC.went.fr.tape, ht.2.2.trans hC.went.fr.output, by omega, fun b hb hr => (ho b (fun e1 => ?_)).trans (hC.went.fr.block b hb hr)⟩, hC.went.F, fun b hb => ?_⟩
    · rw [← hC.went.role b hb, e1, hC.rep.rF] at hr; simp at hr
    · show (if b = M2 then some Role.files else G'.role b) = G1.role b
      have := hC.bM
      rw [if_neg (by omega)]; exact hC.went.role b hb

end Go.Proofs.YtbdbobikiikbgaaDoor
