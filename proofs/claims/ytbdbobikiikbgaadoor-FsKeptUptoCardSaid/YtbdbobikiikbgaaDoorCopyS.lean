/-
  A copy of a file system in memory: how the new one lies while it is made, and behind.
-/
import Derived.Test.YtbdbobikiikbgaaDoorCrashW
namespace Go.Proofs.YtbdbobikiikbgaaDoor
open Go.RowKit Go.WideMaps Go.Maps Go.Sort

def keepR : Option Role → Option Role
  | some .names => some .names
  | some .durable => some .durable
  | some .pend => some .pend
  | some .cap => some .cap
  | _ => none

/-- A new file system that still has the old one's names and changes, and no file. -/
def Lie.copy0 (G : Lie) (C M2 : Nat) : Lie :=
  { F := C, M := M2, N := G.N, D := G.D, pv := G.pv, DM := .map [], cl := G.cl, fb := fun _ => 0, dv := fun _ => .slice none 0 0, role := fun b => if b = C then some .fs else if b = M2 then some .files else keepR (G.role b) }
def bareS (s : AS) : AS := { s with files := fun _ => none }

theorem Rep.copy0 {w w' : World} {G : Lie} {s : AS} {C M2 : Nat} (h : Rep w G s) (hb : Below w.heap.size w w') (hC : w.heap.size ≤ C) (hM : w.heap.size ≤ M2) (hCM : C ≠ M2) (lC : C < w'.heap.size) (lM : M2 < w'.heap.size)
    (hF : w'.heap[C]? = some (.cells (fsCells (bareS s) (G.copy0 C M2)) 65 (0, 0))) (hm : Fmap w' M2 0 (.map [])) : Rep w' (G.copy0 C M2) (bareS s) := by
  have old : ∀ b r, G.role b = some r → w'.heap[b]? = w.heap[b]? := fun b r hr => hb.block b (h.lt b (by rw [hr]; simp))
  have hr : ∀ b r, G.role b = some r → keepR (some r) = some r → (G.copy0 C M2).role b = some r := by
    intro b r hbr hk
    have := h.lt b (by rw [hbr]; simp)
    show (if b = C then some .fs else if b = M2 then some .files else keepR (G.role b)) = some r
    rw [if_neg (by omega), if_neg (by omega), hbr]; exact hk
  refine ⟨hF, ?_, ?_, hr _ _ h.rN rfl, hr _ _ h.rD rfl, tab_congr h.tN (old _ _ h.rN), tab_congr h.tD (old _ _ h.rD), fmap_size hm, rfl, row_congr h.pend (fun g hg => old g _ (h.rP g hg)), fun g hg => hr g _ (h.rP g hg) rfl,
    chgsAt_congr (fun b hb => old b _ hb) (fun b hb => hr b _ hb rfl) h.chg, (fun n f hf => by cases hf), ?_, (h.below hb).glob, ?_, ?_, fun n hn => by cases hn⟩
  · show (if C = C then some Role.fs else _) = some .fs
    rw [if_pos rfl]
  · show (if M2 = C then some Role.fs else if M2 = M2 then some .files else _) = some .files
    rw [if_neg (Ne.symm hCM), if_pos rfl]
  · intro b hb'
    by_cases e : b = C
    · omega
    · by_cases e2 : b = M2
      · omega
      · have h1 : keepR (G.role b) ≠ none := by simpa [Lie.copy0, e, e2] using hb'
        have h2 : G.role b ≠ none := fun e3 => h1 (by rw [e3]; rfl)
        have := h.lt b h2
        have := hb.size
        omega
  · have := h.pos
    show (if 0 = C then some .fs else if 0 = M2 then some .files else keepR (G.role 0)) = none
    rw [if_neg (by omega), if_neg (by omega), h.r0]; rfl
  · have := h.mM
    show ((Maps.size (.map [] : DataW Unit) : Nat) : Int) ≤ s.newest
    simp [Maps.size]; omega

theorem Rep.filedD {w W : World} {G : Lie} {s : AS} {a' : Option Addr} {c' dur bF : Nat} {l : List UInt8} (h : Rep w G s) (hbW : Below w.heap.size w W) (hrow : W.ownsRow w.heap.size 5 1 (.slice a' l.length c') l.length (bytesV l))
    (hblk : W.heap[bF]? = some (.cells #[.slice a' l.length c', .int .i64 (dur : Nat)] 69 (0, 0))) (hbF : w.heap.size ≤ bF) (hnb : (Value.slice a' l.length c').ownBlock ≠ some bF) (hdl : dur ≤ l.length)
    (x : Int) (hx : (Lit.int .i64 x).wf = true) (hx0 : x ≠ 0) (hM : (Maps.size G.DM : Int) + 1 ≤ s.newest) (hM2 : s.newest ≤ 1099511627776) :
    ∃ w5, (Instr.mapUpdate 60 (.map (some G.M)) (.int .i64 x) (.pointer (some ⟨bF, 0, none⟩))).run Tryd.prog W = .ok () w5 ∧
      Rep w5 (G.filed x bF (.slice a' l.length c')) { s with files := fun n => if n = x then some ⟨l, dur⟩ else s.files n } ∧ W.grownBy w5 (some G.M) ∧
      ∀ b, b < w.heap.size → (G.filed x bF (.slice a' l.length c')).role b = G.role b := by
  have hk := h.below hbW
  have lF : bF < W.heap.size := (Array.getElem?_eq_some_iff.1 hblk).1
  obtain ⟨w5, hrun, hT, ht⟩ := World.ownsMap.store hk.fm lawI Tryd.underlying60 (by unfold maxLen; omega) (keyOf_int_mk Tryd.underlying3 hx) (val := .pointer (some ⟨bF, 0, none⟩)) (d := .ptr (.lit (.int .i64 bF))) (ps := []) rfl
  have hg := ht.grown
  have hrowge : ∀ k, (Value.slice a' l.length c').ownBlock = some k → w.heap.size ≤ k ∧ k < W.heap.size := by
    intro k hk'
    rcases hrow.2 with ⟨e, _⟩ | ⟨g, cap, cur, e, hge, hh, _⟩
    · rw [e] at hk'; cases hk'
    · rw [e] at hk'
      have : g = k := by have e2 : some g = some k := hk'; simpa using e2
      rw [← this]; exact ⟨hge, (Array.getElem?_eq_some_iff.1 hh).1⟩
  have hr : ∀ b r, G.role b = some r → (G.filed x bF (.slice a' l.length c')).role b = some r := by
    intro b r hbr
    have hlt := h.lt b (by rw [hbr]; simp)
    show (if b = bF then some (.file x) else if (Value.slice a' l.length c').ownBlock = some b then some (.data x) else G.role b) = some r
    rw [if_neg (by omega), if_neg (fun e => by have := hrowge b e; omega)]; exact hbr
  have ho : ∀ b, b < W.heap.size → b ≠ G.M → w5.heap[b]? = W.heap[b]? := fun b hb hne => hg.block b hb (fun e => hne (by simpa using e))
  have hoR : ∀ b r, G.role b = some r → r ≠ .files → w5.heap[b]? = w.heap[b]? := by
    intro b r hbr hne
    have hlt := h.lt b (by rw [hbr]; simp)
    refine (ho b (by have := hbW.size; omega) (fun e => ?_)).trans (hbW.block b hlt)
    rw [e, h.rM] at hbr; exact hne (by simpa using hbr.symm)
  have hMlt : G.M < w.heap.size := h.lt _ (by rw [h.rM]; simp)
  refine ⟨w5, hrun, ?_, ?_, ?_⟩
  · refine ⟨(hoR _ _ h.rF (by simp)).trans h.fsb, hr _ _ h.rF, hr _ _ h.rM, hr _ _ h.rN, hr _ _ h.rD, tab_congr h.tN (hoR _ _ h.rN (by simp)), tab_congr h.tD (hoR _ _ h.rD (by simp)), fmap_size hT, ?_,
      row_congr h.pend (fun g hg => hoR g _ (h.rP g hg) (by simp)), fun g hg => hr g _ (h.rP g hg), chgsAt_congr (fun b hb => hoR b _ hb (by simp)) (fun b hb => hr b _ hb) h.chg, ?_, ?_, ?_, ?_, ?_, ?_⟩
    · show (G.DM.put (.int .i64 x) _).atKey (.int .i64 0) .nil = .nil
      rw [atKey_put_other (by intro e; simp at e; exact hx0 e.symm)]; exact h.no0
    · intro n f hf
      by_cases e : n = x
      · subst e
        simp only [if_true] at hf
        obtain rfl : (⟨l, dur⟩ : AF) = f := by simpa using hf
        refine ⟨?_, ?_, ?_, ?_, ?_, hdl⟩
        · show (G.DM.put (.int .i64 n) (.ptr (.lit (.int .i64 bF)))).atKey (.int .i64 n) .nil = .ptr (.lit (.int .i64 ((if n = n then bF else G.fb n : Nat) : Int)))
          rw [atKey_put_same (World.ownsMap.isMap h.fm) (keyInt n), if_pos rfl]
        · show (if (if n = n then bF else G.fb n) = bF then some (Role.file n) else _) = some (.file n)
          simp
        · show w5.heap[if n = n then bF else G.fb n]? = some (.cells #[if n = n then .slice a' l.length c' else G.dv n, .int .i64 (dur : Nat)] 69 (0, 0))
          simp only [if_true]
          rw [ho bF (by omega) (by omega)]; exact hblk
        · show w5.ownsRow 0 5 1 (if n = n then .slice a' l.length c' else G.dv n) l.length (bytesV l)
          simp only [if_true]
          refine row_base (row_congr hrow (fun g hg' => ?_))
          have := hrowge g hg'
          exact ho g (by omega) (by omega)
        · intro g hg'
          have hg2 : (Value.slice a' l.length c').ownBlock = some g := by simpa [Lie.filed] using hg'
          have := hrowge g hg2
          show (if g = bF then some (.file n) else if (Value.slice a' l.length c').ownBlock = some g then some (.data n) else G.role g) = some (.data n)
          rw [if_neg (fun e => hnb (by rw [← e]; exact hg2)), if_pos hg2]
      · simp only [if_neg e] at hf
        have q := h.files n f hf
        refine ⟨?_, ?_, ?_, ?_, ?_, q.le⟩
        · show (G.DM.put (.int .i64 x) _).atKey (.int .i64 n) .nil = .ptr (.lit (.int .i64 ((if n = x then bF else G.fb n : Nat) : Int)))
          rw [atKey_put_other (by intro e'; simp at e'; exact e e'), if_neg e]; exact q.map
        · show (G.filed x bF (.slice a' l.length c')).role (if n = x then bF else G.fb n) = some (.file n)
          rw [if_neg e]; exact hr _ _ q.rb
        · show w5.heap[if n = x then bF else G.fb n]? = some (.cells #[if n = x then .slice a' l.length c' else G.dv n, .int .i64 f.dur] 69 (0, 0))
          rw [if_neg e, if_neg e]; exact (hoR _ _ q.rb (by simp)).trans q.block
        · show w5.ownsRow 0 5 1 (if n = x then .slice a' l.length c' else G.dv n) f.data.length (bytesV f.data)
          rw [if_neg e]; exact row_congr q.row (fun g hg => hoR g _ (q.rd g hg) (by simp))
        · intro g hg'
          have hg2 : (G.dv n).ownBlock = some g := by simpa [Lie.filed, e] using hg'
          exact hr g _ (q.rd g hg2)
    · intro b hb'
      have h5 := hg.size
      by_cases e : b = bF
      · omega
      · by_cases e2 : (Value.slice a' l.length c').ownBlock = some b
        · have := hrowge b e2; omega
        · have : G.role b ≠ none := by simpa [Lie.filed, e, e2] using hb'
          have := h.lt b this; omega
    · refine glob_of h.glob ((ho 0 (by omega) (fun e => ?_)).trans (hbW.block 0 h.pos))
      have := h.rM; rw [← e, h.r0] at this; cases this
    · have := h.pos
      show (if 0 = bF then some (.file x) else if (Value.slice a' l.length c').ownBlock = some 0 then some (.data x) else G.role 0) = none
      rw [if_neg (by omega), if_neg (fun e => by have := hrowge 0 e; omega)]; exact h.r0
    · show (Maps.size (G.DM.put (.int .i64 x) _) : Int) ≤ s.newest
      rw [size_put (World.ownsMap.tidy h.fm lawI)]
      split <;> omega
    · intro m hm
      have hm' : Maps.has (G.DM.put (.int .i64 x) (.ptr (.lit (.int .i64 bF)))) (.int .i64 m) = true := hm
      show (if m = x then some (⟨l, dur⟩ : AF) else s.files m) ≠ none
      by_cases e : m = x
      · rw [if_pos e]; simp
      · rw [has_put_other (by intro e'; simp at e'; exact e e')] at hm'
        rw [if_neg e]; exact h.conv m hm'
  · exact hg
  · intro b hb'
    show (if b = bF then some (.file x) else if (Value.slice a' l.length c').ownBlock = some b then some (.data x) else G.role b) = G.role b
    rw [if_neg (by omega), if_neg (fun e => by have := hrowge b e; omega)]

/-- The new one with names, durable names and changes of its own. -/
def Lie.copied (G' G : Lie) (m N2 D2 : Nat) (pv2 : Value) : Lie :=
  { G' with N := N2, D := D2, pv := pv2, role := fun b => if b = N2 then some .names else if b = D2 then some .durable else if pv2.ownBlock = some b then some .pend else if b < m then (if G.role b = some .cap then some .cap else none) else G'.role b }

theorem Rep.copied {w wr w' : World} {G G' : Lie} {s : AS} {N2 D2 : Nat} {pv2 : Value} (hG : Rep w G s) (h : Rep wr G' s) (hro : ∀ b, b < w.heap.size → G'.role b = keepR (G.role b)) (lw : w.heap.size ≤ wr.heap.size)
    (hN : wr.heap.size ≤ N2) (hD : wr.heap.size ≤ D2) (hND : N2 ≠ D2) (lN : N2 < w'.heap.size) (lD : D2 < w'.heap.size)
    (hF : w'.heap[G'.F]? = some (.cells (fsCells s (G'.copied G w.heap.size N2 D2 pv2)) 65 (0, 0))) (ho : ∀ b, b < wr.heap.size → b ≠ G'.F → w'.heap[b]? = wr.heap[b]?)
    (hFw : w.heap.size ≤ G'.F) (hMw : w.heap.size ≤ G'.M) (hfw : ∀ n f, s.files n = some f → w.heap.size ≤ G'.fb n ∧ ∀ g, (G'.dv n).ownBlock = some g → w.heap.size ≤ g)
    (tN : Tab w' N2 (Maps.size s.names) s.names) (tD : Tab w' D2 (Maps.size s.durable) s.durable) (hp : w'.ownsRow wr.heap.size 76 2 pv2 s.pending.length (chgCells s.pending G'.cl)) (hpN : pv2.ownBlock ≠ some N2) (hpD : pv2.ownBlock ≠ some D2) :
    Rep w' (G'.copied G w.heap.size N2 D2 pv2) s ∧ ∀ b, b < w.heap.size → (G'.copied G w.heap.size N2 D2 pv2).role b = none ∨ ((G'.copied G w.heap.size N2 D2 pv2).role b = some .cap ∧ G.role b = some .cap) := by
  have hpge : ∀ g, pv2.ownBlock = some g → wr.heap.size ≤ g ∧ g < w'.heap.size := by
    intro g hg
    rcases hp.2 with ⟨e, _⟩ | ⟨k, cap, cur, e, hge, hh, _⟩
    · rw [e] at hg; cases hg
    · rw [e] at hg
      have e2 : some k = some g := hg
      have : k = g := by simpa using e2
      rw [← this]; exact ⟨hge, (Array.getElem?_eq_some_iff.1 hh).1⟩
  have hroleDef : ∀ b, (G'.copied G w.heap.size N2 D2 pv2).role b = if b = N2 then some .names else if b = D2 then some .durable else if pv2.ownBlock = some b then some .pend else if b < w.heap.size then (if G.role b = some .cap then some .cap else none) else G'.role b := fun _ => rfl
  have hnew : ∀ b r, G'.role b = some r → w.heap.size ≤ b → (G'.copied G w.heap.size N2 D2 pv2).role b = some r := by
    intro b r hbr hw
    have hl := h.lt b (by rw [hbr]; simp)
    rw [hroleDef, if_neg (by omega), if_neg (by omega), if_neg (fun e => by have := hpge b e; omega), if_neg (by omega)]; exact hbr
  have hcap : ∀ b, G'.role b = some .cap → (G'.copied G w.heap.size N2 D2 pv2).role b = some .cap := by
    intro b hbr
    by_cases hw : b < w.heap.size
    · have hl := h.lt b (by rw [hbr]; simp)
      have h1 := hro b hw
      rw [hbr] at h1
      have h2 : G.role b = some .cap := by
        cases hq : G.role b with
        | none => rw [hq] at h1; simp [keepR] at h1
        | some r => cases r <;> rw [hq] at h1 <;> simp [keepR] at h1 <;> rfl
      rw [hroleDef, if_neg (by omega), if_neg (by omega), if_neg (fun e => by have := hpge b e; omega), if_pos hw, if_pos h2]
    · exact hnew b _ hbr (by omega)
  have hoF : ∀ b r, G'.role b = some r → r ≠ .fs → w'.heap[b]? = wr.heap[b]? := by
    intro b r hbr hne
    refine ho b (h.lt b (by rw [hbr]; simp)) (fun e => ?_)
    rw [e, h.rF] at hbr; exact hne (by simpa using hbr.symm)
  refine ⟨⟨hF, hnew _ _ h.rF hFw, hnew _ _ h.rM hMw, ?_, ?_, tN, tD, fmap_congr h.fm (hoF _ _ h.rM (by simp)), h.no0, row_base hp, ?_, chgsAt_congr (fun b hb => hoF b _ hb (by simp)) hcap h.chg, ?_, ?_, ?_, ?_, h.mM, h.conv⟩, ?_⟩
  · show (G'.copied G w.heap.size N2 D2 pv2).role N2 = some .names
    rw [hroleDef, if_pos rfl]
  · show (G'.copied G w.heap.size N2 D2 pv2).role D2 = some .durable
    rw [hroleDef, if_neg (Ne.symm hND), if_pos rfl]
  · intro g hg
    have hg' : pv2.ownBlock = some g := hg
    rw [hroleDef, if_neg (fun e => hpN (by rw [← e]; exact hg')), if_neg (fun e => hpD (by rw [← e]; exact hg')), if_pos hg']
  · intro n f hf
    have q := h.files n f hf
    obtain ⟨w1, w2⟩ := hfw n f hf
    exact ⟨q.map, hnew _ _ q.rb w1, (hoF _ _ q.rb (by simp)).trans q.block, row_congr q.row (fun g hg => hoF g _ (q.rd g hg) (by simp)), fun g hg => hnew g _ (q.rd g hg) (w2 g hg), q.le⟩
  · intro b hb
    rw [hroleDef] at hb
    split at hb
    · omega
    · split at hb
      · omega
      · split at hb
        · rename_i e; exact (hpge b e).2
        · split at hb
          · omega
          · have := h.lt b hb; omega
  · exact glob_of h.glob (ho 0 h.pos (fun e => by have := h.rF; rw [← e, h.r0] at this; cases this))
  · have := hG.pos
    show (G'.copied G w.heap.size N2 D2 pv2).role 0 = none
    rw [hroleDef, if_neg (by omega), if_neg (by omega), if_neg (fun e => by have := hpge 0 e; omega), if_pos this, hG.r0]; simp
  · intro b hb
    have h1 : (G'.copied G w.heap.size N2 D2 pv2).role b = if G.role b = some .cap then some .cap else none := by
      rw [hroleDef, if_neg (by omega), if_neg (by omega), if_neg (fun e => by have := hpge b e; omega), if_pos hb]
    rw [h1]
    split
    · rename_i e; exact Or.inr ⟨rfl, e⟩
    · exact Or.inl rfl

end Go.Proofs.YtbdbobikiikbgaaDoor
