/-
  Slices of bytes that came in; bytes.Clone; a new file in the map of files; new captured cells.
-/
import Derived.Test.YtbdbobikiikbgaaDoorAlterD
namespace Go.Proofs.YtbdbobikiikbgaaDoor
open Go.RowKit Go.WideMaps Go.Maps

/-- The slice at a, of n bytes, holds l. -/
structure Bytes (w : World) (a : Option Addr) (n : Nat) (l : List UInt8) : Prop where
  len : n = l.length
  nil : a = none → n = 0
  cell : ∀ ad, a = some ad → ∀ i, i < n → w.cell? (ad.add i) = some (.int .u8 ((l.getD i 0).toNat : Int))

theorem bytesV_eq (l : List UInt8) : (l.map fun c => (c.toNat : Int)).map (Value.int .u8) = bytesV l := by simp [bytesV]

theorem clone_any {w : World} {a : Option Addr} {n : Nat} {l : List UInt8} (c : Nat) (h : Bytes w a n l) (hbig : n ≤ 140737488355328) :
    Calls Tryd.prog 41 #[.slice a n c] w fun e w' => ∃ a' c', e = .returned (.slice a' n c') ∧ w'.ownsRow w.heap.size 5 1 (.slice a' n c') n (bytesV l) ∧ Below w.heap.size w w' := by
  cases a with
  | none =>
    have h0 := h.nil rfl
    subst h0
    have hl : l = [] := List.length_eq_zero_iff.1 h.len.symm
    refine (Tryd.bytes_Clone_nil 0 c w).mono ?_
    rintro e w' ⟨rfl, rfl⟩
    exact ⟨none, 0, rfl, by rw [hl]; exact World.ownsRow_nil _ _ _ _, Below.refl _ _⟩
  | some ad =>
    refine (Tryd.bytes_Clone_at ad n c (l.map fun c => (c.toNat : Int)) w (by simp [h.len]) hbig ?_).mono ?_
    · intro i hi
      rw [h.cell ad rfl i hi]
      have : i < l.length := by have := h.len; omega
      simp [List.getD, this]
    · rintro e w' ⟨v', rfl, h1, _, h3⟩
      rw [bytesV_eq] at h1
      obtain ⟨a', c', rfl⟩ := row_form h1
      exact ⟨a', c', rfl, h1, h3⟩

theorem bytes_below {w w' : World} {a : Option Addr} {n : Nat} {l : List UInt8} (h : Bytes w a n l) (hb : Below w.heap.size w w') : Bytes w' a n l :=
  ⟨h.len, h.nil, fun ad ha i hi => (hb.cell (by exact lt_of_cell (h.cell ad ha i hi))).trans (h.cell ad ha i hi)⟩

/-- New captured cells. -/
def Lie.capped (G : Lie) (b1 b2 : Nat) : Lie := { G with role := fun b => if b = b1 ∨ b = b2 then some .cap else G.role b }

theorem Rep.capped {w w' : World} {G : Lie} {s : AS} (h : Rep w G s) (hb : Below w.heap.size w w') (b1 b2 : Nat) (h1 : w.heap.size ≤ b1) (h2 : w.heap.size ≤ b2) (l1 : b1 < w'.heap.size) (l2 : b2 < w'.heap.size) : Rep w' (G.capped b1 b2) s := by
  have hr : ∀ b r, G.role b = some r → (G.capped b1 b2).role b = some r := by
    intro b r hbr
    have := h.lt b (by rw [hbr]; simp)
    show (if b = b1 ∨ b = b2 then some .cap else G.role b) = some r
    rw [if_neg (by omega)]; exact hbr
  have k := h.below hb
  refine ⟨k.fsb, hr _ _ k.rF, hr _ _ k.rM, hr _ _ k.rN, hr _ _ k.rD, k.tN, k.tD, k.fm, k.no0, k.pend, fun g hg => hr g _ (k.rP g hg), chgsAt_congr (fun _ _ => rfl) (fun b hb => hr b _ hb) k.chg, ?_, ?_, k.glob, ?_, k.mM, k.conv⟩
  · intro n f hf
    have q := k.files n f hf
    exact ⟨q.map, hr _ _ q.rb, q.block, q.row, fun g hg => hr g _ (q.rd g hg), q.le⟩
  · intro b hb'
    by_cases e : b = b1 ∨ b = b2
    · rcases e with e | e <;> omega
    · exact k.lt b (by simpa [Lie.capped, e] using hb')
  · have := h.pos
    show (if 0 = b1 ∨ 0 = b2 then some .cap else G.role 0) = none
    rw [if_neg (by omega)]; exact h.r0

/-- A new file. -/
def Lie.filed (G : Lie) (x : Int) (b : Nat) (v : Value) : Lie :=
  { G with DM := G.DM.put (.int .i64 x) (.ptr (.lit (.int .i64 b))), fb := fun n => if n = x then b else G.fb n, dv := fun n => if n = x then v else G.dv n,
           role := fun k => if k = b then some (.file x) else if v.ownBlock = some k then some (.data x) else G.role k }

theorem row_base {w : World} {base e size n : Nat} {v : Value} {xs : List Value} (h : w.ownsRow base e size v n xs) : w.ownsRow 0 e size v n xs := by
  refine ⟨h.1, h.2.imp id ?_⟩
  rintro ⟨g, cap, cur, h1, _, h2⟩
  exact ⟨g, cap, cur, h1, Nat.zero_le _, h2⟩
theorem keyInt (x : Int) : WideAt.IsKeyLit (.int .i64 x) := by simp [WideAt.IsKeyLit]

theorem Rep.filed {w w4 : World} {G : Lie} {s : AS} {a' : Option Addr} {c' : Nat} {l : List UInt8} (h : Rep w G s) (hbl : Below w.heap.size w w4) (hrow : w4.ownsRow w.heap.size 5 1 (.slice a' l.length c') l.length (bytesV l))
    (x : Int) (hx : (Lit.int .i64 x).wf = true) (hx0 : x ≠ 0) (hM : (Maps.size G.DM : Int) + 1 ≤ s.newest) (hM2 : s.newest ≤ 1099511627776) :
    ∃ w5, (Instr.mapUpdate 60 (.map (some G.M)) (.int .i64 x) (.pointer (some ⟨w4.heap.size, 0, none⟩))).run Tryd.prog (w4.alloc (.cells #[.slice a' l.length c', .int .i64 0] 69)) = .ok () w5 ∧
      Rep w5 (G.filed x w4.heap.size (.slice a' l.length c')) { s with files := fun n => if n = x then some ⟨l, 0⟩ else s.files n } ∧ Fr G.role w w5 ∧
      ∀ b, b < w.heap.size → (G.filed x w4.heap.size (.slice a' l.length c')).role b = G.role b := by
  obtain ⟨W, hW⟩ : ∃ W, W = w4.alloc (.cells #[.slice a' l.length c', .int .i64 0] 69) := ⟨_, rfl⟩
  have hbW : Below w.heap.size w W := by rw [hW]; exact hbl.alloc hbl.size _
  have hb4 : Below w4.heap.size w4 W := by rw [hW]; exact (Below.refl _ _).alloc (Nat.le_refl _) _
  have hblk : W.heap[w4.heap.size]? = some (.cells #[.slice a' l.length c', .int .i64 0] 69 (0, 0)) := by rw [hW]; exact heap_alloc_new w4 _
  have hWs : W.heap.size = w4.heap.size + 1 := by rw [hW]; exact alloc_size _ _
  have hk := h.below hbW
  rw [← hW]
  obtain ⟨w5, hrun, hT, ht⟩ := World.ownsMap.store hk.fm lawI Tryd.underlying60 (by unfold maxLen; omega) (keyOf_int_mk Tryd.underlying3 hx) (val := .pointer (some ⟨w4.heap.size, 0, none⟩)) (d := .ptr (.lit (.int .i64 w4.heap.size))) (ps := []) rfl
  have hg := ht.grown
  have hrowge : ∀ k, (Value.slice a' l.length c').ownBlock = some k → w.heap.size ≤ k ∧ k < w4.heap.size := by
    intro k hk'
    rcases hrow.2 with ⟨e, _⟩ | ⟨g, cap, cur, e, hge, hh, _⟩
    · rw [e] at hk'; cases hk'
    · rw [e] at hk'
      have : g = k := by have e2 : some g = some k := hk'; simpa using e2
      rw [← this]; exact ⟨hge, (Array.getElem?_eq_some_iff.1 hh).1⟩
  have hr : ∀ b r, G.role b = some r → (G.filed x w4.heap.size (.slice a' l.length c')).role b = some r := by
    intro b r hbr
    have hlt := h.lt b (by rw [hbr]; simp)
    have := hbl.size
    show (if b = w4.heap.size then some (.file x) else if (Value.slice a' l.length c').ownBlock = some b then some (.data x) else G.role b) = some r
    rw [if_neg (by omega), if_neg (fun e => by have := hrowge b e; omega)]; exact hbr
  have ho : ∀ b, b < W.heap.size → b ≠ G.M → w5.heap[b]? = W.heap[b]? := fun b hb hne => hg.block b hb (fun e => hne (by simpa using e))
  have hoR : ∀ b r, G.role b = some r → r ≠ .files → w5.heap[b]? = w.heap[b]? := by
    intro b r hbr hne
    have hlt := h.lt b (by rw [hbr]; simp)
    refine (ho b (by have := hbW.size; omega) (fun e => ?_)).trans (hbW.block b hlt)
    rw [e, h.rM] at hbr; exact hne (by simpa using hbr.symm)
  have hMlt : G.M < w.heap.size := h.lt _ (by rw [h.rM]; simp)
  have hs4 := hbl.size
  refine ⟨w5, hrun, ?_, ?_, ?_⟩
  · refine ⟨(hoR _ _ h.rF (by simp)).trans h.fsb, hr _ _ h.rF, hr _ _ h.rM, hr _ _ h.rN, hr _ _ h.rD, tab_congr h.tN (hoR _ _ h.rN (by simp)), tab_congr h.tD (hoR _ _ h.rD (by simp)), fmap_size hT, ?_,
      row_congr h.pend (fun g hg => hoR g _ (h.rP g hg) (by simp)), fun g hg => hr g _ (h.rP g hg), chgsAt_congr (fun b hb => hoR b _ hb (by simp)) (fun b hb => hr b _ hb) h.chg, ?_, ?_, ?_, ?_, ?_, ?_⟩
    · show (G.DM.put (.int .i64 x) _).atKey (.int .i64 0) .nil = .nil
      rw [atKey_put_other (by intro e; simp at e; exact hx0 e.symm)]; exact h.no0
    · intro n f hf
      by_cases e : n = x
      · subst e
        simp only [if_true] at hf
        obtain rfl : (⟨l, 0⟩ : AF) = f := by simpa using hf
        refine ⟨?_, ?_, ?_, ?_, ?_, Nat.zero_le _⟩
        · show (G.DM.put (.int .i64 n) (.ptr (.lit (.int .i64 w4.heap.size)))).atKey (.int .i64 n) .nil = .ptr (.lit (.int .i64 ((if n = n then w4.heap.size else G.fb n : Nat) : Int)))
          rw [atKey_put_same (World.ownsMap.isMap h.fm) (keyInt n), if_pos rfl]
        · show (if (if n = n then w4.heap.size else G.fb n) = w4.heap.size then some (Role.file n) else _) = some (.file n)
          simp
        · show w5.heap[if n = n then w4.heap.size else G.fb n]? = some (.cells #[if n = n then .slice a' l.length c' else G.dv n, .int .i64 (0 : Nat)] 69 (0, 0))
          simp only [if_true]
          rw [ho w4.heap.size (by omega) (by omega)]; exact hblk
        · show w5.ownsRow 0 5 1 (if n = n then .slice a' l.length c' else G.dv n) l.length (bytesV l)
          simp only [if_true]
          refine row_base (row_congr hrow (fun g hg' => ?_))
          have := hrowge g hg'
          exact (ho g (by omega) (by omega)).trans (hb4.block g (by omega))
        · intro g hg'
          have hg2 : (Value.slice a' l.length c').ownBlock = some g := by simpa [Lie.filed] using hg'
          have := hrowge g hg2
          show (if g = w4.heap.size then some (.file n) else if (Value.slice a' l.length c').ownBlock = some g then some (.data n) else G.role g) = some (.data n)
          rw [if_neg (by omega), if_pos hg2]
      · simp only [if_neg e] at hf
        have q := h.files n f hf
        refine ⟨?_, ?_, ?_, ?_, ?_, q.le⟩
        · show (G.DM.put (.int .i64 x) _).atKey (.int .i64 n) .nil = .ptr (.lit (.int .i64 ((if n = x then w4.heap.size else G.fb n : Nat) : Int)))
          rw [atKey_put_other (by intro e'; simp at e'; exact e e'), if_neg e]; exact q.map
        · show (G.filed x w4.heap.size (.slice a' l.length c')).role (if n = x then w4.heap.size else G.fb n) = some (.file n)
          rw [if_neg e]; exact hr _ _ q.rb
        · show w5.heap[if n = x then w4.heap.size else G.fb n]? = some (.cells #[if n = x then .slice a' l.length c' else G.dv n, .int .i64 f.dur] 69 (0, 0))
          rw [if_neg e, if_neg e]; exact (hoR _ _ q.rb (by simp)).trans q.block
        · show w5.ownsRow 0 5 1 (if n = x then .slice a' l.length c' else G.dv n) f.data.length (bytesV f.data)
          rw [if_neg e]; exact row_congr q.row (fun g hg => hoR g _ (q.rd g hg) (by simp))
        · intro g hg'
          have hg2 : (G.dv n).ownBlock = some g := by simpa [Lie.filed, e] using hg'
          exact hr g _ (q.rd g hg2)
    · intro b hb'
      have h5 := hg.size
      by_cases e : b = w4.heap.size
      · omega
      · by_cases e2 : (Value.slice a' l.length c').ownBlock = some b
        · have := hrowge b e2; omega
        · have : G.role b ≠ none := by simpa [Lie.filed, e, e2] using hb'
          have := h.lt b this; omega
    · refine glob_of h.glob ((ho 0 (by omega) (fun e => ?_)).trans (hbW.block 0 h.pos))
      have := h.rM; rw [← e, h.r0] at this; cases this
    · have := h.pos
      show (if 0 = w4.heap.size then some (.file x) else if (Value.slice a' l.length c').ownBlock = some 0 then some (.data x) else G.role 0) = none
      rw [if_neg (by omega), if_neg (fun e => by have := hrowge 0 e; omega)]; exact h.r0
    · show (Maps.size (G.DM.put (.int .i64 x) _) : Int) ≤ s.newest
      rw [size_put (World.ownsMap.tidy h.fm lawI)]
      split <;> omega
    · intro m hm
      have hm' : Maps.has (G.DM.put (.int .i64 x) (.ptr (.lit (.int .i64 w4.heap.size)))) (.int .i64 m) = true := hm
      show (if m = x then some (⟨l, 0⟩ : AF) else s.files m) ≠ none
      by_cases e : m = x
      · rw [if_pos e]; simp
      · rw [has_put_other (by intro e'; simp at e'; exact e e')] at hm'
        rw [if_neg e]; exact h.conv m hm'
  · refine ⟨hg.os.trans hbW.os, hg.tape.trans hbW.tape, hg.output.trans hbW.output, Nat.le_trans hbW.size hg.size, fun k hk hrk => ?_⟩
    refine (ho k (by omega) (fun e => ?_)).trans (hbW.block k hk)
    rw [e, h.rM] at hrk; simp at hrk
  · intro b hb'
    show (if b = w4.heap.size then some (.file x) else if (Value.slice a' l.length c').ownBlock = some b then some (.data x) else G.role b) = G.role b
    rw [if_neg (by omega), if_neg (fun e => by have := hrowge b e; omega)]

end Go.Proofs.YtbdbobikiikbgaaDoor
