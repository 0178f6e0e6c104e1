/-
  Add: the fault is laid, or one is there.
-/
import Derived.Test.YtmbcjdlpdibalaaAddB
namespace Go.Proofs.Ytmbcjdlpdibalaa
open Go.RowKit Go.WideMaps Go.Maps Go.MuLone

def addS (s : St) (u : ByteArray) (k : Int) (e : Eff) : St := { s with ft := fun v j => if v = u ∧ j = k then some e else s.ft v j, n := s.n + 1 }

abbrev fkey (u : ByteArray) (k : Int) : Lit := .string (keyBytes [.string u.data.toList, .int .i64 k])

theorem fkey_ne {u v : ByteArray} {k j : Int} (hu : u.size ≤ maxLen) (hk : (Lit.int .i64 k).wf = true) (hv : v.size ≤ maxLen) (hj : (Lit.int .i64 j).wf = true) (h : ¬ (v = u ∧ j = k)) : fkey v j ≠ fkey u k := by
  intro e
  have h1 := key87 hv hj
  have h2 := key87 hu hk
  rw [show (Lit.string (keyBytes [.string v.data.toList, .int .i64 j])) = fkey u k from e] at h1
  have h3 := law87.inj h1 h2
  simp at h3
  exact h h3

theorem Rep.below {w w' : World} {G : Gh} {s : St} (h : Rep w G s) (hb : Below w.heap.size w w') : Rep w' G s := by
  obtain ⟨o1, o2, o3, o4, o5, o6⟩ := h.ord
  have hC : ∀ k, G.lo ≤ k → k < G.hi → w'.heap[k]? = w.heap[k]? := fun k h1 h2 => hb.block k (by omega)
  obtain ⟨DP, oP, hP⟩ := h.pages
  obtain ⟨DT, oT, hT⟩ := h.faults
  obtain ⟨DA, oA, hA⟩ := h.asked
  have hs := hb.size
  exact ⟨(hb.block _ (by omega)).trans h.blk, ⟨DP, own_same oP (hb.block _ (by omega)), fun v hv => (hP v hv).keep hC⟩, ⟨DT, own_same oT (hb.block _ (by omega)), fun v k hv hk => (hT v k hv hk).keep hC⟩, ⟨DA, own_same oA (hb.block _ (by omega)), hA⟩, h.small, ⟨o1, o2, o3, o4, o5, by omega⟩, h.ne⟩

/-- Where a fault has been laid and the lock is held. -/
structure AddDone (G : Gh) (s : St) (u : ByteArray) (k : Int) (e : Eff) (w w3 : World) : Prop where
  own : ∃ D fv, w.ownsMap Try.prog 87 heldR G.T s.n D ∧ (∀ (v : ByteArray) (j : Int), v.size ≤ maxLen → (Lit.int .i64 j).wf = true → FaultAt G.lo G.hi w D v j (s.ft v j)) ∧ w3.ownsMap Try.prog 87 heldR G.T (s.n + 1) (D.put (fkey u k) (.held fv)) ∧ EffAt G.lo w3.heap.size w3 fv e
  size : w.heap.size ≤ w3.heap.size
  block : ∀ k, k < w.heap.size → k ≠ G.F → k ≠ G.T → w3.heap[k]? = w.heap[k]?
  os : w3.os = w.os ∧ w3.tape = w.tape ∧ w3.output = w.output

theorem add_end {G : Gh} {s : St} {u : ByteArray} {k : Int} {e : Eff} {w w3 w6 : World} (h : Rep w G s) (hu : u.size ≤ maxLen) (hk : (Lit.int .i64 k).wf = true) (b3 : w3.heap[G.F]? = some (.cells (netCells 1 G) 81 (0, 0))) (hd : AddDone G s u k e w w3) (hw6 : w6 = w3.setCell ⟨G.F, 0, none⟩ (.int .i32 0)) :
    Rep w6 { G with hi := w6.heap.size } (addS s u k e) ∧ Fr2 G.F G.T w w6 := by
  obtain ⟨o1, o2, o3, o4, o5, o6⟩ := h.ord
  obtain ⟨n1, n2, n3, n4, n5, n6⟩ := h.ne
  have blk6 : w6.heap[G.F]? = some (.cells (netCells 0 G) 81 (0, 0)) := by rw [hw6]; exact heap_set_at b3 _
  have k6 : ∀ k, k ≠ G.F → w6.heap[k]? = w3.heap[k]? := fun k hk => by rw [hw6]; exact Below.heap_setCell _ _ _ _ hk
  have s6 : w6.heap.size = w3.heap.size := by rw [hw6]; simp [World.setCell]
  have e6 : w6.os = w3.os ∧ w6.tape = w3.tape ∧ w6.output = w3.output := by rw [hw6]; exact ⟨rfl, rfl, rfl⟩
  have hsz := hd.size
  have hlow : ∀ k, k < w.heap.size → k ≠ G.F → k ≠ G.T → w6.heap[k]? = w.heap[k]? := fun k h1 h2 h3 => (k6 k h2).trans (hd.block k h1 h2 h3)
  have hC : ∀ k, G.lo ≤ k → k < G.hi → w6.heap[k]? = w.heap[k]? := fun k h1 h2 => hlow k (by omega) (by omega) (by omega)
  refine ⟨?_, ⟨e6.1.trans hd.os.1, e6.2.1.trans hd.os.2.1, e6.2.2.trans hd.os.2.2, by omega, hlow⟩⟩
  obtain ⟨D, fv, own0, hT, own, hE⟩ := hd.own
  obtain ⟨DP, oP, hP⟩ := h.pages
  obtain ⟨DA, oA, hA⟩ := h.asked
  refine ⟨blk6, ⟨DP, (own_same oP (hlow _ (by omega) (fun e => n4 e.symm) n2)).mono (by show s.n ≤ s.n + 1; omega), fun v hv => ?_⟩, ⟨_, own_same own (k6 G.T (fun e => n5 e.symm)), fun v j hv hj => ?_⟩, ⟨DA, (own_same oA (hlow _ (by omega) (fun e => n6 e.symm) (fun e => n3 e.symm))).mono (by show s.n ≤ s.n + 1; omega), hA⟩, fun v => Nat.le_trans (h.small v) (by show s.n ≤ s.n + 1; omega), ⟨o1, o2, o3, o4, by show G.lo ≤ w6.heap.size; omega, Nat.le_refl _⟩, h.ne⟩
  · have hp := (hP v hv).keep hC
    have e1 : (addS s u k e).pg v = s.pg v := rfl
    rw [e1]
    cases hr : s.pg v with
    | none => rw [hr] at hp; exact hp
    | some m => rw [hr] at hp; obtain ⟨h1, a', n', c', h2, h3, h4, h5⟩ := hp; exact ⟨h1, a', n', c', h2, h3, h4, fun ad ha => ⟨(h5 ad ha).1, by have := (h5 ad ha).2; show ad.block < w6.heap.size; omega⟩⟩
  · by_cases hvj : v = u ∧ j = k
    · obtain ⟨rfl, rfl⟩ := hvj
      have e1 : (addS s v j e).ft v j = some e := by simp [addS]
      rw [e1]
      have hkl := law87.key (key87 hv hj)
      refine ⟨fv, (hE.keep (fun q q1 q2 => k6 q (by omega))).wide (Nat.le_refl _) (by show w3.heap.size ≤ w6.heap.size; omega), has_put_same own0.isMap hkl _, fun z => atKey_put_same own0.isMap hkl _ z⟩
    · have e1 : (addS s u k e).ft v j = s.ft v j := by simp [addS, hvj]
      rw [e1]
      have hne := fkey_ne hu hk hv hj hvj
      have hf := (hT v j hv hj).keep hC
      cases hr : s.ft v j with
      | none =>
        rw [hr] at hf
        show Maps.has _ _ = false
        rw [has_put_other hne]
        exact hf
      | some e' =>
        rw [hr] at hf
        obtain ⟨fv', f1, f2, f3⟩ := hf
        exact ⟨fv', f1.wide (Nat.le_refl _) (by show G.hi ≤ w6.heap.size; omega), by rw [has_put_other hne]; exact f2, fun z => by rw [atKey_put_other hne]; exact f3 z⟩

theorem add_done {F P T A lo hi : Nat} {s : St} {u : ByteArray} {k : Int} {ef : Eff} {w w2 w5 w3 : World} {D : DataW Value} {fv : Value} (hTlo : T < lo) (own0 : w.ownsMap Try.prog 87 heldR T s.n D) (hT : ∀ (v : ByteArray) (j : Int), v.size ≤ maxLen → (Lit.int .i64 j).wf = true → FaultAt lo hi w D v j (s.ft v j)) (hlow : ∀ q, q < w.heap.size → q ≠ F → w2.heap[q]? = w.heap[q]?) (hs : w.heap.size ≤ w2.heap.size) (he : w2.os = w.os ∧ w2.tape = w.tape ∧ w2.output = w.output) (hb : Below w2.heap.size w2 w5) (hE : EffAt lo w5.heap.size w5 fv ef) (o3 : w3.ownsMap Try.prog 87 heldR T (s.n + 1) (D.put (fkey u k) (.held fv))) (t3 : w5.mapTurned w3 T) :
    AddDone ⟨F, P, T, A, lo, hi⟩ s u k ef w w3 := by
  have g3 := t3.grown
  have s2 := hb.size
  have s3 := turned_size t3
  refine ⟨⟨D, fv, own0, hT, o3, (hE.keep fun q h1 h2 => g3.block q h2 (by simp; omega)).wide (Nat.le_refl _) (by omega)⟩, by omega, fun q h1 h2 h3 => (g3.block q (by omega) (by simpa using h3)).trans ((hb.block q (by omega)).trans (hlow q h1 h2)), g3.os.trans (hb.os.trans he.1), g3.tape.trans (hb.tape.trans he.2.1), g3.output.trans (hb.output.trans he.2.2)⟩

/-- What holds while a fault is laid. -/
abbrev HeldT (F T K : Nat) (u : ByteArray) (k : Int) (W wq : World) : Prop := wq.cell? ⟨F, 3, none⟩ = some (.map (some T)) ∧ wq.cell? ⟨K, 0, none⟩ = some (.string u) ∧ wq.cell? ⟨K, 1, none⟩ = some (.int .i64 k) ∧ Below W.heap.size W wq

theorem heldT_drew {F T K : Nat} {u : ByteArray} {k : Int} {W wq : World} (h : HeldT F T K u k W wq) : HeldT F T K u k W wq.drew := ⟨h.1, h.2.1, h.2.2.1, h.2.2.2.drew⟩

theorem heldT_drewN {F T K : Nat} {u : ByteArray} {k : Int} {W wq : World} (h : HeldT F T K u k W wq) (n : Nat) : HeldT F T K u k W (wq.drewN n) := ⟨h.1, h.2.1, h.2.2.1, ⟨h.2.2.2.os, h.2.2.2.tape, h.2.2.2.output, h.2.2.2.size, h.2.2.2.block⟩⟩

theorem of_held {F T K N B lo m n c : Nat} {W wq : World} {D : DataW Value} {u : ByteArray} {k kd : Int} {any : Bool} {i : Nat} {cap : Array Value} {ef : Eff} {a : Option Addr} {l : List UInt8} (hF : F < W.heap.size) (hK : K < W.heap.size) (hko : kindOf B kd = some (any, i, cap)) (hef : effOf kd m l = some ef) (hl : Bytes W a n l) (hnl : n ≤ 1099511627776) (hm : m ≤ 9223372036854775807) (hlo : lo ≤ B) (hB : B + 3 < W.heap.size) (hc : W.cell? ⟨B + 1, 0, none⟩ = some (.int .i64 0) ∧ W.cell? ⟨B + 2, 0, none⟩ = some (.int .i64 404) ∧ W.cell? ⟨B + 3, 0, none⟩ = some (.int .i64 503)) (hown : W.ownsMap Try.prog 87 heldR T N D) (hN : N < maxLen) (hu : u.size ≤ maxLen) (hkw : (Lit.int .i64 k).wf = true) (hS : HeldT F T K u k W wq) :
    Calls Try.prog 41 #[.agg #[.bool any, .func (.func i) #[] cap], .agg #[.string u, .int .i64 k, .int .i64 kd, .int .i64 (m : Int), .slice a n c]] wq fun e w' => ∃ fv, e = .returned fv ∧ HeldT F T K u k W w' ∧ Hid (EffAt lo w'.heap.size w' fv ef) ∧
      ∃ w3, (Instr.mapUpdate 71 (.map (some T)) (.agg #[.string u, .int .i64 k]) fv).run Try.prog w' = .ok () w3 ∧ w3.ownsMap Try.prog 87 heldR T (N + 1) (D.put (fkey u k) (.held fv)) ∧ w'.mapTurned w3 T := by
  obtain ⟨h1, h2, h3, h4⟩ := hS
  have hT := hown.lt
  have hw := h4.size
  refine (of_any (lo := lo) hko hef (bytes_below hl h4) hnl hm hlo (by omega) ⟨(h4.cell (p := ⟨B + 1, 0, none⟩) (by show B + 1 < _; omega)).trans hc.1, (h4.cell (p := ⟨B + 2, 0, none⟩) (by show B + 2 < _; omega)).trans hc.2.1, (h4.cell (p := ⟨B + 3, 0, none⟩) (by show B + 3 < _; omega)).trans hc.2.2⟩).mono ?_
  rintro e w' ⟨fv, rfl, hE, hb⟩
  have hb' := below_trans h4 hb
  have own' : w'.ownsMap Try.prog 87 heldR T N D := own_same hown (hb'.block T hT)
  obtain ⟨w3, r, o3, t3⟩ := own'.store law87 Try.underlying71 hN (key87 hu hkw) (val := fv) rfl
  exact ⟨fv, rfl, ⟨(hb.cell (p := ⟨F, 3, none⟩) (Nat.lt_of_lt_of_le hF hw)).trans h1, (hb.cell (p := ⟨K, 0, none⟩) (Nat.lt_of_lt_of_le hK hw)).trans h2, (hb.cell (p := ⟨K, 1, none⟩) (Nat.lt_of_lt_of_le hK hw)).trans h3, hb'⟩, hide hE, w3, r, o3, t3⟩

end Go.Proofs.Ytmbcjdlpdibalaa
