/-
  A network as a whole; Get.
-/
import Derived.Test.YtmbcjdlpdibalaaKey
import Derived.Defers
namespace Go.Proofs.Ytmbcjdlpdibalaa
open Go.RowKit Go.WideMaps Go.Maps Go.MuLone

/-- Where a network lies. -/
structure Gh where
  F : Nat
  P : Nat
  T : Nat
  A : Nat
  lo : Nat
  hi : Nat

/-- What a network says. -/
structure St where
  pg : ByteArray → Option (List UInt8)
  ft : ByteArray → Int → Option Eff
  aq : ByteArray → Nat
  n : Nat

def FaultAt (lo hi : Nat) (w : World) (D : DataW Value) (u : ByteArray) (k : Int) : Option Eff → Prop
  | none => Maps.has D (.string (keyBytes [.string u.data.toList, .int .i64 k])) = false
  | some e => ∃ fv, EffAt lo hi w fv e ∧ Maps.has D (.string (keyBytes [.string u.data.toList, .int .i64 k])) = true ∧ ∀ z, D.atKey (.string (keyBytes [.string u.data.toList, .int .i64 k])) z = .held fv

theorem FaultAt.keep {lo hi : Nat} {w w' : World} {D : DataW Value} {u : ByteArray} {k : Int} {r : Option Eff} (h : FaultAt lo hi w D u k r) (hs : ∀ k, lo ≤ k → k < hi → w'.heap[k]? = w.heap[k]?) : FaultAt lo hi w' D u k r := by
  cases r with
  | none => exact h
  | some e => obtain ⟨fv, h1, h2⟩ := h; exact ⟨fv, h1.keep hs, h2⟩

abbrev netCells (l : Int) (G : Gh) : Array Value := #[.int .i32 l, .int .u32 0, .map (some G.P), .map (some G.T), .map (some G.A)]

structure Rep (w : World) (G : Gh) (s : St) : Prop where
  blk : w.heap[G.F]? = some (.cells (netCells 0 G) 81 (0, 0))
  pages : ∃ D, w.ownsMap Try.prog 9 heldR G.P s.n D ∧ ∀ u : ByteArray, u.size ≤ maxLen → PageAt G.lo G.hi w D u (s.pg u)
  faults : ∃ D, w.ownsMap Try.prog 87 heldR G.T s.n D ∧ ∀ (u : ByteArray) (k : Int), u.size ≤ maxLen → (Lit.int .i64 k).wf = true → FaultAt G.lo G.hi w D u k (s.ft u k)
  asked : ∃ D, w.ownsMap Try.prog 9 heldR G.A s.n D ∧ ∀ u : ByteArray, u.size ≤ maxLen → D.atKey (.string u.data.toList) (.held (.int .i64 0)) = .held (.int .i64 (s.aq u : Int))
  small : ∀ u, s.aq u ≤ s.n
  ord : G.F < G.lo ∧ G.P < G.lo ∧ G.T < G.lo ∧ G.A < G.lo ∧ G.lo ≤ G.hi ∧ G.hi ≤ w.heap.size
  ne : G.P ≠ G.A ∧ G.P ≠ G.T ∧ G.T ≠ G.A ∧ G.F ≠ G.P ∧ G.F ≠ G.T ∧ G.F ≠ G.A

/-- All but the network's own block and its counts is as it was. -/
structure Fr (G : Gh) (w w' : World) : Prop where
  os : w'.os = w.os
  tape : w'.tape = w.tape
  output : w'.output = w.output
  size : w.heap.size ≤ w'.heap.size
  block : ∀ k, k < w.heap.size → k ≠ G.F → k ≠ G.A → w'.heap[k]? = w.heap[k]?

theorem look_int {w : World} {A n : Nat} {D : DataW Value} {u : ByteArray} {c : Int} (h : w.ownsMap Try.prog 9 heldR A n D) (hu : u.size ≤ maxLen) (hat : D.atKey (.string u.data.toList) (.held (.int .i64 0)) = .held (.int .i64 c)) :
    (Instr.lookup 72 (.map (some A)) (.string u) false).run Try.prog w = .ok (.int .i64 c) w := by
  obtain ⟨v, ps, h1, h2⟩ := h.lookup lawS Try.underlying72 (zero3 w) (zd := .held (.int .i64 0)) (zp := []) rfl (keyS hu)
  have h3 := held_inv h2
  rw [hat] at h3
  cases h3
  exact h1

theorem look_fault {w : World} {T n : Nat} {D : DataW Value} {u : ByteArray} {k : Int} (h : w.ownsMap Try.prog 87 heldR T n D) (hu : u.size ≤ maxLen) (hk : (Lit.int .i64 k).wf = true) {fv : Value} {b : Bool} (hb : Maps.has D (.string (keyBytes [.string u.data.toList, .int .i64 k])) = b)
    (hat : D.atKey (.string (keyBytes [.string u.data.toList, .int .i64 k])) (.held .nilFunc) = .held fv) :
    (Instr.lookup 71 (.map (some T)) (.agg #[.string u, .int .i64 k]) true).run Try.prog w = .ok (.tuple #[fv, .bool b]) w := by
  obtain ⟨v, ps, h1, h2⟩ := h.look_ok law87 Try.underlying71 (zero84 w) (zd := .held .nilFunc) (zp := []) rfl (key87 hu hk)
  have h3 := held_inv h2
  rw [hat] at h3
  cases h3
  rw [hb] at h1
  exact h1

/-- What a request gets. -/
def getR (s : St) (u : ByteArray) : Ans :=
  match s.ft u ((s.aq u : Int) + 1) with
  | none => honestR (s.pg u)
  | some e => befall e (honestR (s.pg u))
/-- What the network says behind it. -/
def getS (s : St) (u : ByteArray) : St := { s with aq := fun v => if v = u then s.aq u + 1 else s.aq v, n := s.n + 1 }

theorem wf_of {n : Nat} (h : n ≤ 1000001) : (Lit.int .i64 (n : Int)).wf = true := by
  simp [Lit.wf, IntKind.min, IntKind.max, IntKind.signed, IntKind.bits]
  omega

theorem own_same {w w' : World} {k : TypeId} {b n : Nat} {D : DataW Value} (h : w.ownsMap Try.prog k heldR b n D) (hs : w'.heap[b]? = w.heap[b]?) : w'.ownsMap Try.prog k heldR b n D := by
  obtain ⟨es, clock, hb, r⟩ := h
  exact ⟨es, clock, hs.trans hb, r⟩

theorem str_inj {u v : ByteArray} (h : u.data.toList = v.data.toList) : u = v := by
  cases u; cases v
  simp at h
  rw [h]

theorem rep_get {w w' : World} {G : Gh} {s : St} {u : ByteArray} {D : DataW Value} (h : Rep w G s) (hu : u.size ≤ maxLen) (hA : w.ownsMap Try.prog 9 heldR G.A s.n D) (hD : ∀ v : ByteArray, v.size ≤ maxLen → D.atKey (.string v.data.toList) (.held (.int .i64 0)) = .held (.int .i64 (s.aq v : Int)))
    (hF6 : w'.heap[G.F]? = some (.cells (netCells 0 G) 81 (0, 0))) (hA6 : w'.ownsMap Try.prog 9 heldR G.A (s.n + 1) (D.put (.string u.data.toList) (.held (.int .i64 ((s.aq u : Int) + 1)))))
    (hK : ∀ k, k < w.heap.size → k ≠ G.F → k ≠ G.A → w'.heap[k]? = w.heap[k]?) (hs : w.heap.size ≤ w'.heap.size) : Rep w' G (getS s u) := by
  obtain ⟨o1, o2, o3, o4, o5, o6⟩ := h.ord
  obtain ⟨n1, n2, n3, n4, n5, n6⟩ := h.ne
  have hC : ∀ k, G.lo ≤ k → k < G.hi → w'.heap[k]? = w.heap[k]? := fun k k1 k2 => hK k (by omega) (by omega) (by omega)
  obtain ⟨DP, oP, hP⟩ := h.pages
  obtain ⟨DT, oT, hT⟩ := h.faults
  refine ⟨hF6, ⟨DP, (own_same oP (hK _ (by omega) n4.symm n1)).mono (by show s.n ≤ s.n + 1; omega), fun v hv => (hP v hv).keep hC⟩, ⟨DT, (own_same oT (hK _ (by omega) n5.symm n3)).mono (by show s.n ≤ s.n + 1; omega), fun v k hv hk => (hT v k hv hk).keep hC⟩, ⟨_, hA6, fun v hv => ?_⟩, fun v => ?_, ⟨o1, o2, o3, o4, o5, by omega⟩, h.ne⟩
  · by_cases e : v = u
    · subst e
      rw [atKey_put_same hA.isMap (lawS.key (keyS hv))]
      simp [getS]
    · rw [atKey_put_other (fun e2 => e (str_inj (by simpa using e2))), hD v hv]
      simp [getS, e]
  · have h1 := h.small v
    have h2 := h.small u
    simp only [getS]
    split <;> omega

set_option maxHeartbeats 2000000 in
set_option maxRecDepth 100000 in
theorem get_none {w : World} {G : Gh} {s : St} {u : ByteArray} (h : Rep w G s) (hn : s.n ≤ 1000000) (hu : u.size ≤ maxLen) (hft : s.ft u ((s.aq u : Int) + 1) = none) :
    Calls Try.prog 10 #[.pointer (some ⟨G.F, 0, none⟩), .string u] w fun e w' => ∃ v, e = .returned v ∧ AnsAt w.heap.size w' v (getR s u) ∧ Rep w' G (getS s u) ∧ Fr G w w' := by
  obtain ⟨x, hx⟩ : ∃ x, honestR (s.pg u) = x := ⟨_, rfl⟩
  have HX : Hid (getR s u = x) := by show getR s u = x; unfold getR; rw [hft, hx]
  obtain ⟨F, P, T, A, lo, hi⟩ := G
  obtain ⟨DP, oP, hP⟩ := h.pages
  obtain ⟨DT, oT, hT⟩ := h.faults
  obtain ⟨DA, oA, hA⟩ := h.asked
  have hsm := h.small u
  obtain ⟨o1, o2, o3, o4, o5, o6⟩ := h.ord
  obtain ⟨n1, n2, n3, n4, n5, n6⟩ := h.ne
  simp only at o1 o2 o3 o4 o5 o6 n1 n2 n3 n4 n5 n6 oP oT oA
  have hblk : w.heap[F]? = some (.cells (netCells 0 ⟨F, P, T, A, lo, hi⟩) 81 (0, 0)) := h.blk
  have hF : F < w.heap.size := by omega
  have b0 : Below w.heap.size w (w.alloc zero34) := (Below.refl _ _).alloc (Nat.le_refl _) _
  have s0 : (w.alloc zero34).heap.size = w.heap.size + 1 := by show (w.heap.push _).size = _; simp
  have blk0 : (w.alloc zero34).heap[F]? = some (.cells (netCells 0 ⟨F, P, T, A, lo, hi⟩) 81 (0, 0)) := (b0.block F hF).trans hblk
  have c0 : (w.alloc zero34).cell? ⟨F, 0, none⟩ = some (.int .i32 0) := Lib.cell_of_heap blk0 0
  have f0 : (w.alloc zero34).frozen? ⟨F, 0, none⟩ = false := Lib.frozen_of_heap blk0 0
  obtain ⟨w1, hw1⟩ : ∃ w1, (w.alloc zero34).setCell ⟨F, 0, none⟩ (.int .i32 1) = w1 := ⟨_, rfl⟩
  have blk1 : w1.heap[F]? = some (.cells (netCells 1 ⟨F, P, T, A, lo, hi⟩) 81 (0, 0)) := by rw [← hw1]; exact heap_set_at blk0 _
  have s1 : w1.heap.size = w.heap.size + 1 := by rw [← hw1, ← s0]; simp [World.setCell]
  have k1 : ∀ k, k ≠ F → w1.heap[k]? = (w.alloc zero34).heap[k]? := fun k hk => by rw [← hw1]; exact Below.heap_setCell _ _ _ _ hk
  have e1 : w1.os = w.os ∧ w1.tape = w.tape ∧ w1.output = w.output := by rw [← hw1]; exact ⟨rfl, rfl, rfl⟩
  have oA1 : w1.ownsMap Try.prog 9 heldR A s.n DA := by rw [← hw1]; exact (oA.alloc _).setCell (a := ⟨F, 0, none⟩) n6.symm _
  have c4 : w1.cell? ⟨F, 4, none⟩ = some (.map (some A)) := Lib.cell_of_heap blk1 4
  have l1 := look_int oA1 hu (hA u hu)
  have hkey := keyS hu
  have HO := hide oA1
  have HW1 := hide hw1
  obtain ⟨q, hq⟩ : ∃ q, s.aq u = q := ⟨_, rfl⟩
  have HQ := hide hq
  rw [hq] at l1 hsm hft
  have hq1 : q ≤ 1000000 := by omega
  have hwq : (Lit.int .i64 ((q : Int) + 1)).wf = true := wf_of (n := q + 1) (by omega)
  have HH := hide h
  have HHA := hide hA
  have HOA := hide oA
  have hPu := hP u hu
  have hTu := hT u ((q : Int) + 1) hu hwq
  rw [hft] at hTu
  have HP := hide hPu
  have HT := hide hTu
  have HOP := hide oP
  have HOT := hide oT
  have HK1 := hide k1
  have HE1 := hide e1
  have HFT := hide hft
  have HXX := hide hx
  clear hx h hw1 oA1 hA hP hT hPu hTu oP oT oA k1 e1 hblk blk0 hq hft
  go_enter_defers Try.func10, Try.ntmps10
  go_wp2_with (go_at_call 30; fail)
  refine (lock_free Try.muLib ⟨F, 0, none⟩ _ c0 f0).mono ?_
  rintro e w' ⟨rfl, hw⟩
  rw [hw, unhide HW1]; clear hw w' c0 f0
  go_wp2_with (first
    | (at_mapUpdate; refine wpList_mapUpdate_in _ rfl _ _ _ 72 rfl 9 3 lawS Try.underlying72 heldR A s.n DA rfl (unhide HO) (by unfold maxLen; omega) _ _ _ rfl rfl hkey _ [] rfl ?_; intro w2 hown2 hturn2)
    | (go_at_call 32; fail))
  have g2 := hturn2.grown
  have s2 : w2.heap.size = w.heap.size + 1 := (turned_size hturn2).trans s1
  have blk2 : w2.heap[F]? = some (.cells (netCells 1 ⟨F, P, T, A, lo, hi⟩) 81 (0, 0)) := (g2.block F (by omega) (by simpa using n6)).trans blk1
  have k2 : ∀ k, k < w.heap.size → k ≠ F → k ≠ A → w2.heap[k]? = w.heap[k]? := fun k h1 h2 h3 => (g2.block k (by omega) (by simpa using h3)).trans (((unhide HK1) k h2).trans (b0.block k h1))
  have r2 : w2.heap[w.heap.size]? = some (.cells #[.int .i64 0, .slice none 0 0, .int .i64 0] 34 (0, 0)) := (g2.block w.heap.size (by omega) (by simp; omega)).trans (((unhide HK1) w.heap.size (by omega)).trans (heap_new w _))
  have p2 : w2.cell? ⟨F, 2, none⟩ = some (.map (some P)) := Lib.cell_of_heap blk2 2
  have HON := hide (honest_any p2 (own_same (unhide HOP) (k2 P (by omega) n4.symm n1)) hu ((unhide HP).keep (fun k h1 h2 => k2 k (by omega) (by omega) (by omega))))
  have HO2 := hide hown2
  have oT2 := own_same (unhide HOT) (k2 T (by omega) n5.symm n3)
  have HOT2 := hide oT2
  have HG2 := hide g2
  have HK2 := hide k2
  clear hown2 hturn2 g2 k2 oT2 l1 c4 HO
  refine (unhide HON).mono ?_
  rintro e w3 ⟨v, rfl, ⟨a, c, rfl, hrow, hlen⟩, b3⟩
  rw [unhide HXX] at hrow hlen
  simp only [unhide HXX]
  obtain ⟨st, l, tk⟩ := x
  simp only at hrow hlen ⊢
  obtain ⟨m, hm⟩ : ∃ m, l.length = m := ⟨_, rfl⟩
  have HM := hide hm
  rw [hm] at hrow hlen ⊢
  have s3 := b3.size
  have blk3 : w3.heap[F]? = some (.cells (netCells 1 ⟨F, P, T, A, lo, hi⟩) 81 (0, 0)) := (b3.block F (by omega)).trans blk2
  have r3 : w3.heap[w.heap.size]? = some (.cells #[.int .i64 0, .slice none 0 0, .int .i64 0] 34 (0, 0)) := (b3.block _ (by omega)).trans r2
  obtain ⟨w4, hw4⟩ : ∃ w4, w3.alloc (.cells #[.int .i64 st, .slice a m c, .int .i64 tk] 34) = w4 := ⟨_, rfl⟩
  have a4 : ∀ k, k < w3.heap.size → w4.heap[k]? = w3.heap[k]? := fun k hk => by rw [← hw4]; exact (World.grownBy_alloc w3 _ none).block k hk (by simp)
  have s4 : w4.heap.size = w3.heap.size + 1 := by rw [← hw4]; show (w3.heap.push _).size = _; simp
  have blk4 : w4.heap[F]? = some (.cells (netCells 1 ⟨F, P, T, A, lo, hi⟩) 81 (0, 0)) := (a4 F (by omega)).trans blk3
  have r4 : w4.heap[w.heap.size]? = some (.cells #[.int .i64 0, .slice none 0 0, .int .i64 0] 34 (0, 0)) := (a4 _ (by omega)).trans r3
  have h4 : w4.heap[w3.heap.size]? = some (.cells #[.int .i64 st, .slice a m c, .int .i64 tk] 34 (0, 0)) := by rw [← hw4]; exact heap_new w3 _
  have c43 : w4.cell? ⟨F, 3, none⟩ = some (.map (some T)) := Lib.cell_of_heap blk4 3
  have c44 : w4.cell? ⟨F, 4, none⟩ = some (.map (some A)) := Lib.cell_of_heap blk4 4
  obtain ⟨⟨d0, d1, d2⟩, _⟩ := three_cells h4
  obtain ⟨⟨t0, t1, t2⟩, g0, g1, g3⟩ := three_cells r4
  have oA4 : w4.ownsMap Try.prog 9 heldR A (s.n + 1) (DA.put (.string u.data.toList) (.held (.int .i64 ((q : Int) + 1)))) := own_same (unhide HO2) ((a4 A (by omega)).trans (b3.block A (by omega)))
  have oT4 : w4.ownsMap Try.prog 87 heldR T s.n DT := own_same (unhide HOT2) ((a4 T (by omega)).trans (b3.block T (by omega)))
  have lA : ∀ nq, (Instr.lookup 72 (.map (some A)) (.string u) false).run Try.prog (w4.drewN nq) = .ok (.int .i64 ((q : Int) + 1)) (w4.drewN nq) := fun nq =>
    look_int (w := w4.drewN nq) (own_same oA4 rfl) hu (by rw [atKey_put_same (unhide HOA).isMap (lawS.key hkey)])
  have lT : ∀ nq, (Instr.lookup 71 (.map (some T)) (.agg #[.string u, .int .i64 ((q : Int) + 1)]) true).run Try.prog (w4.drewN nq) = .ok (.tuple #[.nilFunc, .bool false]) (w4.drewN nq) := fun nq =>
    look_fault (w := w4.drewN nq) (own_same oT4 rfl) hu hwq (unhide HT) (atKey_of_not_has (unhide HT) _)
  have HROW := hide hrow
  have HB3 := hide b3
  have HW4 := hide hw4
  have HBLK4 := hide blk4
  have HR4 := hide r4
  have HOA4 := hide oA4
  have HA4 := hide a4
  have HLEN := hide hlen
  clear hrow hlen hm b3 blk2 blk3 r2 r3 blk4 r4 h4 oA4 oT4 a4 hw4 p2 HON
  go_wp2
  rw [unhide HW4]
  go_quiet (fail)
  go_wp2
  obtain ⟨w5, hw5⟩ : ∃ w5, (((w4.drewN nq).setCell ⟨w.heap.size, 0, none⟩ (.int .i64 st)).setCell ⟨w.heap.size, 1, none⟩ (.slice a m c)).setCell ⟨w.heap.size, 2, none⟩ (.int .i64 tk) = w5 := ⟨_, rfl⟩
  have k5 : ∀ k, k ≠ w.heap.size → w5.heap[k]? = w4.heap[k]? := fun k hk => by rw [← hw5]; exact other_three (w := w4.drewN nq) hk _ _ _
  have r5 : w5.heap[w.heap.size]? = some (.cells #[.int .i64 st, .slice a m c, .int .i64 tk] 34 (0, 0)) := by rw [← hw5]; exact set_three (w := w4.drewN nq) (unhide HR4) _ _ _
  have s5 : w5.heap.size = w4.heap.size := by rw [← hw5]; simp [World.setCell, World.drewN]
  have e5 : w5.os = w4.os ∧ w5.tape = w4.tape ∧ w5.output = w4.output := by rw [← hw5]; exact ⟨rfl, rfl, rfl⟩
  have blk5 : w5.heap[F]? = some (.cells (netCells 1 ⟨F, P, T, A, lo, hi⟩) 81 (0, 0)) := (k5 F (by omega)).trans (unhide HBLK4)
  rw [hw5]
  clear hw5
  refine leaves_cons (f := 31) (args := #[.pointer (some ⟨F, 0, none⟩)]) (by simp) (by simp [go_sem]) ?_
  refine (unlock_deferred Try.muLib ⟨F, 0, none⟩ .returning _ (Lib.cell_of_heap blk5 0) (Lib.frozen_of_heap blk5 0)).mono ?_
  rintro e u' w6 ⟨rfl, rfl, hw6⟩
  have blk6 : w6.heap[F]? = some (.cells (netCells 0 ⟨F, P, T, A, lo, hi⟩) 81 (0, 0)) := by rw [hw6]; exact heap_set_at blk5 _
  have k6 : ∀ k, k ≠ F → w6.heap[k]? = w5.heap[k]? := fun k hk => by rw [hw6]; exact Below.heap_setCell _ _ _ _ hk
  have s6 : w6.heap.size = w5.heap.size := by rw [hw6]; simp [World.setCell]
  have e6 : w6.os = w5.os ∧ w6.tape = w5.tape ∧ w6.output = w5.output := by rw [hw6]; exact ⟨rfl, rfl, rfl⟩
  have r6 := (k6 w.heap.size (by omega)).trans r5
  obtain ⟨⟨z0, z1, z2⟩, _⟩ := three_cells r6
  have b3 := unhide HB3
  have hlow : ∀ k, k < w.heap.size → k ≠ F → k ≠ A → w6.heap[k]? = w.heap[k]? := fun k h1 h2 h3 => (k6 k h2).trans ((k5 k (by omega)).trans (((unhide HA4) k (by omega)).trans ((b3.block k (by omega)).trans ((unhide HK2) k h1 h2 h3))))
  have e3 : w3.os = w2.os ∧ w3.tape = w2.tape ∧ w3.output = w2.output := ⟨b3.os, b3.tape, b3.output⟩
  have e4 : w4.os = w3.os ∧ w4.tape = w3.tape ∧ w4.output = w3.output := by rw [← unhide HW4]; exact ⟨rfl, rfl, rfl⟩
  have g2 := unhide HG2
  have e1 := unhide HE1
  refine ⟨.agg #[.int .i64 st, .slice a m c, .int .i64 tk], by simp [results, Try.results10, go_sem, z0, z1, z2], _, rfl, ?_, ?_, ?_⟩
  · rw [unhide HX]
    refine ⟨a, c, by simp only [unhide HM], ?_, by simp only [unhide HM]; exact unhide HLEN⟩
    simp only [unhide HM]
    refine row_up (row_same (unhide HROW) (fun k hk => ?_)) (by omega)
    have h1 := (unhide HROW).lt k hk
    exact (k6 k (by omega)).trans ((k5 k (by omega)).trans ((unhide HA4) k h1.2))
  · refine rep_get (unhide HH) hu (unhide HOA) (unhide HHA) blk6 ?_ hlow (by omega)
    simp only [unhide HQ]
    exact own_same (unhide HOA4) ((k6 A (fun e => n6 e.symm)).trans (k5 A (by omega)))
  · exact ⟨(e6.1.trans (e5.1.trans (e4.1.trans (e3.1.trans (g2.os.trans e1.1))))), (e6.2.1.trans (e5.2.1.trans (e4.2.1.trans (e3.2.1.trans (g2.tape.trans e1.2.1))))), (e6.2.2.trans (e5.2.2.trans (e4.2.2.trans (e3.2.2.trans (g2.output.trans e1.2.2))))), by omega, hlow⟩

end Go.Proofs.Ytmbcjdlpdibalaa
