/-
  Get where a fault befalls the request; Get at every URL.
-/
import Derived.Test.YtmbcjdlpdibalaaNet
namespace Go.Proofs.Ytmbcjdlpdibalaa
open Go.RowKit Go.WideMaps Go.Maps Go.MuLone

set_option maxHeartbeats 2000000 in
set_option maxRecDepth 100000 in
theorem get_tell {w : World} {G : Gh} {s : St} {u : ByteArray} {z : Int} (h : Rep w G s) (hn : s.n ≤ 1000000) (hu : u.size ≤ maxLen) (hft : s.ft u ((s.aq u : Int) + 1) = some (.tell z)) :
    Calls Try.prog 10 #[.pointer (some ⟨G.F, 0, none⟩), .string u] w fun e w' => ∃ v, e = .returned v ∧ AnsAt w.heap.size w' v (getR s u) ∧ Rep w' G (getS s u) ∧ Fr G w w' := by
  obtain ⟨x, hx⟩ : ∃ x, honestR (s.pg u) = x := ⟨_, rfl⟩
  have HX : Hid (getR s u = befall (.tell z) x) := by show getR s u = _; unfold getR; rw [hft, hx]
  obtain ⟨F, P, T, A, lo, hi⟩ := G
  obtain ⟨DP, oP, hP⟩ := h.pages
  obtain ⟨DT, oT, hT⟩ := h.faults
  obtain ⟨DA, oA, hA⟩ := h.asked
  have hsm := h.small u
  obtain ⟨o1, o2, o3, o4, o5, o6⟩ := h.ord
  obtain ⟨n1, n2, n3, n4, n5, n6⟩ := h.ne
  simp only at o1 o2 o3 o4 o5 o6 n1 n2 n3 n4 n5 n6 oP oT oA
  have hblk : w.heap[F]? = some (.cells (netCells 0 ⟨F, P, T, A, lo, hi⟩) 81 (0, 0)) := h.blk
  have hF : F < w.heap.size := by omega
  have b0 : Below w.heap.size w (w.alloc zero34) := (Below.refl _ _).alloc (Nat.le_refl _) _
  have s0 : (w.alloc zero34).heap.size = w.heap.size + 1 := by show (w.heap.push _).size = _; simp
  have blk0 : (w.alloc zero34).heap[F]? = some (.cells (netCells 0 ⟨F, P, T, A, lo, hi⟩) 81 (0, 0)) := (b0.block F hF).trans hblk
  have c0 : (w.alloc zero34).cell? ⟨F, 0, none⟩ = some (.int .i32 0) := Lib.cell_of_heap blk0 0
  have f0 : (w.alloc zero34).frozen? ⟨F, 0, none⟩ = false := Lib.frozen_of_heap blk0 0
  obtain ⟨w1, hw1⟩ : ∃ w1, (w.alloc zero34).setCell ⟨F, 0, none⟩ (.int .i32 1) = w1 := ⟨_, rfl⟩
  have blk1 : w1.heap[F]? = some (.cells (netCells 1 ⟨F, P, T, A, lo, hi⟩) 81 (0, 0)) := by rw [← hw1]; exact heap_set_at blk0 _
  have s1 : w1.heap.size = w.heap.size + 1 := by rw [← hw1, ← s0]; simp [World.setCell]
  have k1 : ∀ k, k ≠ F → w1.heap[k]? = (w.alloc zero34).heap[k]? := fun k hk => by rw [← hw1]; exact Below.heap_setCell _ _ _ _ hk
  have e1 : w1.os = w.os ∧ w1.tape = w.tape ∧ w1.output = w.output := by rw [← hw1]; exact ⟨rfl, rfl, rfl⟩
  have oA1 : w1.ownsMap Try.prog 9 heldR A s.n DA := by rw [← hw1]; exact (oA.alloc _).setCell (a := ⟨F, 0, none⟩) n6.symm _
  have c4 : w1.cell? ⟨F, 4, none⟩ = some (.map (some A)) := Lib.cell_of_heap blk1 4
  have l1 := look_int oA1 hu (hA u hu)
  have hkey := keyS hu
  have HO := hide oA1
  have HW1 := hide hw1
  obtain ⟨q, hq⟩ : ∃ q, s.aq u = q := ⟨_, rfl⟩
  have HQ := hide hq
  rw [hq] at l1 hsm hft
  have hq1 : q ≤ 1000000 := by omega
  have hwq : (Lit.int .i64 ((q : Int) + 1)).wf = true := wf_of (n := q + 1) (by omega)
  have HH := hide h
  have HHA := hide hA
  have HOA := hide oA
  have hPu := hP u hu
  have hTu := hT u ((q : Int) + 1) hu hwq
  rw [hft] at hTu
  have HP := hide hPu
  have HT := hide hTu
  have HOP := hide oP
  have HOT := hide oT
  have HK1 := hide k1
  have HE1 := hide e1
  have HFT := hide hft
  have HXX := hide hx
  clear hx h hw1 oA1 hA hP hT hPu hTu oP oT oA k1 e1 hblk blk0 hq hft
  go_enter_defers Try.func10, Try.ntmps10
  go_wp2_with (go_at_call 30; fail)
  refine (lock_free Try.muLib ⟨F, 0, none⟩ _ c0 f0).mono ?_
  rintro e w' ⟨rfl, hw⟩
  rw [hw, unhide HW1]; clear hw w' c0 f0
  go_wp2_with (first
    | (at_mapUpdate; refine wpList_mapUpdate_in _ rfl _ _ _ 72 rfl 9 3 lawS Try.underlying72 heldR A s.n DA rfl (unhide HO) (by unfold maxLen; omega) _ _ _ rfl rfl hkey _ [] rfl ?_; intro w2 hown2 hturn2)
    | (go_at_call 32; fail))
  have g2 := hturn2.grown
  have s2 : w2.heap.size = w.heap.size + 1 := (turned_size hturn2).trans s1
  have blk2 : w2.heap[F]? = some (.cells (netCells 1 ⟨F, P, T, A, lo, hi⟩) 81 (0, 0)) := (g2.block F (by omega) (by simpa using n6)).trans blk1
  have k2 : ∀ k, k < w.heap.size → k ≠ F → k ≠ A → w2.heap[k]? = w.heap[k]? := fun k h1 h2 h3 => (g2.block k (by omega) (by simpa using h3)).trans (((unhide HK1) k h2).trans (b0.block k h1))
  have r2 : w2.heap[w.heap.size]? = some (.cells #[.int .i64 0, .slice none 0 0, .int .i64 0] 34 (0, 0)) := (g2.block w.heap.size (by omega) (by simp; omega)).trans (((unhide HK1) w.heap.size (by omega)).trans (heap_new w _))
  have p2 : w2.cell? ⟨F, 2, none⟩ = some (.map (some P)) := Lib.cell_of_heap blk2 2
  have HON := hide (honest_any p2 (own_same (unhide HOP) (k2 P (by omega) n4.symm n1)) hu ((unhide HP).keep (fun k h1 h2 => k2 k (by omega) (by omega) (by omega))))
  have HO2 := hide hown2
  have oT2 := own_same (unhide HOT) (k2 T (by omega) n5.symm n3)
  have HOT2 := hide oT2
  have HG2 := hide g2
  have HK2 := hide k2
  clear hown2 hturn2 g2 k2 oT2 l1 c4 HO
  refine (unhide HON).mono ?_
  rintro e w3 ⟨v, rfl, ⟨a, c, rfl, hrow, hlen⟩, b3⟩
  rw [unhide HXX] at hrow hlen
  simp only [unhide HXX]
  obtain ⟨st, l, tk⟩ := x
  simp only at hrow hlen ⊢
  obtain ⟨m, hm⟩ : ∃ m, l.length = m := ⟨_, rfl⟩
  have HM := hide hm
  rw [hm] at hrow hlen ⊢
  have s3 := b3.size
  have blk3 : w3.heap[F]? = some (.cells (netCells 1 ⟨F, P, T, A, lo, hi⟩) 81 (0, 0)) := (b3.block F (by omega)).trans blk2
  have r3 : w3.heap[w.heap.size]? = some (.cells #[.int .i64 0, .slice none 0 0, .int .i64 0] 34 (0, 0)) := (b3.block _ (by omega)).trans r2
  obtain ⟨w4, hw4⟩ : ∃ w4, w3.alloc (.cells #[.int .i64 st, .slice a m c, .int .i64 tk] 34) = w4 := ⟨_, rfl⟩
  have a4 : ∀ k, k < w3.heap.size → w4.heap[k]? = w3.heap[k]? := fun k hk => by rw [← hw4]; exact (World.grownBy_alloc w3 _ none).block k hk (by simp)
  have s4 : w4.heap.size = w3.heap.size + 1 := by rw [← hw4]; show (w3.heap.push _).size = _; simp
  have blk4 : w4.heap[F]? = some (.cells (netCells 1 ⟨F, P, T, A, lo, hi⟩) 81 (0, 0)) := (a4 F (by omega)).trans blk3
  have r4 : w4.heap[w.heap.size]? = some (.cells #[.int .i64 0, .slice none 0 0, .int .i64 0] 34 (0, 0)) := (a4 _ (by omega)).trans r3
  have h4 : w4.heap[w3.heap.size]? = some (.cells #[.int .i64 st, .slice a m c, .int .i64 tk] 34 (0, 0)) := by rw [← hw4]; exact heap_new w3 _
  have c43 : w4.cell? ⟨F, 3, none⟩ = some (.map (some T)) := Lib.cell_of_heap blk4 3
  have c44 : w4.cell? ⟨F, 4, none⟩ = some (.map (some A)) := Lib.cell_of_heap blk4 4
  obtain ⟨⟨d0, d1, d2⟩, _⟩ := three_cells h4
  obtain ⟨⟨t0, t1, t2⟩, g0, g1, g3⟩ := three_cells r4
  have oA4 : w4.ownsMap Try.prog 9 heldR A (s.n + 1) (DA.put (.string u.data.toList) (.held (.int .i64 ((q : Int) + 1)))) := own_same (unhide HO2) ((a4 A (by omega)).trans (b3.block A (by omega)))
  have oT4 : w4.ownsMap Try.prog 87 heldR T s.n DT := own_same (unhide HOT2) ((a4 T (by omega)).trans (b3.block T (by omega)))
  have lA : ∀ nq, (Instr.lookup 72 (.map (some A)) (.string u) false).run Try.prog (w4.drewN nq) = .ok (.int .i64 ((q : Int) + 1)) (w4.drewN nq) := fun nq =>
    look_int (w := w4.drewN nq) (own_same oA4 rfl) hu (by rw [atKey_put_same (unhide HOA).isMap (lawS.key hkey)])
  obtain ⟨fv, hE, hh, hat⟩ := (unhide HT)
  have hE4 := hE.keep (w' := w4) (fun k h1 h2 => ((a4 k (by omega)).trans (b3.block k (by omega))).trans ((unhide HK2) k (by omega) (by omega) (by omega)))
  obtain ⟨b, hb1, hb2, rfl, hcb⟩ := hE4
  have lT : ∀ nq, (Instr.lookup 71 (.map (some T)) (.agg #[.string u, .int .i64 ((q : Int) + 1)]) true).run Try.prog (w4.drewN nq) = .ok (.tuple #[.func (.func 67) #[] #[.pointer (some ⟨b, 0, none⟩)], .bool true]) (w4.drewN nq) := fun nq =>
    look_fault (w := w4.drewN nq) (own_same oT4 rfl) hu hwq hh (hat _)
  have hb4 : w.heap.size + 1 ≤ w4.heap.size := by omega
  have hrow4 : w4.ownsRow (w.heap.size + 1) 5 1 (.slice a l.length c) l.length (bytesV l) := by
    rw [hm]
    exact row_up (row_same hrow (fun k hk => a4 k (hrow.lt k hk).2)) (by omega)
  have hlen : l.length ≤ 1099511627776 := by rw [hm]; exact hlen
  have HDO : Hid (∀ nq, Calls Try.prog 67 #[.agg #[.int .i64 st, .slice a l.length c, .int .i64 tk], .pointer (some ⟨b, 0, none⟩)] (w4.drewN nq) fun e' w' => ∃ v', e' = .returned v' ∧ AnsAt (w.heap.size + 1) w' v' (befall (.tell z) ⟨st, l, tk⟩) ∧ Below (w.heap.size + 1) (w4.drewN nq) w') := by
    intro nq
    exact do67 (w := w4.drewN nq) (x := ⟨st, l, tk⟩) hcb ⟨a, c, rfl, hrow4, hlen⟩ hb4
  rw [hm] at HDO
  obtain ⟨y, hy⟩ : ∃ y, befall (.tell z) ⟨st, l, tk⟩ = y := ⟨_, rfl⟩
  rw [hy] at HDO HX
  have HB3 := hide b3
  have HW4 := hide hw4
  have HBLK4 := hide blk4
  have HR4 := hide r4
  have HOA4 := hide oA4
  have HA4 := hide a4
  clear hy hrow hlen hm b3 blk2 blk3 r2 r3 blk4 r4 h4 oA4 oT4 a4 hw4 p2 HON hrow4 hE hh hat hcb
  go_wp2
  rw [unhide HW4]
  go_quiet (fail)
  go_wp2_with (go_at_call 67; fail)
  refine ((unhide HDO) nq).mono ?_
  rintro e w7 ⟨v', rfl, ⟨a', c', rfl, hrow, hlen⟩, b7⟩
  obtain ⟨yst, yl, ytk⟩ := y
  simp only at hrow hlen ⊢
  obtain ⟨m', hm'⟩ : ∃ m', yl.length = m' := ⟨_, rfl⟩
  have HM' := hide hm'
  rw [hm'] at hrow hlen ⊢
  have s7 : w4.heap.size ≤ w7.heap.size := b7.size
  have r7 : w7.heap[w.heap.size]? = some (.cells #[.int .i64 0, .slice none 0 0, .int .i64 0] 34 (0, 0)) := (b7.block w.heap.size (by omega)).trans (unhide HR4)
  have blk7 : w7.heap[F]? = some (.cells (netCells 1 ⟨F, P, T, A, lo, hi⟩) 81 (0, 0)) := (b7.block F (by omega)).trans (unhide HBLK4)
  have oA7 : w7.ownsMap Try.prog 9 heldR A (s.n + 1) (DA.put (.string u.data.toList) (.held (.int .i64 ((q : Int) + 1)))) := own_same (unhide HOA4) (b7.block A (by omega))
  obtain ⟨⟨y0, y1, y2⟩, yg0, yg1, yg2⟩ := three_cells r7
  have HROW := hide hrow
  have HLEN := hide hlen
  have HB7 := hide b7
  have HR7 := hide r7
  have HBLK7 := hide blk7
  have HOA7 := hide oA7
  clear hrow hlen hm' b7 r7 blk7 oA7
  go_wp2
  obtain ⟨w5, hw5⟩ : ∃ w5, ((w7.setCell ⟨w.heap.size, 0, none⟩ (.int .i64 yst)).setCell ⟨w.heap.size, 1, none⟩ (.slice a' m' c')).setCell ⟨w.heap.size, 2, none⟩ (.int .i64 ytk) = w5 := ⟨_, rfl⟩
  have k5 : ∀ k, k ≠ w.heap.size → w5.heap[k]? = w7.heap[k]? := fun k hk => by rw [← hw5]; exact other_three (w := w7) hk _ _ _
  have r5 : w5.heap[w.heap.size]? = some (.cells #[.int .i64 yst, .slice a' m' c', .int .i64 ytk] 34 (0, 0)) := by rw [← hw5]; exact set_three (w := w7) (unhide HR7) _ _ _
  have s5 : w5.heap.size = w7.heap.size := by rw [← hw5]; simp [World.setCell]
  have e5 : w5.os = w7.os ∧ w5.tape = w7.tape ∧ w5.output = w7.output := by rw [← hw5]; exact ⟨rfl, rfl, rfl⟩
  have blk5 : w5.heap[F]? = some (.cells (netCells 1 ⟨F, P, T, A, lo, hi⟩) 81 (0, 0)) := (k5 F (by omega)).trans (unhide HBLK7)
  rw [hw5]
  clear hw5
  refine leaves_cons (f := 31) (args := #[.pointer (some ⟨F, 0, none⟩)]) (by simp) (by simp [go_sem]) ?_
  refine (unlock_deferred Try.muLib ⟨F, 0, none⟩ .returning _ (Lib.cell_of_heap blk5 0) (Lib.frozen_of_heap blk5 0)).mono ?_
  rintro e u' w6 ⟨rfl, rfl, hw6⟩
  have blk6 : w6.heap[F]? = some (.cells (netCells 0 ⟨F, P, T, A, lo, hi⟩) 81 (0, 0)) := by rw [hw6]; exact heap_set_at blk5 _
  have k6 : ∀ k, k ≠ F → w6.heap[k]? = w5.heap[k]? := fun k hk => by rw [hw6]; exact Below.heap_setCell _ _ _ _ hk
  have s6 : w6.heap.size = w5.heap.size := by rw [hw6]; simp [World.setCell]
  have e6 : w6.os = w5.os ∧ w6.tape = w5.tape ∧ w6.output = w5.output := by rw [hw6]; exact ⟨rfl, rfl, rfl⟩
  have r6 := (k6 w.heap.size (by omega)).trans r5
  obtain ⟨⟨z0, z1, z2⟩, _⟩ := three_cells r6
  have b3 := unhide HB3
  have b7 := unhide HB7
  have e7 : w7.os = w4.os ∧ w7.tape = w4.tape ∧ w7.output = w4.output := ⟨b7.os, b7.tape, b7.output⟩
  have hlow : ∀ k, k < w.heap.size → k ≠ F → k ≠ A → w6.heap[k]? = w.heap[k]? := fun k h1 h2 h3 => (k6 k h2).trans ((k5 k (by omega)).trans ((b7.block k (by omega)).trans (((unhide HA4) k (by omega)).trans ((b3.block k (by omega)).trans ((unhide HK2) k h1 h2 h3)))))
  have e3 : w3.os = w2.os ∧ w3.tape = w2.tape ∧ w3.output = w2.output := ⟨b3.os, b3.tape, b3.output⟩
  have e4 : w4.os = w3.os ∧ w4.tape = w3.tape ∧ w4.output = w3.output := by rw [← unhide HW4]; exact ⟨rfl, rfl, rfl⟩
  have g2 := unhide HG2
  have e1 := unhide HE1
  refine ⟨.agg #[.int .i64 yst, .slice a' m' c', .int .i64 ytk], by simp [results, Try.results10, go_sem, z0, z1, z2], _, rfl, ?_, ?_, ?_⟩
  · rw [unhide HX]
    refine ⟨a', c', by simp only [unhide HM'], ?_, by simp only [unhide HM']; exact unhide HLEN⟩
    simp only [unhide HM']
    refine row_up (row_same (unhide HROW) (fun k hk => ?_)) (by omega)
    have h1 := (unhide HROW).lt k hk
    exact (k6 k (by omega)).trans (k5 k (by omega))
  · refine rep_get (unhide HH) hu (unhide HOA) (unhide HHA) blk6 ?_ hlow (by omega)
    simp only [unhide HQ]
    exact own_same (unhide HOA7) ((k6 A (fun e => n6 e.symm)).trans (k5 A (by omega)))
  · exact ⟨(e6.1.trans (e5.1.trans (e7.1.trans (e4.1.trans (e3.1.trans (g2.os.trans e1.1)))))), (e6.2.1.trans (e5.2.1.trans (e7.2.1.trans (e4.2.1.trans (e3.2.1.trans (g2.tape.trans e1.2.1)))))), (e6.2.2.trans (e5.2.2.trans (e7.2.2.trans (e4.2.2.trans (e3.2.2.trans (g2.output.trans e1.2.2)))))), by omega, hlow⟩

set_option maxHeartbeats 2000000 in
set_option maxRecDepth 100000 in
theorem get_forge {w : World} {G : Gh} {s : St} {u : ByteArray} {z : List UInt8} (h : Rep w G s) (hn : s.n ≤ 1000000) (hu : u.size ≤ maxLen) (hft : s.ft u ((s.aq u : Int) + 1) = some (.forge z)) :
    Calls Try.prog 10 #[.pointer (some ⟨G.F, 0, none⟩), .string u] w fun e w' => ∃ v, e = .returned v ∧ AnsAt w.heap.size w' v (getR s u) ∧ Rep w' G (getS s u) ∧ Fr G w w' := by
  obtain ⟨x, hx⟩ : ∃ x, honestR (s.pg u) = x := ⟨_, rfl⟩
  have HX : Hid (getR s u = befall (.forge z) x) := by show getR s u = _; unfold getR; rw [hft, hx]
  obtain ⟨F, P, T, A, lo, hi⟩ := G
  obtain ⟨DP, oP, hP⟩ := h.pages
  obtain ⟨DT, oT, hT⟩ := h.faults
  obtain ⟨DA, oA, hA⟩ := h.asked
  have hsm := h.small u
  obtain ⟨o1, o2, o3, o4, o5, o6⟩ := h.ord
  obtain ⟨n1, n2, n3, n4, n5, n6⟩ := h.ne
  simp only at o1 o2 o3 o4 o5 o6 n1 n2 n3 n4 n5 n6 oP oT oA
  have hblk : w.heap[F]? = some (.cells (netCells 0 ⟨F, P, T, A, lo, hi⟩) 81 (0, 0)) := h.blk
  have hF : F < w.heap.size := by omega
  have b0 : Below w.heap.size w (w.alloc zero34) := (Below.refl _ _).alloc (Nat.le_refl _) _
  have s0 : (w.alloc zero34).heap.size = w.heap.size + 1 := by show (w.heap.push _).size = _; simp
  have blk0 : (w.alloc zero34).heap[F]? = some (.cells (netCells 0 ⟨F, P, T, A, lo, hi⟩) 81 (0, 0)) := (b0.block F hF).trans hblk
  have c0 : (w.alloc zero34).cell? ⟨F, 0, none⟩ = some (.int .i32 0) := Lib.cell_of_heap blk0 0
  have f0 : (w.alloc zero34).frozen? ⟨F, 0, none⟩ = false := Lib.frozen_of_heap blk0 0
  obtain ⟨w1, hw1⟩ : ∃ w1, (w.alloc zero34).setCell ⟨F, 0, none⟩ (.int .i32 1) = w1 := ⟨_, rfl⟩
  have blk1 : w1.heap[F]? = some (.cells (netCells 1 ⟨F, P, T, A, lo, hi⟩) 81 (0, 0)) := by rw [← hw1]; exact heap_set_at blk0 _
  have s1 : w1.heap.size = w.heap.size + 1 := by rw [← hw1, ← s0]; simp [World.setCell]
  have k1 : ∀ k, k ≠ F → w1.heap[k]? = (w.alloc zero34).heap[k]? := fun k hk => by rw [← hw1]; exact Below.heap_setCell _ _ _ _ hk
  have e1 : w1.os = w.os ∧ w1.tape = w.tape ∧ w1.output = w.output := by rw [← hw1]; exact ⟨rfl, rfl, rfl⟩
  have oA1 : w1.ownsMap Try.prog 9 heldR A s.n DA := by rw [← hw1]; exact (oA.alloc _).setCell (a := ⟨F, 0, none⟩) n6.symm _
  have c4 : w1.cell? ⟨F, 4, none⟩ = some (.map (some A)) := Lib.cell_of_heap blk1 4
  have l1 := look_int oA1 hu (hA u hu)
  have hkey := keyS hu
  have HO := hide oA1
  have HW1 := hide hw1
  obtain ⟨q, hq⟩ : ∃ q, s.aq u = q := ⟨_, rfl⟩
  have HQ := hide hq
  rw [hq] at l1 hsm hft
  have hq1 : q ≤ 1000000 := by omega
  have hwq : (Lit.int .i64 ((q : Int) + 1)).wf = true := wf_of (n := q + 1) (by omega)
  have HH := hide h
  have HHA := hide hA
  have HOA := hide oA
  have hPu := hP u hu
  have hTu := hT u ((q : Int) + 1) hu hwq
  rw [hft] at hTu
  have HP := hide hPu
  have HT := hide hTu
  have HOP := hide oP
  have HOT := hide oT
  have HK1 := hide k1
  have HE1 := hide e1
  have HFT := hide hft
  have HXX := hide hx
  clear hx h hw1 oA1 hA hP hT hPu hTu oP oT oA k1 e1 hblk blk0 hq hft
  go_enter_defers Try.func10, Try.ntmps10
  go_wp2_with (go_at_call 30; fail)
  refine (lock_free Try.muLib ⟨F, 0, none⟩ _ c0 f0).mono ?_
  rintro e w' ⟨rfl, hw⟩
  rw [hw, unhide HW1]; clear hw w' c0 f0
  go_wp2_with (first
    | (at_mapUpdate; refine wpList_mapUpdate_in _ rfl _ _ _ 72 rfl 9 3 lawS Try.underlying72 heldR A s.n DA rfl (unhide HO) (by unfold maxLen; omega) _ _ _ rfl rfl hkey _ [] rfl ?_; intro w2 hown2 hturn2)
    | (go_at_call 32; fail))
  have g2 := hturn2.grown
  have s2 : w2.heap.size = w.heap.size + 1 := (turned_size hturn2).trans s1
  have blk2 : w2.heap[F]? = some (.cells (netCells 1 ⟨F, P, T, A, lo, hi⟩) 81 (0, 0)) := (g2.block F (by omega) (by simpa using n6)).trans blk1
  have k2 : ∀ k, k < w.heap.size → k ≠ F → k ≠ A → w2.heap[k]? = w.heap[k]? := fun k h1 h2 h3 => (g2.block k (by omega) (by simpa using h3)).trans (((unhide HK1) k h2).trans (b0.block k h1))
  have r2 : w2.heap[w.heap.size]? = some (.cells #[.int .i64 0, .slice none 0 0, .int .i64 0] 34 (0, 0)) := (g2.block w.heap.size (by omega) (by simp; omega)).trans (((unhide HK1) w.heap.size (by omega)).trans (heap_new w _))
  have p2 : w2.cell? ⟨F, 2, none⟩ = some (.map (some P)) := Lib.cell_of_heap blk2 2
  have HON := hide (honest_any p2 (own_same (unhide HOP) (k2 P (by omega) n4.symm n1)) hu ((unhide HP).keep (fun k h1 h2 => k2 k (by omega) (by omega) (by omega))))
  have HO2 := hide hown2
  have oT2 := own_same (unhide HOT) (k2 T (by omega) n5.symm n3)
  have HOT2 := hide oT2
  have HG2 := hide g2
  have HK2 := hide k2
  clear hown2 hturn2 g2 k2 oT2 l1 c4 HO
  refine (unhide HON).mono ?_
  rintro e w3 ⟨v, rfl, ⟨a, c, rfl, hrow, hlen⟩, b3⟩
  rw [unhide HXX] at hrow hlen
  simp only [unhide HXX]
  obtain ⟨st, l, tk⟩ := x
  simp only at hrow hlen ⊢
  obtain ⟨m, hm⟩ : ∃ m, l.length = m := ⟨_, rfl⟩
  have HM := hide hm
  rw [hm] at hrow hlen ⊢
  have s3 := b3.size
  have blk3 : w3.heap[F]? = some (.cells (netCells 1 ⟨F, P, T, A, lo, hi⟩) 81 (0, 0)) := (b3.block F (by omega)).trans blk2
  have r3 : w3.heap[w.heap.size]? = some (.cells #[.int .i64 0, .slice none 0 0, .int .i64 0] 34 (0, 0)) := (b3.block _ (by omega)).trans r2
  obtain ⟨w4, hw4⟩ : ∃ w4, w3.alloc (.cells #[.int .i64 st, .slice a m c, .int .i64 tk] 34) = w4 := ⟨_, rfl⟩
  have a4 : ∀ k, k < w3.heap.size → w4.heap[k]? = w3.heap[k]? := fun k hk => by rw [← hw4]; exact (World.grownBy_alloc w3 _ none).block k hk (by simp)
  have s4 : w4.heap.size = w3.heap.size + 1 := by rw [← hw4]; show (w3.heap.push _).size = _; simp
  have blk4 : w4.heap[F]? = some (.cells (netCells 1 ⟨F, P, T, A, lo, hi⟩) 81 (0, 0)) := (a4 F (by omega)).trans blk3
  have r4 : w4.heap[w.heap.size]? = some (.cells #[.int .i64 0, .slice none 0 0, .int .i64 0] 34 (0, 0)) := (a4 _ (by omega)).trans r3
  have h4 : w4.heap[w3.heap.size]? = some (.cells #[.int .i64 st, .slice a m c, .int .i64 tk] 34 (0, 0)) := by rw [← hw4]; exact heap_new w3 _
  have c43 : w4.cell? ⟨F, 3, none⟩ = some (.map (some T)) := Lib.cell_of_heap blk4 3
  have c44 : w4.cell? ⟨F, 4, none⟩ = some (.map (some A)) := Lib.cell_of_heap blk4 4
  obtain ⟨⟨d0, d1, d2⟩, _⟩ := three_cells h4
  obtain ⟨⟨t0, t1, t2⟩, g0, g1, g3⟩ := three_cells r4
  have oA4 : w4.ownsMap Try.prog 9 heldR A (s.n + 1) (DA.put (.string u.data.toList) (.held (.int .i64 ((q : Int) + 1)))) := own_same (unhide HO2) ((a4 A (by omega)).trans (b3.block A (by omega)))
  have oT4 : w4.ownsMap Try.prog 87 heldR T s.n DT := own_same (unhide HOT2) ((a4 T (by omega)).trans (b3.block T (by omega)))
  have lA : ∀ nq, (Instr.lookup 72 (.map (some A)) (.string u) false).run Try.prog (w4.drewN nq) = .ok (.int .i64 ((q : Int) + 1)) (w4.drewN nq) := fun nq =>
    look_int (w := w4.drewN nq) (own_same oA4 rfl) hu (by rw [atKey_put_same (unhide HOA).isMap (lawS.key hkey)])
  obtain ⟨fv, hE, hh, hat⟩ := (unhide HT)
  have hE4 := hE.keep (w' := w4) (fun k h1 h2 => ((a4 k (by omega)).trans (b3.block k (by omega))).trans ((unhide HK2) k (by omega) (by omega) (by omega)))
  obtain ⟨b, za, zn, zc, hb1, hb2, rfl, hcb, hzb, hzn, _⟩ := hE4
  have lT : ∀ nq, (Instr.lookup 71 (.map (some T)) (.agg #[.string u, .int .i64 ((q : Int) + 1)]) true).run Try.prog (w4.drewN nq) = .ok (.tuple #[.func (.func 70) #[] #[.pointer (some ⟨b, 0, none⟩)], .bool true]) (w4.drewN nq) := fun nq =>
    look_fault (w := w4.drewN nq) (own_same oT4 rfl) hu hwq hh (hat _)
  have hb4 : w.heap.size + 1 ≤ w4.heap.size := by omega
  have hrow4 : w4.ownsRow (w.heap.size + 1) 5 1 (.slice a l.length c) l.length (bytesV l) := by
    rw [hm]
    exact row_up (row_same hrow (fun k hk => a4 k (hrow.lt k hk).2)) (by omega)
  have hlen : l.length ≤ 1099511627776 := by rw [hm]; exact hlen
  have HDO : Hid (∀ nq, Calls Try.prog 70 #[.agg #[.int .i64 st, .slice a l.length c, .int .i64 tk], .pointer (some ⟨b, 0, none⟩)] (w4.drewN nq) fun e' w' => ∃ v', e' = .returned v' ∧ AnsAt (w.heap.size + 1) w' v' (befall (.forge z) ⟨st, l, tk⟩) ∧ Below (w.heap.size + 1) (w4.drewN nq) w') := by
    intro nq
    exact do70 (w := w4.drewN nq) (x := ⟨st, l, tk⟩) hcb ⟨hzb.len, hzb.nil, hzb.cell⟩ hzn ⟨a, c, rfl, hrow4, hlen⟩ hb4
  rw [hm] at HDO
  obtain ⟨y, hy⟩ : ∃ y, befall (.forge z) ⟨st, l, tk⟩ = y := ⟨_, rfl⟩
  rw [hy] at HDO HX
  have HB3 := hide b3
  have HW4 := hide hw4
  have HBLK4 := hide blk4
  have HR4 := hide r4
  have HOA4 := hide oA4
  have HA4 := hide a4
  clear hy hrow hlen hm b3 blk2 blk3 r2 r3 blk4 r4 h4 oA4 oT4 a4 hw4 p2 HON hrow4 hE hh hat hcb hzb hzn
  go_wp2
  rw [unhide HW4]
  go_quiet (fail)
  go_wp2_with (go_at_call 70; fail)
  refine ((unhide HDO) nq).mono ?_
  rintro e w7 ⟨v', rfl, ⟨a', c', rfl, hrow, hlen⟩, b7⟩
  obtain ⟨yst, yl, ytk⟩ := y
  simp only at hrow hlen ⊢
  obtain ⟨m', hm'⟩ : ∃ m', yl.length = m' := ⟨_, rfl⟩
  have HM' := hide hm'
  rw [hm'] at hrow hlen ⊢
  have s7 : w4.heap.size ≤ w7.heap.size := b7.size
  have r7 : w7.heap[w.heap.size]? = some (.cells #[.int .i64 0, .slice none 0 0, .int .i64 0] 34 (0, 0)) := (b7.block w.heap.size (by omega)).trans (unhide HR4)
  have blk7 : w7.heap[F]? = some (.cells (netCells 1 ⟨F, P, T, A, lo, hi⟩) 81 (0, 0)) := (b7.block F (by omega)).trans (unhide HBLK4)
  have oA7 : w7.ownsMap Try.prog 9 heldR A (s.n + 1) (DA.put (.string u.data.toList) (.held (.int .i64 ((q : Int) + 1)))) := own_same (unhide HOA4) (b7.block A (by omega))
  obtain ⟨⟨y0, y1, y2⟩, yg0, yg1, yg2⟩ := three_cells r7
  have HROW := hide hrow
  have HLEN := hide hlen
  have HB7 := hide b7
  have HR7 := hide r7
  have HBLK7 := hide blk7
  have HOA7 := hide oA7
  clear hrow hlen hm' b7 r7 blk7 oA7
  go_wp2
  obtain ⟨w5, hw5⟩ : ∃ w5, ((w7.setCell ⟨w.heap.size, 0, none⟩ (.int .i64 yst)).setCell ⟨w.heap.size, 1, none⟩ (.slice a' m' c')).setCell ⟨w.heap.size, 2, none⟩ (.int .i64 ytk) = w5 := ⟨_, rfl⟩
  have k5 : ∀ k, k ≠ w.heap.size → w5.heap[k]? = w7.heap[k]? := fun k hk => by rw [← hw5]; exact other_three (w := w7) hk _ _ _
  have r5 : w5.heap[w.heap.size]? = some (.cells #[.int .i64 yst, .slice a' m' c', .int .i64 ytk] 34 (0, 0)) := by rw [← hw5]; exact set_three (w := w7) (unhide HR7) _ _ _
  have s5 : w5.heap.size = w7.heap.size := by rw [← hw5]; simp [World.setCell]
  have e5 : w5.os = w7.os ∧ w5.tape = w7.tape ∧ w5.output = w7.output := by rw [← hw5]; exact ⟨rfl, rfl, rfl⟩
  have blk5 : w5.heap[F]? = some (.cells (netCells 1 ⟨F, P, T, A, lo, hi⟩) 81 (0, 0)) := (k5 F (by omega)).trans (unhide HBLK7)
  rw [hw5]
  clear hw5
  refine leaves_cons (f := 31) (args := #[.pointer (some ⟨F, 0, none⟩)]) (by simp) (by simp [go_sem]) ?_
  refine (unlock_deferred Try.muLib ⟨F, 0, none⟩ .returning _ (Lib.cell_of_heap blk5 0) (Lib.frozen_of_heap blk5 0)).mono ?_
  rintro e u' w6 ⟨rfl, rfl, hw6⟩
  have blk6 : w6.heap[F]? = some (.cells (netCells 0 ⟨F, P, T, A, lo, hi⟩) 81 (0, 0)) := by rw [hw6]; exact heap_set_at blk5 _
  have k6 : ∀ k, k ≠ F → w6.heap[k]? = w5.heap[k]? := fun k hk => by rw [hw6]; exact Below.heap_setCell _ _ _ _ hk
  have s6 : w6.heap.size = w5.heap.size := by rw [hw6]; simp [World.setCell]
  have e6 : w6.os = w5.os ∧ w6.tape = w5.tape ∧ w6.output = w5.output := by rw [hw6]; exact ⟨rfl, rfl, rfl⟩
  have r6 := (k6 w.heap.size (by omega)).trans r5
  obtain ⟨⟨z0, z1, z2⟩, _⟩ := three_cells r6
  have b3 := unhide HB3
  have b7 := unhide HB7
  have e7 : w7.os = w4.os ∧ w7.tape = w4.tape ∧ w7.output = w4.output := ⟨b7.os, b7.tape, b7.output⟩
  have hlow : ∀ k, k < w.heap.size → k ≠ F → k ≠ A → w6.heap[k]? = w.heap[k]? := fun k h1 h2 h3 => (k6 k h2).trans ((k5 k (by omega)).trans ((b7.block k (by omega)).trans (((unhide HA4) k (by omega)).trans ((b3.block k (by omega)).trans ((unhide HK2) k h1 h2 h3)))))
  have e3 : w3.os = w2.os ∧ w3.tape = w2.tape ∧ w3.output = w2.output := ⟨b3.os, b3.tape, b3.output⟩
  have e4 : w4.os = w3.os ∧ w4.tape = w3.tape ∧ w4.output = w3.output := by rw [← unhide HW4]; exact ⟨rfl, rfl, rfl⟩
  have g2 := unhide HG2
  have e1 := unhide HE1
  refine ⟨.agg #[.int .i64 yst, .slice a' m' c', .int .i64 ytk], by simp [results, Try.results10, go_sem, z0, z1, z2], _, rfl, ?_, ?_, ?_⟩
  · rw [unhide HX]
    refine ⟨a', c', by simp only [unhide HM'], ?_, by simp only [unhide HM']; exact unhide HLEN⟩
    simp only [unhide HM']
    refine row_up (row_same (unhide HROW) (fun k hk => ?_)) (by omega)
    have h1 := (unhide HROW).lt k hk
    exact (k6 k (by omega)).trans (k5 k (by omega))
  · refine rep_get (unhide HH) hu (unhide HOA) (unhide HHA) blk6 ?_ hlow (by omega)
    simp only [unhide HQ]
    exact own_same (unhide HOA7) ((k6 A (fun e => n6 e.symm)).trans (k5 A (by omega)))
  · exact ⟨(e6.1.trans (e5.1.trans (e7.1.trans (e4.1.trans (e3.1.trans (g2.os.trans e1.1)))))), (e6.2.1.trans (e5.2.1.trans (e7.2.1.trans (e4.2.1.trans (e3.2.1.trans (g2.tape.trans e1.2.1)))))), (e6.2.2.trans (e5.2.2.trans (e7.2.2.trans (e4.2.2.trans (e3.2.2.trans (g2.output.trans e1.2.2)))))), by omega, hlow⟩

set_option maxHeartbeats 2000000 in
set_option maxRecDepth 100000 in
theorem get_in {w : World} {G : Gh} {s : St} {u : ByteArray} {ef : Eff} (h : Rep w G s) (hn : s.n ≤ 1000000) (hu : u.size ≤ maxLen) (hft : s.ft u ((s.aq u : Int) + 1) = some ef) (hef : (∃ k, ef = .cut k) ∨ (∃ k, ef = .flip k) ∨ (∃ k, ef = .late k)) :
    Calls Try.prog 10 #[.pointer (some ⟨G.F, 0, none⟩), .string u] w fun e w' => ∃ v, e = .returned v ∧ AnsAt w.heap.size w' v (getR s u) ∧ Rep w' G (getS s u) ∧ Fr G w w' := by
  obtain ⟨x, hx⟩ : ∃ x, honestR (s.pg u) = x := ⟨_, rfl⟩
  have HX : Hid (getR s u = befall ef x) := by show getR s u = _; unfold getR; rw [hft, hx]
  obtain ⟨F, P, T, A, lo, hi⟩ := G
  obtain ⟨DP, oP, hP⟩ := h.pages
  obtain ⟨DT, oT, hT⟩ := h.faults
  obtain ⟨DA, oA, hA⟩ := h.asked
  have hsm := h.small u
  obtain ⟨o1, o2, o3, o4, o5, o6⟩ := h.ord
  obtain ⟨n1, n2, n3, n4, n5, n6⟩ := h.ne
  simp only at o1 o2 o3 o4 o5 o6 n1 n2 n3 n4 n5 n6 oP oT oA
  have hblk : w.heap[F]? = some (.cells (netCells 0 ⟨F, P, T, A, lo, hi⟩) 81 (0, 0)) := h.blk
  have hF : F < w.heap.size := by omega
  have b0 : Below w.heap.size w (w.alloc zero34) := (Below.refl _ _).alloc (Nat.le_refl _) _
  have s0 : (w.alloc zero34).heap.size = w.heap.size + 1 := by show (w.heap.push _).size = _; simp
  have blk0 : (w.alloc zero34).heap[F]? = some (.cells (netCells 0 ⟨F, P, T, A, lo, hi⟩) 81 (0, 0)) := (b0.block F hF).trans hblk
  have c0 : (w.alloc zero34).cell? ⟨F, 0, none⟩ = some (.int .i32 0) := Lib.cell_of_heap blk0 0
  have f0 : (w.alloc zero34).frozen? ⟨F, 0, none⟩ = false := Lib.frozen_of_heap blk0 0
  obtain ⟨w1, hw1⟩ : ∃ w1, (w.alloc zero34).setCell ⟨F, 0, none⟩ (.int .i32 1) = w1 := ⟨_, rfl⟩
  have blk1 : w1.heap[F]? = some (.cells (netCells 1 ⟨F, P, T, A, lo, hi⟩) 81 (0, 0)) := by rw [← hw1]; exact heap_set_at blk0 _
  have s1 : w1.heap.size = w.heap.size + 1 := by rw [← hw1, ← s0]; simp [World.setCell]
  have k1 : ∀ k, k ≠ F → w1.heap[k]? = (w.alloc zero34).heap[k]? := fun k hk => by rw [← hw1]; exact Below.heap_setCell _ _ _ _ hk
  have e1 : w1.os = w.os ∧ w1.tape = w.tape ∧ w1.output = w.output := by rw [← hw1]; exact ⟨rfl, rfl, rfl⟩
  have oA1 : w1.ownsMap Try.prog 9 heldR A s.n DA := by rw [← hw1]; exact (oA.alloc _).setCell (a := ⟨F, 0, none⟩) n6.symm _
  have c4 : w1.cell? ⟨F, 4, none⟩ = some (.map (some A)) := Lib.cell_of_heap blk1 4
  have l1 := look_int oA1 hu (hA u hu)
  have hkey := keyS hu
  have HO := hide oA1
  have HW1 := hide hw1
  obtain ⟨q, hq⟩ : ∃ q, s.aq u = q := ⟨_, rfl⟩
  have HQ := hide hq
  rw [hq] at l1 hsm hft
  have hq1 : q ≤ 1000000 := by omega
  have hwq : (Lit.int .i64 ((q : Int) + 1)).wf = true := wf_of (n := q + 1) (by omega)
  have HH := hide h
  have HHA := hide hA
  have HOA := hide oA
  have hPu := hP u hu
  have hTu := hT u ((q : Int) + 1) hu hwq
  rw [hft] at hTu
  have HP := hide hPu
  have HT := hide hTu
  have HOP := hide oP
  have HOT := hide oT
  have HK1 := hide k1
  have HE1 := hide e1
  have HFT := hide hft
  have HXX := hide hx
  clear hx h hw1 oA1 hA hP hT hPu hTu oP oT oA k1 e1 hblk blk0 hq hft
  go_enter_defers Try.func10, Try.ntmps10
  go_wp2_with (go_at_call 30; fail)
  refine (lock_free Try.muLib ⟨F, 0, none⟩ _ c0 f0).mono ?_
  rintro e w' ⟨rfl, hw⟩
  rw [hw, unhide HW1]; clear hw w' c0 f0
  go_wp2_with (first
    | (at_mapUpdate; refine wpList_mapUpdate_in _ rfl _ _ _ 72 rfl 9 3 lawS Try.underlying72 heldR A s.n DA rfl (unhide HO) (by unfold maxLen; omega) _ _ _ rfl rfl hkey _ [] rfl ?_; intro w2 hown2 hturn2)
    | (go_at_call 32; fail))
  have g2 := hturn2.grown
  have s2 : w2.heap.size = w.heap.size + 1 := (turned_size hturn2).trans s1
  have blk2 : w2.heap[F]? = some (.cells (netCells 1 ⟨F, P, T, A, lo, hi⟩) 81 (0, 0)) := (g2.block F (by omega) (by simpa using n6)).trans blk1
  have k2 : ∀ k, k < w.heap.size → k ≠ F → k ≠ A → w2.heap[k]? = w.heap[k]? := fun k h1 h2 h3 => (g2.block k (by omega) (by simpa using h3)).trans (((unhide HK1) k h2).trans (b0.block k h1))
  have r2 : w2.heap[w.heap.size]? = some (.cells #[.int .i64 0, .slice none 0 0, .int .i64 0] 34 (0, 0)) := (g2.block w.heap.size (by omega) (by simp; omega)).trans (((unhide HK1) w.heap.size (by omega)).trans (heap_new w _))
  have p2 : w2.cell? ⟨F, 2, none⟩ = some (.map (some P)) := Lib.cell_of_heap blk2 2
  have HON := hide (honest_any p2 (own_same (unhide HOP) (k2 P (by omega) n4.symm n1)) hu ((unhide HP).keep (fun k h1 h2 => k2 k (by omega) (by omega) (by omega))))
  have HO2 := hide hown2
  have oT2 := own_same (unhide HOT) (k2 T (by omega) n5.symm n3)
  have HOT2 := hide oT2
  have HG2 := hide g2
  have HK2 := hide k2
  clear hown2 hturn2 g2 k2 oT2 l1 c4 HO
  refine (unhide HON).mono ?_
  rintro e w3 ⟨v, rfl, ⟨a, c, rfl, hrow, hlen⟩, b3⟩
  rw [unhide HXX] at hrow hlen
  simp only [unhide HXX]
  obtain ⟨st, l, tk⟩ := x
  simp only at hrow hlen ⊢
  obtain ⟨m, hm⟩ : ∃ m, l.length = m := ⟨_, rfl⟩
  have HM := hide hm
  rw [hm] at hrow hlen ⊢
  have s3 := b3.size
  have blk3 : w3.heap[F]? = some (.cells (netCells 1 ⟨F, P, T, A, lo, hi⟩) 81 (0, 0)) := (b3.block F (by omega)).trans blk2
  have r3 : w3.heap[w.heap.size]? = some (.cells #[.int .i64 0, .slice none 0 0, .int .i64 0] 34 (0, 0)) := (b3.block _ (by omega)).trans r2
  obtain ⟨w4, hw4⟩ : ∃ w4, w3.alloc (.cells #[.int .i64 st, .slice a m c, .int .i64 tk] 34) = w4 := ⟨_, rfl⟩
  have a4 : ∀ k, k < w3.heap.size → w4.heap[k]? = w3.heap[k]? := fun k hk => by rw [← hw4]; exact (World.grownBy_alloc w3 _ none).block k hk (by simp)
  have s4 : w4.heap.size = w3.heap.size + 1 := by rw [← hw4]; show (w3.heap.push _).size = _; simp
  have blk4 : w4.heap[F]? = some (.cells (netCells 1 ⟨F, P, T, A, lo, hi⟩) 81 (0, 0)) := (a4 F (by omega)).trans blk3
  have r4 : w4.heap[w.heap.size]? = some (.cells #[.int .i64 0, .slice none 0 0, .int .i64 0] 34 (0, 0)) := (a4 _ (by omega)).trans r3
  have h4 : w4.heap[w3.heap.size]? = some (.cells #[.int .i64 st, .slice a m c, .int .i64 tk] 34 (0, 0)) := by rw [← hw4]; exact heap_new w3 _
  have c43 : w4.cell? ⟨F, 3, none⟩ = some (.map (some T)) := Lib.cell_of_heap blk4 3
  have c44 : w4.cell? ⟨F, 4, none⟩ = some (.map (some A)) := Lib.cell_of_heap blk4 4
  obtain ⟨⟨d0, d1, d2⟩, _⟩ := three_cells h4
  obtain ⟨⟨t0, t1, t2⟩, g0, g1, g3⟩ := three_cells r4
  have oA4 : w4.ownsMap Try.prog 9 heldR A (s.n + 1) (DA.put (.string u.data.toList) (.held (.int .i64 ((q : Int) + 1)))) := own_same (unhide HO2) ((a4 A (by omega)).trans (b3.block A (by omega)))
  have oT4 : w4.ownsMap Try.prog 87 heldR T s.n DT := own_same (unhide HOT2) ((a4 T (by omega)).trans (b3.block T (by omega)))
  have lA : ∀ nq, (Instr.lookup 72 (.map (some A)) (.string u) false).run Try.prog (w4.drewN nq) = .ok (.int .i64 ((q : Int) + 1)) (w4.drewN nq) := fun nq =>
    look_int (w := w4.drewN nq) (own_same oA4 rfl) hu (by rw [atKey_put_same (unhide HOA).isMap (lawS.key hkey)])
  obtain ⟨fv, hE, hh, hat⟩ := (unhide HT)
  have hE4 := hE.keep (w' := w4) (fun k h1 h2 => ((a4 k (by omega)).trans (b3.block k (by omega))).trans ((unhide HK2) k (by omega) (by omega) (by omega)))
  obtain ⟨b, rfl⟩ : ∃ b, fv = .func (.func 54) #[] #[.pointer (some ⟨b, 0, none⟩)] := by
    rcases hef with ⟨k, rfl⟩ | ⟨k, rfl⟩ | ⟨k, rfl⟩
    · obtain ⟨b, _, _, _, _, _, e, _⟩ := hE4; exact ⟨b, e⟩
    · obtain ⟨b, _, _, _, _, _, e, _⟩ := hE4; exact ⟨b, e⟩
    · obtain ⟨b, _, _, _, _, _, e, _⟩ := hE4; exact ⟨b, e⟩
  have lT : ∀ nq, (Instr.lookup 71 (.map (some T)) (.agg #[.string u, .int .i64 ((q : Int) + 1)]) true).run Try.prog (w4.drewN nq) = .ok (.tuple #[.func (.func 54) #[] #[.pointer (some ⟨b, 0, none⟩)], .bool true]) (w4.drewN nq) := fun nq =>
    look_fault (w := w4.drewN nq) (own_same oT4 rfl) hu hwq hh (hat _)
  have hb4 : w.heap.size + 1 ≤ w4.heap.size := by omega
  have hrow4 : w4.ownsRow (w.heap.size + 1) 5 1 (.slice a l.length c) l.length (bytesV l) := by
    rw [hm]
    exact row_up (row_same hrow (fun k hk => a4 k (hrow.lt k hk).2)) (by omega)
  have hlen : l.length ≤ 1099511627776 := by rw [hm]; exact hlen
  have HDO : Hid (∀ nq, Calls Try.prog 54 #[.agg #[.int .i64 st, .slice a l.length c, .int .i64 tk], .pointer (some ⟨b, 0, none⟩)] (w4.drewN nq) fun e' w' => ∃ v', e' = .returned v' ∧ AnsAt (w.heap.size + 1) w' v' (befall ef ⟨st, l, tk⟩) ∧ Below (w.heap.size + 1) (w4.drewN nq) w') := by
    intro nq
    exact do54 (w := w4.drewN nq) (x := ⟨st, l, tk⟩) (hE4.keep (fun _ _ _ => rfl)) rfl ⟨a, c, rfl, hrow4, hlen⟩ hb4
  rw [hm] at HDO
  obtain ⟨y, hy⟩ : ∃ y, befall ef ⟨st, l, tk⟩ = y := ⟨_, rfl⟩
  rw [hy] at HDO HX
  have HB3 := hide b3
  have HW4 := hide hw4
  have HBLK4 := hide blk4
  have HR4 := hide r4
  have HOA4 := hide oA4
  have HA4 := hide a4
  clear hy hrow hlen hm b3 blk2 blk3 r2 r3 blk4 r4 h4 oA4 oT4 a4 hw4 p2 HON hrow4 hE hh hat hE4
  go_wp2
  rw [unhide HW4]
  go_quiet (fail)
  go_wp2_with (go_at_call 54; fail)
  refine ((unhide HDO) nq).mono ?_
  rintro e w7 ⟨v', rfl, ⟨a', c', rfl, hrow, hlen⟩, b7⟩
  obtain ⟨yst, yl, ytk⟩ := y
  simp only at hrow hlen ⊢
  obtain ⟨m', hm'⟩ : ∃ m', yl.length = m' := ⟨_, rfl⟩
  have HM' := hide hm'
  rw [hm'] at hrow hlen ⊢
  have s7 : w4.heap.size ≤ w7.heap.size := b7.size
  have r7 : w7.heap[w.heap.size]? = some (.cells #[.int .i64 0, .slice none 0 0, .int .i64 0] 34 (0, 0)) := (b7.block w.heap.size (by omega)).trans (unhide HR4)
  have blk7 : w7.heap[F]? = some (.cells (netCells 1 ⟨F, P, T, A, lo, hi⟩) 81 (0, 0)) := (b7.block F (by omega)).trans (unhide HBLK4)
  have oA7 : w7.ownsMap Try.prog 9 heldR A (s.n + 1) (DA.put (.string u.data.toList) (.held (.int .i64 ((q : Int) + 1)))) := own_same (unhide HOA4) (b7.block A (by omega))
  obtain ⟨⟨y0, y1, y2⟩, yg0, yg1, yg2⟩ := three_cells r7
  have HROW := hide hrow
  have HLEN := hide hlen
  have HB7 := hide b7
  have HR7 := hide r7
  have HBLK7 := hide blk7
  have HOA7 := hide oA7
  clear hrow hlen hm' b7 r7 blk7 oA7
  go_wp2
  obtain ⟨w5, hw5⟩ : ∃ w5, ((w7.setCell ⟨w.heap.size, 0, none⟩ (.int .i64 yst)).setCell ⟨w.heap.size, 1, none⟩ (.slice a' m' c')).setCell ⟨w.heap.size, 2, none⟩ (.int .i64 ytk) = w5 := ⟨_, rfl⟩
  have k5 : ∀ k, k ≠ w.heap.size → w5.heap[k]? = w7.heap[k]? := fun k hk => by rw [← hw5]; exact other_three (w := w7) hk _ _ _
  have r5 : w5.heap[w.heap.size]? = some (.cells #[.int .i64 yst, .slice a' m' c', .int .i64 ytk] 34 (0, 0)) := by rw [← hw5]; exact set_three (w := w7) (unhide HR7) _ _ _
  have s5 : w5.heap.size = w7.heap.size := by rw [← hw5]; simp [World.setCell]
  have e5 : w5.os = w7.os ∧ w5.tape = w7.tape ∧ w5.output = w7.output := by rw [← hw5]; exact ⟨rfl, rfl, rfl⟩
  have blk5 : w5.heap[F]? = some (.cells (netCells 1 ⟨F, P, T, A, lo, hi⟩) 81 (0, 0)) := (k5 F (by omega)).trans (unhide HBLK7)
  rw [hw5]
  clear hw5
  refine leaves_cons (f := 31) (args := #[.pointer (some ⟨F, 0, none⟩)]) (by simp) (by simp [go_sem]) ?_
  refine (unlock_deferred Try.muLib ⟨F, 0, none⟩ .returning _ (Lib.cell_of_heap blk5 0) (Lib.frozen_of_heap blk5 0)).mono ?_
  rintro e u' w6 ⟨rfl, rfl, hw6⟩
  have blk6 : w6.heap[F]? = some (.cells (netCells 0 ⟨F, P, T, A, lo, hi⟩) 81 (0, 0)) := by rw [hw6]; exact heap_set_at blk5 _
  have k6 : ∀ k, k ≠ F → w6.heap[k]? = w5.heap[k]? := fun k hk => by rw [hw6]; exact Below.heap_setCell _ _ _ _ hk
  have s6 : w6.heap.size = w5.heap.size := by rw [hw6]; simp [World.setCell]
  have e6 : w6.os = w5.os ∧ w6.tape = w5.tape ∧ w6.output = w5.output := by rw [hw6]; exact ⟨rfl, rfl, rfl⟩
  have r6 := (k6 w.heap.size (by omega)).trans r5
  obtain ⟨⟨z0, z1, z2⟩, _⟩ := three_cells r6
  have b3 := unhide HB3
  have b7 := unhide HB7
  have e7 : w7.os = w4.os ∧ w7.tape = w4.tape ∧ w7.output = w4.output := ⟨b7.os, b7.tape, b7.output⟩
  have hlow : ∀ k, k < w.heap.size → k ≠ F → k ≠ A → w6.heap[k]? = w.heap[k]? := fun k h1 h2 h3 => (k6 k h2).trans ((k5 k (by omega)).trans ((b7.block k (by omega)).trans (((unhide HA4) k (by omega)).trans ((b3.block k (by omega)).trans ((unhide HK2) k h1 h2 h3)))))
  have e3 : w3.os = w2.os ∧ w3.tape = w2.tape ∧ w3.output = w2.output := ⟨b3.os, b3.tape, b3.output⟩
  have e4 : w4.os = w3.os ∧ w4.tape = w3.tape ∧ w4.output = w3.output := by rw [← unhide HW4]; exact ⟨rfl, rfl, rfl⟩
  have g2 := unhide HG2
  have e1 := unhide HE1
  refine ⟨.agg #[.int .i64 yst, .slice a' m' c', .int .i64 ytk], by simp [results, Try.results10, go_sem, z0, z1, z2], _, rfl, ?_, ?_, ?_⟩
  · rw [unhide HX]
    refine ⟨a', c', by simp only [unhide HM'], ?_, by simp only [unhide HM']; exact unhide HLEN⟩
    simp only [unhide HM']
    refine row_up (row_same (unhide HROW) (fun k hk => ?_)) (by omega)
    have h1 := (unhide HROW).lt k hk
    exact (k6 k (by omega)).trans (k5 k (by omega))
  · refine rep_get (unhide HH) hu (unhide HOA) (unhide HHA) blk6 ?_ hlow (by omega)
    simp only [unhide HQ]
    exact own_same (unhide HOA7) ((k6 A (fun e => n6 e.symm)).trans (k5 A (by omega)))
  · exact ⟨(e6.1.trans (e5.1.trans (e7.1.trans (e4.1.trans (e3.1.trans (g2.os.trans e1.1)))))), (e6.2.1.trans (e5.2.1.trans (e7.2.1.trans (e4.2.1.trans (e3.2.1.trans (g2.tape.trans e1.2.1)))))), (e6.2.2.trans (e5.2.2.trans (e7.2.2.trans (e4.2.2.trans (e3.2.2.trans (g2.output.trans e1.2.2)))))), by omega, hlow⟩

theorem get_any {w : World} {G : Gh} {s : St} {u : ByteArray} (h : Rep w G s) (hn : s.n ≤ 1000000) (hu : u.size ≤ maxLen) :
    Calls Try.prog 10 #[.pointer (some ⟨G.F, 0, none⟩), .string u] w fun e w' => ∃ v, e = .returned v ∧ AnsAt w.heap.size w' v (getR s u) ∧ Rep w' G (getS s u) ∧ Fr G w w' := by
  cases hft : s.ft u ((s.aq u : Int) + 1) with
  | none => exact get_none h hn hu hft
  | some e =>
    cases e with
    | tell z => exact get_tell h hn hu hft
    | forge z => exact get_forge h hn hu hft
    | cut k => exact get_in h hn hu hft (Or.inl ⟨k, rfl⟩)
    | flip k => exact get_in h hn hu hft (Or.inr (Or.inl ⟨k, rfl⟩))
    | late k => exact get_in h hn hu hft (Or.inr (Or.inr ⟨k, rfl⟩))

end Go.Proofs.Ytmbcjdlpdibalaa
