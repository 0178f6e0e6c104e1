/-
  Set.
-/
import Derived.Test.YtmbcjdlpdibalaaNet
import Derived.Deep.RegionHeld3
import Derived.Deep.RegionWith
import Derived.BigQuiet
namespace Go.Proofs.Ytmbcjdlpdibalaa
open Go.RowKit Go.WideMaps Go.Maps Go.MuLone

def validB (u : ByteArray) : Bool := !(u.toList == []) && decide (u.size ≤ 400)

theorem valid_any {u : ByteArray} (hu : u.size ≤ 9223372036854775807) (w : World) : Calls Try.prog 38 #[.string u] w fun e w' => e = .returned (.bool (validB u)) ∧ w' = w := by
  cases h : (u.toList == []) with
  | true =>
    have HV : Hid (validB u = false) := by show validB u = false; unfold validB; rw [h]; rfl
    have h2 : u.toList = [] := by simpa using h
    have h3 : u.toList.isEmpty = true := by rw [h2]; rfl
    go_enter Try.func38, Try.ntmps38
    go_wp2
    go_ret
    exact ⟨ret_bool (unhide HV).symm, rfl⟩
  | false =>
    have HV : Hid (validB u = decide (u.size ≤ 400)) := by show validB u = _; unfold validB; rw [h]; rfl
    have h3 : u.toList.isEmpty = false := by simpa [List.isEmpty_iff] using h
    go_enter Try.func38, Try.ntmps38
    go_wp2
    go_ret
    exact ⟨ret_bool (by rw [unhide HV]; simp; omega), rfl⟩

theorem valid_is {u : ByteArray} {b : Bool} (h : validB u = b) (hu : u.size ≤ 9223372036854775807) (w : World) : Calls Try.prog 38 #[.string u] w fun e w' => e = .returned (.bool b) ∧ w' = w := by rw [← h]; exact valid_any hu w

theorem set_bad {F : Nat} {u : ByteArray} {a : Option Addr} {n c : Nat} (h : validB u = false) (hu : u.size ≤ 9223372036854775807) (w : World) :
    Calls Try.prog 21 #[.pointer (some ⟨F, 0, none⟩), .string u, .slice a n c] w fun e w' => e = .returned (.int .i64 13) ∧ w' = w := by
  go_enter_defers Try.func21, Try.ntmps21
  go_wp2_with (go_at_call 38; fail)
  refine (valid_is h hu w).mono ?_
  rintro e w1 ⟨rfl, hw⟩
  rw [hw]; clear hw w1
  go_wp2
  exact ⟨_, results_tmp rfl _ _ _, rfl, rfl⟩

def setS (s : St) (u : ByteArray) (l : List UInt8) : St := { s with pg := fun v => if v = u then some l else s.pg v, n := s.n + 1 }

/-- All but these two blocks is as it was. -/
structure Fr2 (F P : Nat) (w w' : World) : Prop where
  os : w'.os = w.os
  tape : w'.tape = w.tape
  output : w'.output = w.output
  size : w.heap.size ≤ w'.heap.size
  block : ∀ k, k < w.heap.size → k ≠ F → k ≠ P → w'.heap[k]? = w.heap[k]?

/-- What holds while a page is laid. -/
abbrev HeldP (F P : Nat) (W wq : World) : Prop := wq.cell? ⟨F, 2, none⟩ = some (.map (some P)) ∧ Below W.heap.size W wq

theorem heldP_drew {F P : Nat} {W wq : World} (h : HeldP F P W wq) : HeldP F P W wq.drew := ⟨h.1, h.2.drew⟩

theorem clone_held {F P N n c : Nat} {W wq : World} {D : DataW Value} {u : ByteArray} {a : Option Addr} {l : List UInt8} (hF : F < W.heap.size) (hl : Bytes W a n l) (hnl : n ≤ 1099511627776) (hown : W.ownsMap Try.prog 9 heldR P N D) (hN : N < maxLen) (hu : u.size ≤ maxLen) (hS : HeldP F P W wq) :
    Calls Try.prog 39 #[.slice a n c] wq fun e w' => ∃ a' c', e = .returned (.slice a' n c') ∧ HeldP F P W w' ∧ w'.ownsRow W.heap.size 5 1 (.slice a' n c') n (bytesV l) ∧
      ∃ w3, (Instr.mapUpdate 70 (.map (some P)) (.string u) (.slice a' n c')).run Try.prog w' = .ok () w3 ∧ w3.ownsMap Try.prog 9 heldR P (N + 1) (D.put (.string u.data.toList) (.held (.slice a' n c'))) ∧ w'.mapTurned w3 P := by
  obtain ⟨h1, h2⟩ := hS
  have hP := hown.lt
  refine (clone_any c (bytes_below hl h2) (by omega)).mono ?_
  rintro e w' ⟨a', c', rfl, ho, hb⟩
  have hb' := below_trans h2 hb
  have own' : w'.ownsMap Try.prog 9 heldR P N D := own_same hown (hb'.block P hP)
  obtain ⟨w3, r, o3, t3⟩ := own'.store lawS Try.underlying70 hN (keyS hu) (val := .slice a' n c') rfl
  exact ⟨a', c', rfl, ⟨(hb.cell (p := ⟨F, 2, none⟩) (Nat.lt_of_lt_of_le hF h2.size)).trans h1, hb'⟩, row_up ho h2.size, w3, r, o3, t3⟩

/-- Where a page has been laid and the lock is held. -/
structure SetDone (G : Gh) (s : St) (u : ByteArray) (l : List UInt8) (w w3 : World) : Prop where
  own : ∃ D a c, w.ownsMap Try.prog 9 heldR G.P s.n D ∧ (∀ v : ByteArray, v.size ≤ maxLen → PageAt G.lo G.hi w D v (s.pg v)) ∧ w3.ownsMap Try.prog 9 heldR G.P (s.n + 1) (D.put (.string u.data.toList) (.held (.slice a l.length c))) ∧ w3.ownsRow w.heap.size 5 1 (.slice a l.length c) l.length (bytesV l) ∧ l.length ≤ 1099511627776
  size : w.heap.size ≤ w3.heap.size
  block : ∀ k, k < w.heap.size → k ≠ G.F → k ≠ G.P → w3.heap[k]? = w.heap[k]?
  os : w3.os = w.os ∧ w3.tape = w.tape ∧ w3.output = w.output

theorem set_end {G : Gh} {s : St} {u : ByteArray} {l : List UInt8} {w w3 w6 : World} (h : Rep w G s) (b3 : w3.heap[G.F]? = some (.cells (netCells 1 G) 81 (0, 0))) (hd : SetDone G s u l w w3) (hw6 : w6 = w3.setCell ⟨G.F, 0, none⟩ (.int .i32 0)) :
    Rep w6 { G with hi := w6.heap.size } (setS s u l) ∧ Fr2 G.F G.P w w6 := by
  obtain ⟨o1, o2, o3, o4, o5, o6⟩ := h.ord
  obtain ⟨n1, n2, n3, n4, n5, n6⟩ := h.ne
  have blk6 : w6.heap[G.F]? = some (.cells (netCells 0 G) 81 (0, 0)) := by rw [hw6]; exact heap_set_at b3 _
  have k6 : ∀ k, k ≠ G.F → w6.heap[k]? = w3.heap[k]? := fun k hk => by rw [hw6]; exact Below.heap_setCell _ _ _ _ hk
  have s6 : w6.heap.size = w3.heap.size := by rw [hw6]; simp [World.setCell]
  have e6 : w6.os = w3.os ∧ w6.tape = w3.tape ∧ w6.output = w3.output := by rw [hw6]; exact ⟨rfl, rfl, rfl⟩
  have hsz := hd.size
  have hlow : ∀ k, k < w.heap.size → k ≠ G.F → k ≠ G.P → w6.heap[k]? = w.heap[k]? := fun k h1 h2 h3 => (k6 k h2).trans (hd.block k h1 h2 h3)
  have hC : ∀ k, G.lo ≤ k → k < G.hi → w6.heap[k]? = w.heap[k]? := fun k h1 h2 => hlow k (by omega) (by omega) (by omega)
  refine ⟨?_, ⟨e6.1.trans hd.os.1, e6.2.1.trans hd.os.2.1, e6.2.2.trans hd.os.2.2, by omega, hlow⟩⟩
  obtain ⟨D, a, c, own0, hP, own, row, hl⟩ := hd.own
  obtain ⟨DT, oT, hT⟩ := h.faults
  obtain ⟨DA, oA, hA⟩ := h.asked
  refine ⟨blk6, ⟨_, own_same own (k6 G.P (fun e => n4 e.symm)), fun v hv => ?_⟩, ⟨DT, (own_same oT (hlow _ (by omega) (fun e => n5 e.symm) (fun e => n2 e.symm))).mono (by show s.n ≤ s.n + 1; omega), fun v k hv hk => ?_⟩, ⟨DA, (own_same oA (hlow _ (by omega) (fun e => n6 e.symm) (fun e => n1 e.symm))).mono (by show s.n ≤ s.n + 1; omega), hA⟩, fun v => Nat.le_trans (h.small v) (by show s.n ≤ s.n + 1; omega), ⟨o1, o2, o3, o4, by show G.lo ≤ w6.heap.size; omega, Nat.le_refl _⟩, h.ne⟩
  · by_cases e : v = u
    · subst e
      have e1 : (setS s v l).pg v = some l := by simp [setS]
      rw [e1]
      have hk := lawS.key (keyS hv)
      obtain ⟨q1, q2, q3, q4⟩ := row_bytes row
      have hrow6 : Bytes w6 a l.length l := ⟨q1.len, q1.nil, fun ad ha i hi => by
        obtain ⟨g, rfl, g1, g2⟩ := q4 ad ha
        have := q1.cell _ ha i hi
        rw [WideShapes.add_plain] at this ⊢
        exact cell_same (a := ⟨g, 0 + i, none⟩) (k6 g (by omega)) this⟩
      refine ⟨has_put_same own0.isMap hk _, a, l.length, c, fun z => atKey_put_same own0.isMap hk _ z, hrow6, hl, fun ad ha => ?_⟩
      obtain ⟨g, rfl, g1, g2⟩ := q4 ad ha
      exact ⟨by show G.lo ≤ g; omega, by show g < w6.heap.size; omega⟩
    · have e1 : (setS s u l).pg v = s.pg v := by simp [setS, e]
      rw [e1]
      have hne : (Lit.string v.data.toList) ≠ .string u.data.toList := fun e2 => e (str_inj (by simpa using e2))
      have hp := (hP v hv).keep hC
      cases hr : s.pg v with
      | none =>
        rw [hr] at hp
        show Maps.has _ _ = false
        rw [has_put_other hne]
        exact hp
      | some m =>
        rw [hr] at hp
        obtain ⟨h1, a', n', c', h2, h3, h4, h5⟩ := hp
        exact ⟨by rw [has_put_other hne]; exact h1, a', n', c', fun z => by rw [atKey_put_other hne]; exact h2 z, h3, h4, fun ad ha => by have := h5 ad ha; exact ⟨this.1, by show ad.block < w6.heap.size; omega⟩⟩
  · have hf := (hT v k hv hk).keep hC
    have e1 : (setS s u l).ft v k = s.ft v k := rfl
    rw [e1]
    cases hr : s.ft v k with
    | none => rw [hr] at hf; exact hf
    | some e => rw [hr] at hf; obtain ⟨fv, f1, f2⟩ := hf; exact ⟨fv, f1.wide (Nat.le_refl _) (by show G.hi ≤ w6.heap.size; omega), f2⟩

set_option maxHeartbeats 2000000 in
set_option maxRecDepth 100000 in
theorem set_ok {w : World} {G : Gh} {s : St} {u : ByteArray} {a : Option Addr} {n c : Nat} {l : List UInt8} (h : Rep w G s) (hn : s.n ≤ 1000000) (hv : validB u = true) (hu : u.size ≤ maxLen) (hl : Bytes w a n l) (hnl : n ≤ 1099511627776) (hne : ∀ ad, a = some ad → 0 < n → ad.block ≠ G.F) :
    Calls Try.prog 21 #[.pointer (some ⟨G.F, 0, none⟩), .string u, .slice a n c] w fun e w' => e = .returned (.int .i64 0) ∧ Rep w' { G with hi := w'.heap.size } (setS s u l) ∧ Fr2 G.F G.P w w' := by
  obtain ⟨F, P, T, A, lo, hi⟩ := G
  obtain ⟨DP, oP, hP⟩ := h.pages
  obtain ⟨o1, o2, o3, o4, o5, o6⟩ := h.ord
  obtain ⟨n1, n2, n3, n4, n5, n6⟩ := h.ne
  simp only at o1 o2 o3 o4 o5 o6 n1 n2 n3 n4 n5 n6 oP
  have hblk : w.heap[F]? = some (.cells (netCells 0 ⟨F, P, T, A, lo, hi⟩) 81 (0, 0)) := h.blk
  have c0 : w.cell? ⟨F, 0, none⟩ = some (.int .i32 0) := Lib.cell_of_heap hblk 0
  have f0 : w.frozen? ⟨F, 0, none⟩ = false := Lib.frozen_of_heap hblk 0
  obtain ⟨w1, hw1⟩ : ∃ w1, w.setCell ⟨F, 0, none⟩ (.int .i32 1) = w1 := ⟨_, rfl⟩
  have blk1 : w1.heap[F]? = some (.cells (netCells 1 ⟨F, P, T, A, lo, hi⟩) 81 (0, 0)) := by rw [← hw1]; exact heap_set_at hblk _
  have s1 : w1.heap.size = w.heap.size := by rw [← hw1]; simp [World.setCell]
  have k1 : ∀ k, k ≠ F → w1.heap[k]? = w.heap[k]? := fun k hk => by rw [← hw1]; exact Below.heap_setCell _ _ _ _ hk
  have oP1 : w1.ownsMap Try.prog 9 heldR P s.n DP := own_same oP (k1 P n4.symm)
  have c2 : w1.cell? ⟨F, 2, none⟩ = some (.map (some P)) := Lib.cell_of_heap blk1 2
  have hl1 : Bytes w1 a n l := ⟨hl.len, hl.nil, fun ad ha i hi => by
    have hb : (ad.add i).block = ad.block := by first | rfl | (simp [Addr.add]; done) | (unfold Addr.add; split <;> rfl)
    exact cell_same (a := ad.add i) (k1 _ (by rw [hb]; exact hne ad ha (by omega))) (hl.cell ad ha i hi)⟩
  have HL1 := hide hl1
  have HOP := hide oP
  have HHP := hide hP
  have HK1 := hide k1
  have HE1 : Hid (w1.os = w.os ∧ w1.tape = w.tape ∧ w1.output = w.output) := by rw [← hw1]; exact ⟨rfl, rfl, rfl⟩
  have HOP1 := hide oP1
  have hF1 : F < w1.heap.size := by omega
  have hNm : s.n < maxLen := by unfold maxLen; omega
  have hS1 : HeldP F P w1 w1 := ⟨c2, Below.refl _ _⟩
  have HH := hide h
  have HV := hide (fun w => valid_is hv (by unfold maxLen at hu; omega) w)
  have HW1 := hide hw1
  clear h hw1 hl hl1 hv hP k1 oP oP1 hblk
  go_enter_defers Try.func21, Try.ntmps21
  go_wp2_with (go_at_call 38; fail)
  refine ((unhide HV) w).mono ?_
  rintro e w0 ⟨rfl, hw⟩
  rw [hw]; clear hw w0
  go_wp2_with (go_at_call 30; fail)
  refine (lock_free Try.muLib ⟨F, 0, none⟩ _ c0 f0).mono ?_
  rintro e w' ⟨rfl, hw⟩
  rw [hw, unhide HW1]; clear hw w' c0 f0
  go_wp2
  refine wp_region_noPanic ?_
  go_region_with (first
      | (go_at_call 39; refine (clone_held (u := u) hF1 (unhide HL1) hnl (unhide HOP1) hNm hu (heldP_drew hS1)).mono ?_; rintro e w2 ⟨a', c', rfl, ⟨hc9, hb9⟩, ho2, w3, hrun, o3, t3⟩))
  all_goals
    refine NoPanic.normal ?_
    have g3 := t3.grown
    have s2 := hb9.size
    have s3 := turned_size t3
    have b3 : w3.heap[F]? = some (.cells (netCells 1 ⟨F, P, T, A, lo, hi⟩) 81 (0, 0)) := (g3.block F (by omega) (by simpa using n4)).trans ((hb9.block F hF1).trans blk1)
    have HDONE : Hid (SetDone ⟨F, P, T, A, lo, hi⟩ s u l w w3) := by
      have e1 := unhide HE1
      have hlen : n = l.length := (unhide HL1).len
      refine ⟨⟨DP, a', c', unhide HOP, unhide HHP, ?_, ?_, by omega⟩, by omega, fun k h1 h2 h3 => (g3.block k (by omega) (by simpa using h3)).trans ((hb9.block k (by omega)).trans ((unhide HK1) k h2)), g3.os.trans (hb9.os.trans e1.1), g3.tape.trans (hb9.tape.trans e1.2.1), g3.output.trans (hb9.output.trans e1.2.2)⟩
      · rw [← hlen]; exact o3
      · rw [← hlen]
        refine row_up (row_same ho2 (fun k hk => ?_)) (by omega)
        have := ho2.lt k hk
        exact g3.block k this.2 (by simp; omega)
    clear hc9 hb9 ho2 hrun o3 t3 g3 s2 s3
    go_wp2
    refine leaves_cons (f := 31) (args := #[.pointer (some ⟨F, 0, none⟩)]) (by simp) (by simp [go_sem]) ?_
    refine (unlock_deferred Try.muLib ⟨F, 0, none⟩ .returning _ (Lib.cell_of_heap b3 0) (Lib.frozen_of_heap b3 0)).mono ?_
    rintro e u' w6 ⟨rfl, rfl, hw6⟩
    exact ⟨_, results_tmp rfl _ _ _, rfl, set_end (unhide HH) b3 (unhide HDONE) hw6⟩

end Go.Proofs.Ytmbcjdlpdibalaa
