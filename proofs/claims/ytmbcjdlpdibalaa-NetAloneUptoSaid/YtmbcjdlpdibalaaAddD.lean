/-
  Add: the walk where the kind is known.
-/
import Derived.Test.YtmbcjdlpdibalaaAddC
namespace Go.Proofs.Ytmbcjdlpdibalaa
open Go.RowKit Go.WideMaps Go.Maps Go.MuLone

set_option maxHeartbeats 4000000 in
set_option maxRecDepth 100000 in
theorem add_in {w : World} {G : Gh} {s : St} {u : ByteArray} {k kd : Int} {m : Nat} {a : Option Addr} {n c : Nat} {l : List UInt8} {ef : Eff} (h : Rep w G s) (hn : s.n ≤ 1000000) (hv : validB u = true) (hu : u.size ≤ maxLen) (hkd : (Lit.int .i64 kd).wf = true) (hef : effOf kd m l = some ef) (hk1 : 1 ≤ k) (hkw : (Lit.int .i64 k).wf = true) (hm : m ≤ 9223372036854775807) (hl : Bytes w a n l) (hnl : n ≤ 1099511627776) (hne : ∀ ad, a = some ad → 0 < n → ad.block ≠ G.F) :
    Calls Try.prog 24 #[.pointer (some ⟨G.F, 0, none⟩), .agg #[.string u, .int .i64 k, .int .i64 kd, .int .i64 (m : Int), .slice a n c]] w fun e w' =>
      (s.ft u k ≠ none ∧ e = .returned (.int .i64 3) ∧ Below w.heap.size w w') ∨ (s.ft u k = none ∧ e = .returned (.int .i64 0) ∧ Rep w' { G with hi := w'.heap.size } (addS s u k ef) ∧ Fr2 G.F G.T w w') := by
  have hk : ∀ B, ∃ any i cap, kindOf B kd = some (any, i, cap) := by
    intro B
    have h1 := kind_eff B kd m l
    rw [hef] at h1
    cases hq : kindOf B kd with
    | none => rw [hq] at h1; cases h1
    | some x => exact ⟨x.1, x.2.1, x.2.2, rfl⟩
  have HK0 := hide hk
  obtain ⟨F, P, T, A, lo, hi⟩ := G
  obtain ⟨o1, o2, o3, o4, o5, o6⟩ := h.ord
  obtain ⟨n1, n2, n3, n4, n5, n6⟩ := h.ne
  simp only at o1 o2 o3 o4 o5 o6 n1 n2 n3 n4 n5 n6 hne
  have HR := hide h
  have HL := hide hl
  clear h hl
  have hkn : ¬ k < 1 := by omega
  have b0 : Below w.heap.size w (box50 w u k kd (m : Int) (.slice a n c)) := (Below.refl _ _).alloc (Nat.le_refl _) _
  obtain ⟨W0, hW0⟩ : ∃ W0, box50 w u k kd (m : Int) (.slice a n c) = W0 := ⟨_, rfl⟩
  have s0 : W0.heap.size = w.heap.size + 1 := by rw [← hW0]; show (w.heap.push _).size = _; simp
  have blk0 : W0.heap[w.heap.size]? = some (.cells #[.string u, .int .i64 k, .int .i64 kd, .int .i64 (m : Int), .slice a n c] 50 (0, 0)) := by rw [← hW0]; exact heap_new w _
  have kc : W0.cell? ⟨w.heap.size, 2, none⟩ = some (.int .i64 kd) := Lib.cell_of_heap blk0 2
  rw [hW0] at b0
  have HW0 := hide hW0
  have HV := hide (valid_is hv (by unfold maxLen at hu; omega) (box50 w u k kd (m : Int) (.slice a n c)))
  have HS0 := hide s0
  have HKN := hide (kinds_some (W := W0.drew) (B := w.heap.size + 1) (x := w.heap.size) s0 (by omega) hkd hk kc blk0)
  have s0' : (W0.alloc z96).drew.heap.size = w.heap.size + 2 := by show (W0.heap.push _).size = _; simp [s0]
  have kc' : (W0.alloc z96).drew.cell? ⟨w.heap.size, 2, none⟩ = some (.int .i64 kd) := cell_same (w := W0) (a := ⟨w.heap.size, 2, none⟩) ((World.grownBy_alloc W0 z96 none).block w.heap.size (by omega) (by simp)) kc
  have HKN2 := hide (kinds_some (W := (W0.alloc z96).drew) (B := w.heap.size + 2) (x := w.heap.size) s0' (by omega) hkd hk kc' (((World.grownBy_alloc W0 z96 none).block w.heap.size (by omega) (by simp)).trans blk0))
  have HZ : Hid ((W0.alloc z96).drew.heap[w.heap.size + 1]? = some z96) := by rw [← s0]; exact heap_new W0 _
  have HB0 := hide b0
  have HS0' := hide s0'
  clear b0 s0' kc' hW0 hk hv blk0
  go_enter_defers Try.func24, Try.ntmps24
  go_wp2_with (go_at_call 38; fail)
  refine (unhide HV).mono ?_
  rintro e w1 ⟨rfl, hw⟩
  rw [hw, unhide HW0]; clear hw w1
  go_upto_region 3 with fail
  go_cut [5, 6] from 14 to 20 (fun v5 v6 wx => KindsDone w kd (.cells #[.string u, .int .i64 k, .int .i64 kd, .int .i64 (m : Int), .slice a n c] 50 (0, 0)) v5 v6 wx ∧ v6 = .bool true)
  case first =>
    refine wp_region_noPanic ?_
    go_region_with (first
      | (go_at_call 40; refine (unhide HKN).mono ?_; rintro e w2 ⟨any, i, cap, rfl, hko, hl2, hl3, kc2, kc3, b2, hbx, hsz, hcc⟩; have BB : Hid (Below w.heap.size w w2) := below_kinds (unhide HS0) (unhide HB0) (unhide b2); have DONE : Hid (KindsDone w kd (.cells #[.string u, .int .i64 k, .int .i64 kd, .int .i64 (m : Int), .slice a n c] 50 (0, 0)) (.pointer (some ⟨w2.heap.size, 0, none⟩)) (.bool true) (w2.alloc (.cells #[.bool any, .func (.func i) #[] cap] 96))) := kd_a (unhide hko) (by omega) (unhide hsz) (unhide hcc) (unhide hbx) (unhide BB); clear b2 BB hko hsz hcc hbx)
      | (go_at_call 40; refine (unhide HKN2).mono ?_; rintro e w2 ⟨any, i, cap, rfl, hko, hl2, hl3, kc2, kc3, b2, hbx, hsz, hcc⟩; have BB : Hid (Below w.heap.size w w2) := below_kinds2 (unhide HS0') (unhide HB0) (unhide b2); have hz := ((unhide b2).block (w.heap.size + 1) (by omega)).trans (unhide HZ); obtain ⟨⟨za, zb⟩, zc, zd⟩ := z96_cells hz; have DONE : Hid (KindsDone w kd (.cells #[.string u, .int .i64 k, .int .i64 kd, .int .i64 (m : Int), .slice a n c] 50 (0, 0)) (.pointer (some ⟨w.heap.size + 1, 0, none⟩)) (.bool true) ((w2.setCell ⟨w.heap.size + 1, 0, none⟩ (.bool any)).setCell ⟨w.heap.size + 1, 1, none⟩ (.func (.func i) #[] cap))) := kd_b (unhide hko) (by omega) (unhide hsz) (unhide hcc) (unhide hbx) hz (unhide BB); clear b2 BB hko hsz hcc hbx hz))
    all_goals
      refine NoPanic.normal ?_
      go_wp2_with fail
      go_meet
      exact ⟨unhide DONE, rfl⟩
  case rest =>
    obtain ⟨⟨X, B, rfl, hv6, hX, hBl, hkX, hcc, hB3, hbox, hBw⟩, rfl⟩ := hcut
    obtain ⟨any, i, cap, hko⟩ := (unhide HK0) B
    have hkb := hkX any i cap hko
    have hw := hBw.size
    have hRc := (unhide HR).below hBw
    have hblkF : wc.heap[F]? = some (.cells (netCells 0 ⟨F, P, T, A, lo, hi⟩) 81 (0, 0)) := hRc.blk
    obtain ⟨DT, oT0, hT⟩ := (unhide HR).faults
    simp only at oT0 hT
    have oT : wc.ownsMap Try.prog 87 heldR T s.n DT := own_same oT0 (hBw.block T (by omega))
    have hFT := hT u k hu hkw
    have c1 : wc.cell? ⟨w.heap.size, 1, none⟩ = some (.int .i64 k) := Lib.cell_of_heap hbox 1
    have c3 : wc.cell? ⟨w.heap.size, 3, none⟩ = some (.int .i64 (m : Int)) := Lib.cell_of_heap hbox 3
    have c0 : wc.cell? ⟨F, 0, none⟩ = some (.int .i32 0) := Lib.cell_of_heap hblkF 0
    have f0 : wc.frozen? ⟨F, 0, none⟩ = false := Lib.frozen_of_heap hblkF 0
    obtain ⟨w1, hw1⟩ : ∃ w1, wc.setCell ⟨F, 0, none⟩ (.int .i32 1) = w1 := ⟨_, rfl⟩
    have blk1 : w1.heap[F]? = some (.cells (netCells 1 ⟨F, P, T, A, lo, hi⟩) 81 (0, 0)) := by rw [← hw1]; exact heap_set_at hblkF _
    have s1 : w1.heap.size = wc.heap.size := by rw [← hw1]; simp [World.setCell]
    have k1 : ∀ q, q ≠ F → w1.heap[q]? = wc.heap[q]? := fun q hq => by rw [← hw1]; exact Below.heap_setCell _ _ _ _ hq
    have e1 : w1.os = wc.os ∧ w1.tape = wc.tape ∧ w1.output = wc.output := by rw [← hw1]; exact ⟨rfl, rfl, rfl⟩
    have box1 := (k1 w.heap.size (by omega)).trans hbox
    have d0 : w1.cell? ⟨w.heap.size, 0, none⟩ = some (.string u) := Lib.cell_of_heap box1 0
    have d1 : w1.cell? ⟨w.heap.size, 1, none⟩ = some (.int .i64 k) := Lib.cell_of_heap box1 1
    have HW1 := hide hw1
    clear hw1 hv6 hkX
    go_wp2_with (go_at_call 30; fail)
    refine (lock_free Try.muLib ⟨F, 0, none⟩ _ c0 f0).mono ?_
    rintro e w' ⟨rfl, hw⟩
    rw [hw, unhide HW1]; clear hw w' c0 f0
    obtain ⟨w2, hw2⟩ : ∃ w2, w1.alloc (.cells #[.string u, .int .i64 k] 87) = w2 := ⟨_, rfl⟩
    have a2 : ∀ q, q < w1.heap.size → w2.heap[q]? = w1.heap[q]? := fun q hq => by rw [← hw2]; exact (World.grownBy_alloc w1 _ none).block q hq (by simp)
    have s2 : w2.heap.size = w1.heap.size + 1 := by rw [← hw2]; show (w1.heap.push _).size = _; simp
    have key2 : w2.heap[w1.heap.size]? = some (.cells #[.string u, .int .i64 k] 87 (0, 0)) := by rw [← hw2]; exact heap_new w1 _
    obtain ⟨⟨y0, y1⟩, _⟩ := z96_cells key2
    have blk2 := (a2 F (by omega)).trans blk1
    have g3 : w2.cell? ⟨F, 3, none⟩ = some (.map (some T)) := Lib.cell_of_heap blk2 3
    have oT2 : w2.ownsMap Try.prog 87 heldR T s.n DT := own_same oT ((a2 T (by omega)).trans (k1 T (fun e => n5 e.symm)))
    have HW2 := hide hw2
    clear hw2
    go_wp2
    rw [unhide HW2]
    have hl2 : Bytes w2 a n l := by
      have h0 := bytes_below (unhide HL) hBw
      refine ⟨h0.len, h0.nil, fun ad ha i hi => ?_⟩
      have hb : (ad.add i).block = ad.block := by first | rfl | (simp [Addr.add]; done) | (unfold Addr.add; split <;> rfl)
      have hc := h0.cell ad ha i hi
      have hlt : (ad.add i).block < wc.heap.size := lt_of_cell hc
      exact cell_same (a := ad.add i) ((a2 _ (by omega)).trans (k1 _ (by rw [hb]; exact hne ad ha (by omega)))) hc
    have hcc2 : w2.cell? ⟨B + 1, 0, none⟩ = some (.int .i64 0) ∧ w2.cell? ⟨B + 2, 0, none⟩ = some (.int .i64 404) ∧ w2.cell? ⟨B + 3, 0, none⟩ = some (.int .i64 503) :=
      ⟨cell_same (a := ⟨B + 1, 0, none⟩) ((a2 (B + 1) (by omega)).trans (k1 (B + 1) (by omega))) hcc.1, cell_same (a := ⟨B + 2, 0, none⟩) ((a2 (B + 2) (by omega)).trans (k1 (B + 2) (by omega))) hcc.2.1, cell_same (a := ⟨B + 3, 0, none⟩) ((a2 (B + 3) (by omega)).trans (k1 (B + 3) (by omega))) hcc.2.2⟩
    have hX2 : w2.heap[X]? = some (.cells #[.bool any, .func (.func i) #[] cap] 96 (0, 0)) := by
      have hXl : X < wc.heap.size := lt_of_cell (Lib.cell_of_heap hkb 0)
      exact (a2 X (by omega)).trans ((k1 X (by omega)).trans hkb)
    have box2 := (a2 w.heap.size (by omega)).trans box1
    have E2 : w2.os = w1.os ∧ w2.tape = w1.tape ∧ w2.output = w1.output := by rw [← unhide HW2]; exact ⟨rfl, rfl, rfl⟩
    have hlow : ∀ q, q < w.heap.size → q ≠ F → w2.heap[q]? = w.heap[q]? := fun q h1 h2 => (a2 q (by omega)).trans ((k1 q h2).trans (hBw.block q h1))
    have HLOW := hide hlow
    have HBLK2 := hide blk2
    have HRB := hide hRc
    have HOT := hide oT0
    have HTT := hide hT
    have HFT := hide hFT
    have HOT2 := hide oT2
    have HL2 := hide hl2
    have HCC2 := hide hcc2
    have HKO := hide hko
    have HEF := hide hef
    have HEQ : Hid (w2.os = w.os ∧ w2.tape = w.tape ∧ w2.output = w.output) := ⟨E2.1.trans (e1.1.trans hBw.os), E2.2.1.trans (e1.2.1.trans hBw.tape), E2.2.2.trans (e1.2.2.trans hBw.output)⟩
    have x0 : w2.cell? ⟨X, 0, none⟩ = some (.bool any) := Lib.cell_of_heap hX2 0
    have x1 : w2.cell? ⟨X, 1, none⟩ = some (.func (.func i) #[] cap) := Lib.cell_of_heap hX2 1
    have b0 : w2.cell? ⟨w.heap.size, 0, none⟩ = some (.string u) := Lib.cell_of_heap box2 0
    have b1 : w2.cell? ⟨w.heap.size, 1, none⟩ = some (.int .i64 k) := Lib.cell_of_heap box2 1
    have b2 : w2.cell? ⟨w.heap.size, 2, none⟩ = some (.int .i64 kd) := Lib.cell_of_heap box2 2
    have b3 : w2.cell? ⟨w.heap.size, 3, none⟩ = some (.int .i64 (m : Int)) := Lib.cell_of_heap box2 3
    have b4 : w2.cell? ⟨w.heap.size, 4, none⟩ = some (.slice a n c) := Lib.cell_of_heap box2 4
    rw [s1] at y0 y1
    have hS2 : HeldT F T wc.heap.size u k w2 w2 := ⟨g3, y0, y1, Below.refl _ _⟩
    have hF2 : F < w2.heap.size := by omega
    have hK2 : wc.heap.size < w2.heap.size := by omega
    have hB2 : B + 3 < w2.heap.size := by omega
    have hloB : lo ≤ B := by omega
    have hTlo : T < lo := o3
    have hNm : s.n < maxLen := by unfold maxLen; omega
    have S02 : w.heap.size ≤ w2.heap.size := by omega
    have HS2 := hide hS2
    clear HW0 HV HKN HKN2 HZ HB0 HS0' HS0 kc s0 hcc hbox hkb hRc hblkF oT0 oT hT hFT c1 c3 blk1 k1 e1 box1 d0 d1 HW1 a2 key2 blk2 oT2 HW2 hl2 hcc2 hX2 box2 E2 hlow hko hef hBw HK0 HL s1 s2 hB3 hX hBl hw hS2
    cases hft : s.ft u k with
    | some e0 =>
      have hFT := unhide HFT
      rw [hft] at hFT
      obtain ⟨fv, f1, f2, f3⟩ := hFT
      have lT : ∀ nq, (Instr.lookup 71 (.map (some T)) (.agg #[.string u, .int .i64 k]) true).run Try.prog (w2.drewN nq) = .ok (.tuple #[fv, .bool true]) (w2.drewN nq) := fun nq =>
        look_fault (w := w2.drewN nq) (own_same (unhide HOT2) rfl) hu hkw f2 (f3 _)
      have HFt := hide hft
      clear f1 f2 f3 hft
      go_quiet (fail)
      go_wp2
      refine leaves_cons (f := 31) (args := #[.pointer (some ⟨F, 0, none⟩)]) (by simp) (by simp [go_sem]) ?_
      refine (unlock_deferred Try.muLib ⟨F, 0, none⟩ .returning _ (Lib.cell_of_heap (w := w2.drewN nq) (unhide HBLK2) 0) (Lib.frozen_of_heap (w := w2.drewN nq) (unhide HBLK2) 0)).mono ?_
      rintro e u' w6 ⟨rfl, rfl, hw6⟩
      refine ⟨_, results_tmp rfl _ _ _, Or.inl ⟨by rw [unhide HFt]; simp, rfl, ?_⟩⟩
      have E := unhide HEQ
      have blk6 : w6.heap[F]? = some (.cells (netCells 0 ⟨F, P, T, A, lo, hi⟩) 81 (0, 0)) := by rw [hw6]; exact heap_set_at (w := w2.drewN nq) (unhide HBLK2) _
      have k6 : ∀ q, q ≠ F → w6.heap[q]? = w2.heap[q]? := fun q hq => by rw [hw6]; exact Below.heap_setCell _ _ _ _ hq
      have s6 : w6.heap.size = w2.heap.size := by rw [hw6]; simp [World.setCell, World.drewN]
      have e6 : w6.os = w2.os ∧ w6.tape = w2.tape ∧ w6.output = w2.output := by rw [hw6]; exact ⟨rfl, rfl, rfl⟩
      refine ⟨e6.1.trans E.1, e6.2.1.trans E.2.1, e6.2.2.trans E.2.2, by omega, fun q hq => ?_⟩
      by_cases hqF : q = F
      · rw [hqF, blk6]; exact (unhide HR).blk.symm
      · exact (k6 q hqF).trans ((unhide HLOW) q hq hqF)
    | none =>
      have hFT := unhide HFT
      rw [hft] at hFT
      have lT : ∀ nq, (Instr.lookup 71 (.map (some T)) (.agg #[.string u, .int .i64 k]) true).run Try.prog (w2.drewN nq) = .ok (.tuple #[.nilFunc, .bool false]) (w2.drewN nq) := fun nq =>
        look_fault (w := w2.drewN nq) (own_same (unhide HOT2) rfl) hu hkw hFT (atKey_of_not_has hFT _)
      have HFt := hide hft
      clear hft hFT
      go_quiet (fail)
      go_wp2
      refine wp_region_noPanic ?_
      go_region_with (first
        | (go_at_call 41; refine (of_held (lo := lo) hF2 hK2 (unhide HKO) (unhide HEF) (unhide HL2) hnl hm hloB hB2 (unhide HCC2) (unhide HOT2) hNm hu hkw (heldT_drew (heldT_drewN (unhide HS2) nq))).mono ?_; rintro e w5 ⟨fv, rfl, ⟨h91, h92, h93, hb9⟩, hE9, w3, hrun, o3, t3⟩))
      all_goals
        refine NoPanic.normal ?_
        have g3 := t3.grown
        have s2 := hb9.size
        have s3 := turned_size t3
        have b3 : w3.heap[F]? = some (.cells (netCells 1 ⟨F, P, T, A, lo, hi⟩) 81 (0, 0)) := (g3.block F (by omega) (by simpa using n5)).trans ((hb9.block F hF2).trans (unhide HBLK2))
        have HDONE : Hid (AddDone ⟨F, P, T, A, lo, hi⟩ s u k ef w w3) := add_done hTlo (unhide HOT) (unhide HTT) (unhide HLOW) S02 (unhide HEQ) hb9 (unhide hE9) o3 t3
        clear h91 h92 h93 hb9 hE9 hrun o3 t3 g3 s2 s3
        go_wp2
        refine leaves_cons (f := 31) (args := #[.pointer (some ⟨F, 0, none⟩)]) (by simp) (by simp [go_sem]) ?_
        refine (unlock_deferred Try.muLib ⟨F, 0, none⟩ .returning _ (Lib.cell_of_heap b3 0) (Lib.frozen_of_heap b3 0)).mono ?_
        rintro e u' w6 ⟨rfl, rfl, hw6⟩
        exact ⟨_, results_tmp rfl _ _ _, Or.inr ⟨unhide HFt, rfl, add_end (unhide HR) hu hkw b3 (unhide HDONE) hw6⟩⟩

end Go.Proofs.Ytmbcjdlpdibalaa
