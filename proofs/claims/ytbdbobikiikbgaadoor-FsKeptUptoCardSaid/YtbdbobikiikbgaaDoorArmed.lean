/-
  The contract of FsArmed: it answers true, and nothing that was there has turned.
-/
import Derived.Test.YtbdbobikiikbgaaDoorTwo
import Derived.Test.YtbdbobikiikbgaaDoorArmS
namespace Go.Proofs.YtbdbobikiikbgaaDoor
open Go.RowKit Go.WideMaps Go.Maps Go.Sort

theorem OpAt.cells {w : World} {B x : Nat} {o : AOp} (q : OpAt w B x o) : w.cell? ⟨B, x, none⟩ = some (.int .i64 o.kind) ∧ w.cell? ⟨B, x + 1, none⟩ = some (.int .i64 o.n) ∧ w.cell? ⟨B, x + 2, none⟩ = some (.int .i64 o.m) ∧
    w.cell? ⟨B, x + 3, none⟩ = some (.string o.name) ∧ w.cell? ⟨B, x + 4, none⟩ = some (.string o.tgt) ∧ w.cell? ⟨B, x + 5, none⟩ = some (.slice o.ba o.b.length o.bc) := ⟨q.kind, q.n, q.m, q.name, q.tgt, q.b⟩

/-- The bytes of the first k operations. -/
def sumB (ops : List AOp) (k : Nat) : Nat := ((ops.take k).map fun o => o.b.length).sum
theorem sumB_succ {ops : List AOp} {k : Nat} {o : AOp} (h : ops[k]? = some o) : sumB ops (k + 1) = sumB ops k + o.b.length := by
  unfold sumB
  rw [List.take_add_one, h]; simp
theorem sumB_le (ops : List AOp) (k : Nat) : sumB ops k ≤ (ops.map fun o => o.b.length).sum := by
  unfold sumB
  have : ops.map (fun o => o.b.length) = (ops.take k).map (fun o => o.b.length) ++ (ops.drop k).map (fun o => o.b.length) := by rw [← List.map_append, List.take_append_drop]
  rw [this, List.sum_append]; omega

theorem arm_bounds (m : Int) : ∃ N : Nat, wrap64 ((wrap64 (m.tmod 20 + 20)).tmod 20 + 1) = (N : Int) ∧ 1 ≤ N ∧ N ≤ 20 := by
  have t1 : m.tmod 20 < 20 ∧ -20 < m.tmod 20 := by
    constructor
    · exact Int.tmod_lt_of_pos _ (by decide)
    · have := Int.tmod_lt_of_pos (-m) (b := 20) (by decide)
      rw [Int.neg_tmod] at this; omega
  have e1 : wrap64 (m.tmod 20 + 20) = m.tmod 20 + 20 := IntWalk.wrap64_in _ ⟨by omega, by omega⟩
  rw [e1]
  have t2 : 0 ≤ (m.tmod 20 + 20).tmod 20 ∧ (m.tmod 20 + 20).tmod 20 < 20 := ⟨Int.tmod_nonneg _ (by omega), Int.tmod_lt_of_pos _ (by decide)⟩
  have e2 : wrap64 ((m.tmod 20 + 20).tmod 20 + 1) = (m.tmod 20 + 20).tmod 20 + 1 := IntWalk.wrap64_in _ ⟨by omega, by omega⟩
  rw [e2]
  exact ⟨((m.tmod 20 + 20).tmod 20 + 1).toNat, by omega, by omega, by omega⟩

theorem Live.bel {w0 w : World} {F : Nat} {s : AS} (h : Live w0 w F s) : Below w0.heap.size w0 w := by
  obtain ⟨_, _, _, _, h⟩ := h
  exact h

theorem bel_drewN {m : Nat} {a b : World} (h : Below m a b) (n : Nat) : Below m a (b.drewN n) := ⟨h.os, h.tape, h.output, h.size, h.block⟩

/-- What stands between two rounds. -/
structure Armed (w2 wr : World) (F1 F2 : Nat) (N : Nat) (ops : List AOp) (k : Nat) (s : AS) : Prop where
  two : Two (fun b => b < w2.heap.size) wr F1 F2 s (arm s (N - s.steps))
  ok : OK s k (sumB ops k)
  unarmed : s.armed = 0
  up : s.down = false
  lt : s.steps < N
  below : Below w2.heap.size w2 wr

set_option maxRecDepth 100000 in
set_option maxHeartbeats 4000000 in
theorem armed_any (q n : Int) (a : Option Addr) (len c : Nat) (ops : List AOp) (w : World) (hg : ∃ m, w.cell? ⟨0, 0, none⟩ = some (.int .i64 m)) (hlen : len = ops.length) (hc : len ≤ c) (hm : len ≤ 9223372036854775807) (hops : OpsAt w a ops) (hsum : (ops.map fun o => o.b.length).sum ≤ 1048576) :
    Calls Tryd.prog 6 #[.int .i64 q, .slice a len c, .int .i64 n] w fun e w' => e = .returned (.bool true) ∧ Below w.heap.size w w' := by
  have HF := hide (first_any w hg)
  have HG := hide hg
  have HO := hide hops
  have HS := hide hsum
  have HL := hide hlen
  clear hg hops hsum hlen
  go_enter Tryd.func6, Tryd.ntmps6
  go_wp2_with (go_at_call 9; refine (unhide HF).mono ?_; rintro e w1 ⟨rfl, hB1⟩)
  have hO1 : OpsAt w1 a ops := fun i o ho => by
    obtain ⟨B, x, e, q⟩ := unhide HO i o ho
    exact ⟨B, x, e, q.below hB1⟩
  refine (few_any (unhide HL) hc hm hO1).mono ?_
  rintro e w2 ⟨⟨r, rfl, hr⟩, nq, hw2⟩
  have hB2 : Below w.heap.size w w2 := by rw [hw2]; exact ⟨hB1.os, hB1.tape, hB1.output, hB1.size, hB1.block⟩
  have HB2 := hide hB2
  clear hB1 hO1 hw2
  cases r with
  | false =>
    clear hr
    go_wp2
    go_ret
    exact ⟨rfl, unhide HB2⟩
  | true =>
    have h300 := hr rfl
    clear hr
    have HNEW : Hid (∀ W, Below w.heap.size w W → ∃ m, W.cell? ⟨0, 0, none⟩ = some (.int .i64 m)) := by
      intro W hb
      obtain ⟨m, hm⟩ := unhide HG
      exact ⟨m, (hb.cell (lt_of_cell hm)).trans hm⟩
    clear hB2
    go_wp2_with (first
      | (go_at_call 28; refine (new_live q w2 (unhide HNEW _ (unhide HB2))).mono ?_; rintro e w3 ⟨F1, rfl, hL3⟩)
      | (go_at_call 28; refine (new_two hL3 q (unhide HNEW _ ((unhide HB2).trans (hL3.bel.mono (unhide HB2).size)))).mono ?_; rintro e w4 ⟨F2, rfl, hT4, hB4⟩)
      | (go_at_call 19; refine (arm_two hT4.swap _).mono ?_; rintro e w5 ⟨rfl, hT5, hK5⟩))
    obtain ⟨N, hN, hN0, hN1⟩ := arm_bounds n
    rw [hN] at hT5 ⊢
    have hst : Armed w2 w5 F1 F2 N ops 0 (newS q) := by
      refine ⟨?_, ok_new q, rfl, rfl, by show (0 : Int) < N; omega, ?_⟩
      · have := hT5.swap
        have e : { newS q with armed := max (N : Int) 0 } = arm (newS q) (N - (newS q).steps) := by
          show arm (newS q) (max (N : Int) 0) = arm (newS q) (N - 0)
          rw [show max (N : Int) 0 = N - 0 by omega]
        rw [e] at this; exact this
      · have hk : Keep (fun b => b < w2.heap.size) w2 w5 := (Keep.of_below hB4 (fun _ h => h)).trans hK5
        exact hk.below
    have hN0' : (1 : Int) ≤ (N : Int) := by omega
    have hN1' : (N : Int) ≤ 20 := by omega
    clear hT4 hT5 hB4 hK5 hN hL3
    go_loopw [11] (fun i wr => ∃ (k : Nat) (s : AS), k ≤ len ∧ i = .int .i64 k ∧ Armed w2 wr F1 F2 N ops k s) (fun i _ => len - (intOf i).toNat)
    case atStart => exact ⟨0, _, Nat.zero_le _, rfl, hst⟩
    case round =>
      obtain ⟨k, s, hk, rfl, hA⟩ := hrel
      clear hst
      by_cases hlt : k < len
      · obtain ⟨o, ho⟩ : ∃ o, ops[k]? = some o := ⟨ops[k]'(by rw [← unhide HL]; exact hlt), by simp⟩
        obtain ⟨B, x, rfl, q0⟩ := unhide HO k o ho
        have q2 := q0.below (unhide HB2)
        obtain ⟨m0, m1, m2, m3, m4, m5⟩ := (q2.below hA.below).cells
        by_cases h5 : (5 : Int) < o.kind
        · have HNX : Hid (Armed w2 wr F1 F2 N ops (k + 1) s) := by
            have ok' : OK s (k + 1) (sumB ops (k + 1)) := hA.ok.mono (by omega) (by rw [sumB_succ ho]; omega)
            exact ⟨hA.two, ok', hA.unarmed, hA.up, hA.lt, hA.below⟩
          clear hA q0 q2 ho
          go_wp2
          go_roundw
          case rel => exact ⟨k + 1, s, by omega, by go_num, unhide HNX⟩
          case measure => simp [intOf]; omega
        · have h5' : o.kind ≤ 5 := by omega
          have hBs : sumB ops k + o.b.length ≤ 1048576 := by
            have h1 := sumB_le ops (k + 1)
            have h2 := sumB_succ ho
            have h3 := unhide HS
            omega
          have okS := hA.ok
          have okS1 := okS.told5 o hBs h5'
          have okT := okS.arm (N - s.steps) (by have := hA.lt; omega) (by have := okS.t0; omega)
          have okT1 := okT.told5 o hBs h5'
          rw [← sumB_succ ho] at okS1 okT1
          obtain ⟨t, ht⟩ : ∃ t, t = arm s (N - s.steps) := ⟨_, rfl⟩
          have hstep := told_arm (a := N - s.steps) o (okS.inv (by omega)) hA.unarmed hA.up h5'
          have hTwo := hA.two
          rw [← ht] at hTwo okT okT1 hstep
          have hcase : (∃ E S1, toldR s o = (E, S1) ∧ toldR t o = (E, arm S1 (N - S1.steps)) ∧ S1.steps < N ∧ S1.armed = 0 ∧ S1.down = false) ∨
              (∃ S1, toldR s o = (0, S1) ∧ S1.steps = N ∧ S1.down = false ∧ toldR t o = (5, { s with armed := 0, down := true })) := by
            have hlt := hA.lt
            rcases hstep with ⟨E, h1, h2⟩ | ⟨S1, h1, h2, h3, h4, h6, h7⟩
            · exact Or.inl ⟨E, s, h1, h2, hlt, hA.unarmed, hA.up⟩
            · by_cases ha : (N : Int) - s.steps = 1
              · exact Or.inr ⟨S1, h1, by omega, h3, h6 ha⟩
              · refine Or.inl ⟨0, S1, h1, ?_, by omega, h2, h3⟩
                rw [h7 (by omega)]
                congr 2; omega
          have HFB := hide (files_two hTwo.swap okT (by omega) (by omega) (fl := fileL s s.names (fun f => f.data)) (by rw [ht]; rfl))
          have HBel := hide hA.below
          have HTwo := hide hTwo
          have HT1 : Hid (∀ (K : Nat → Prop) (W : World), (∀ b, b < w2.heap.size → K b) → Below w2.heap.size w2 W → Two K W F1 F2 s t →
              Calls Tryd.prog 30 #[.pointer (some ⟨F1, 0, none⟩), .agg #[.int .i64 o.kind, .int .i64 o.n, .int .i64 o.m, .string o.name, .string o.tgt, .slice o.ba o.b.length o.bc]] W fun e w' => e = .returned (.int .i64 (toldR s o).1) ∧ Two K w' F1 F2 (toldR s o).2 t ∧ Keep K W w') :=
            fun K W hK hb h => told_two h hb hK okS (by omega) q2 hBs (by omega)
          have HT2 : Hid (∀ (K : Nat → Prop) (W : World) (S : AS), (∀ b, b < w2.heap.size → K b) → Below w2.heap.size w2 W → Two K W F1 F2 S t →
              Calls Tryd.prog 30 #[.pointer (some ⟨F2, 0, none⟩), .agg #[.int .i64 o.kind, .int .i64 o.n, .int .i64 o.m, .string o.name, .string o.tgt, .slice o.ba o.b.length o.bc]] W fun e w' => e = .returned (.int .i64 (toldR t o).1) ∧ Two K w' F1 F2 S (toldR t o).2 ∧ Keep K W w') :=
            fun K W S hK hb h => (told_two h.swap hb hK okT (by omega) q2 hBs (by omega)).mono (fun e w' ⟨h1, h2, h3⟩ => ⟨h1, h2.swap, h3⟩)
          have HQ : Hid (∀ W, Below w2.heap.size w2 W → OpAt W B (x + k * 6) o) := fun W hb => q2.below hb
          obtain ⟨fl, hfl⟩ : ∃ fl, fl = fileL s s.names (fun f => f.data) := ⟨_, rfl⟩
          have hfle : ∀ y ∈ fl, y.2.length ≤ 140737488355328 := by rw [hfl]; exact fileL_le okS (by omega) _ _ (fun _ => Nat.le_refl _)
          rw [← hfl] at HFB
          clear hA q0 q2 ho hTwo hstep okS okT
          rcases hcase with ⟨E, S1, e1, e2, hS1, hS2, hS3⟩ | ⟨S1, e1, hS1, hS3, e2⟩
          · rw [e1] at okS1 HT1
            rw [e2] at HT2
            have hne : (S1.steps == (N : Int)) = false := by simp; omega
            have HS1 := hide okS1
            clear okS1 okT1 e1 e2 hfl ht hfle
            go_wp2_with fail
            refine (unhide HFB).mono ?_
            rintro e w3 ⟨fa, fc, rfl, hFA, hB3⟩
            obtain ⟨hT3, hK3⟩ := (unhide HTwo).below hB3
            have hb3 : Below w2.heap.size w2 w3 := (unhide HBel).trans (hB3.mono (unhide HBel).size)
            obtain ⟨p0, p1, p2, p3, p4, p5⟩ := (unhide HQ w3 hb3).cells
            go_wp2_with fail
            refine (unhide HT1 _ _ (fun b hb => Or.inl hb) hb3 hT3).mono ?_
            rintro e w4 ⟨rfl, hT4, hK4⟩
            have hb4 : Below w2.heap.size w2 w4 := (((Keep.of_below hb3 (fun _ h => h)).trans (hK4.mono (fun b hb => Or.inl hb))).below)
            obtain ⟨r0, r1, r2, r3, r4, r5⟩ := (unhide HQ w4 hb4).cells
            go_wp2_with fail
            refine (unhide HT2 _ _ _ (fun b hb => Or.inl hb) hb4 hT4).mono ?_
            rintro e w5 ⟨rfl, hT5, hK5⟩
            have hb5 : Below w2.heap.size w2 w5 := (((Keep.of_below hb4 (fun _ h => h)).trans (hK5.mono (fun b hb => Or.inl hb))).below)
            go_wp2_with fail
            refine (steps_two hT5).mono ?_
            rintro e w6 ⟨rfl, rfl⟩
            go_wp2_with fail
            have HNX : Hid (Armed w2 w6 F1 F2 N ops (k + 1) S1) := ⟨hT5.less (fun b hb => Or.inl hb), unhide HS1, hS2, hS3, hS1, hb5⟩
            go_roundw
            case rel => exact ⟨k + 1, S1, by omega, by go_num, unhide HNX⟩
            case measure => simp [intOf]; omega
          · rw [e1] at HT1
            rw [e2] at HT2 okT1
            have heq : (S1.steps == (N : Int)) = true := by simp; omega
            have HFD : Hid (∀ (K : Nat → Prop) (W : World), Two K W F1 F2 S1 { s with armed := 0, down := true } → Calls Tryd.prog 25 #[.pointer (some ⟨F2, 0, none⟩)] W fun e w' => ∃ (a : Option Addr) (c : Nat), e = .returned (.slice a fl.length c) ∧ FilesAt w' W.heap.size (.slice a fl.length c) fl ∧ Below W.heap.size W w') :=
              fun K W h => files_two h.swap okT1 (by omega) (by have h1 := sumB_le ops (k + 1); have h3 := unhide HS; omega) (by rw [hfl]; rfl)
            have HFL := hide hfle
            clear okS1 okT1 e1 e2 hfl ht hfle
            go_wp2_with fail
            refine (unhide HFB).mono ?_
            rintro e w3 ⟨fa, fc, rfl, hFA, hB3⟩
            obtain ⟨hT3, hK3⟩ := (unhide HTwo).below hB3
            have hb3 : Below w2.heap.size w2 w3 := (unhide HBel).trans (hB3.mono (unhide HBel).size)
            obtain ⟨p0, p1, p2, p3, p4, p5⟩ := (unhide HQ w3 hb3).cells
            go_wp2_with fail
            refine (unhide HT1 _ _ (fun b hb => Or.inl hb) hb3 hT3).mono ?_
            rintro e w4 ⟨rfl, hT4, hK4⟩
            have hb4 : Below w2.heap.size w2 w4 := (((Keep.of_below hb3 (fun _ h => h)).trans (hK4.mono (fun b hb => Or.inl hb))).below)
            obtain ⟨r0, r1, r2, r3, r4, r5⟩ := (unhide HQ w4 hb4).cells
            go_wp2_with fail
            refine (unhide HT2 _ _ _ (fun b hb => Or.inl hb) hb4 hT4).mono ?_
            rintro e w5 ⟨rfl, hT5, hK5⟩
            have hb5 : Below w2.heap.size w2 w5 := (((Keep.of_below hb4 (fun _ h => h)).trans (hK5.mono (fun b hb => Or.inl hb))).below)
            have hFA5 : FilesAt w5 wr.heap.size (.slice fa fl.length fc) fl := hFA.keep (hK4.trans hK5) (fun b h1 h2 => Or.inr ⟨h1, h2⟩)
            go_wp2_with fail
            refine (steps_two hT5).mono ?_
            rintro e w6 ⟨rfl, rfl⟩
            go_wp2_with fail
            refine (unhide HFD _ _ hT5).mono ?_
            rintro e w7 ⟨ga, gc, rfl, hFB, hB7⟩
            have hFA7 := hFA5.below hB7
            obtain ⟨hT7, _⟩ := hT5.below hB7
            have hb7 : Below w2.heap.size w2 w7 := hb5.trans (hB7.mono hb5.size)
            go_wp2_with fail
            refine (sameFiles_same rfl hFB hFA7 (unhide HFL)).mono ?_
            rintro e w8 ⟨rfl, nq, rfl⟩
            have hT8 := hT7.drewN nq
            have HB8 := hide ((unhide HB2).trans ((bel_drewN hb7 nq).mono (unhide HB2).size))
            clear hFA hFB hFA5 hFA7 hT3 hT4 hT5 hT7 hb3 hb4 hb5 hb7 hB3 hB7 hK3 hK4 hK5
            go_wp2_with fail
            refine (down_two hT8.swap).mono ?_
            rintro e w9 ⟨rfl, rfl⟩
            go_wp2_with fail
            refine (down_two hT8).mono ?_
            rintro e w10 ⟨rfl, rfl⟩
            rw [hS3]
            go_wp2_with fail
            go_ret
            exact ⟨rfl, unhide HB8⟩
      · have hkn : k = len := by omega
        subst hkn
        have hBs : sumB ops k ≤ 1048576 := by
          have h1 := sumB_le ops k
          have h3 := unhide HS
          omega
        have okS := hA.ok
        have okT := okS.arm (N - s.steps) (by have := hA.lt; omega) (by have := okS.t0; omega)
        obtain ⟨fl, hfl⟩ : ∃ fl, fl = fileL s s.names (fun f => f.data) := ⟨_, rfl⟩
        obtain ⟨dl, hdl⟩ : ∃ dl, dl = fileL s s.durable (fun f => f.data.take f.dur) := ⟨_, rfl⟩
        have hfle : ∀ y ∈ fl, y.2.length ≤ 140737488355328 := by rw [hfl]; exact fileL_le okS hBs _ _ (fun _ => Nat.le_refl _)
        have hdle : ∀ y ∈ dl, y.2.length ≤ 140737488355328 := by rw [hdl]; exact fileL_le okS hBs _ _ (fun f => by simp; omega)
        have HF1 : Hid (∀ (K : Nat → Prop) (W : World), Two K W F1 F2 s (arm s (N - s.steps)) → Calls Tryd.prog 25 #[.pointer (some ⟨F1, 0, none⟩)] W fun e w' => ∃ (a : Option Addr) (c : Nat), e = .returned (.slice a fl.length c) ∧ FilesAt w' W.heap.size (.slice a fl.length c) fl ∧ Below W.heap.size W w') :=
          fun K W h => files_two h okS (by omega) hBs hfl.symm
        have HF2 : Hid (∀ (K : Nat → Prop) (W : World), Two K W F1 F2 s (arm s (N - s.steps)) → Calls Tryd.prog 25 #[.pointer (some ⟨F2, 0, none⟩)] W fun e w' => ∃ (a : Option Addr) (c : Nat), e = .returned (.slice a fl.length c) ∧ FilesAt w' W.heap.size (.slice a fl.length c) fl ∧ Below W.heap.size W w') :=
          fun K W h => files_two h.swap okT (by omega) hBs (by rw [hfl]; rfl)
        have HD1 : Hid (∀ (K : Nat → Prop) (W : World), Two K W F1 F2 s (arm s (N - s.steps)) → Calls Tryd.prog 24 #[.pointer (some ⟨F1, 0, none⟩)] W fun e w' => ∃ (a : Option Addr) (c : Nat), e = .returned (.slice a dl.length c) ∧ FilesAt w' W.heap.size (.slice a dl.length c) dl ∧ Below W.heap.size W w') :=
          fun K W h => durable_two h okS (by omega) hBs hdl.symm
        have HD2 : Hid (∀ (K : Nat → Prop) (W : World), Two K W F1 F2 s (arm s (N - s.steps)) → Calls Tryd.prog 24 #[.pointer (some ⟨F2, 0, none⟩)] W fun e w' => ∃ (a : Option Addr) (c : Nat), e = .returned (.slice a dl.length c) ∧ FilesAt w' W.heap.size (.slice a dl.length c) dl ∧ Below W.heap.size W w') :=
          fun K W h => durable_two h.swap okT (by omega) hBs (by rw [hdl]; rfl)
        have hT := hA.two
        have hup : (arm s (N - s.steps)).down = false := hA.up
        have HBel := hide hA.below
        have HFL := hide hfle
        have HDL := hide hdle
        clear hA okS okT hfl hdl hfle hdle
        obtain ⟨t, ht⟩ : ∃ t, t = arm s (N - s.steps) := ⟨_, rfl⟩
        rw [← ht] at hT hup HF1 HF2 HD1 HD2
        clear ht
        go_wp2_with fail
        refine (down_two hT.swap).mono ?_
        rintro e w3 ⟨rfl, rfl⟩
        rw [hup]
        go_wp2_with fail
        refine (unhide HF1 _ _ hT).mono ?_
        rintro e w4 ⟨a4, c4, rfl, hF4, hB4⟩
        obtain ⟨hT4, _⟩ := hT.below hB4
        go_wp2_with fail
        refine (unhide HF2 _ _ hT4).mono ?_
        rintro e w5 ⟨a5, c5, rfl, hF5, hB5⟩
        obtain ⟨hT5, _⟩ := hT4.below hB5
        go_wp2_with fail
        refine (sameFiles_same rfl (hF4.below hB5) hF5 (unhide HFL)).mono ?_
        rintro e w6 ⟨rfl, nq, hw6⟩
        have hT6 := hT5.drewN nq
        rw [← hw6] at hT6
        have HW6 := hide hw6
        clear hw6
        go_wp2_with fail
        refine (unhide HD1 _ _ hT6).mono ?_
        rintro e w7 ⟨a7, c7, rfl, hF7, hB7⟩
        obtain ⟨hT7, _⟩ := hT6.below hB7
        go_wp2_with fail
        refine (unhide HD2 _ _ hT7).mono ?_
        rintro e w8 ⟨a8, c8, rfl, hF8, hB8⟩
        go_wp2_with fail
        refine (sameFiles_same rfl (hF7.below hB8) hF8 (unhide HDL)).mono ?_
        rintro e w9 ⟨rfl, nq2, rfl⟩
        have b4 : Below w.heap.size w w4 := by
          have h1 : Below w.heap.size w w3 := (unhide HB2).trans ((unhide HBel).mono (unhide HB2).size)
          exact h1.trans (hB4.mono h1.size)
        have b5 : Below w.heap.size w w5 := b4.trans (hB5.mono b4.size)
        have b6 : Below w.heap.size w w6 := by rw [unhide HW6]; exact bel_drewN b5 nq
        have b7 : Below w.heap.size w w7 := b6.trans (hB7.mono b6.size)
        have HB9 := hide (bel_drewN (b7.trans (hB8.mono b7.size)) nq2)
        clear hF4 hF5 hF7 hF8 hT hT4 hT5 hT6 hT7 b4 b5 b6 b7 hB4 hB5 hB7 hB8
        go_wp2_with fail
        go_ret
        exact ⟨rfl, unhide HB9⟩

end Go.Proofs.YtbdbobikiikbgaaDoor
