/-
  The contract of FsRefused: it answers true, and nothing that was there has turned.
-/
import Derived.Test.YtbdbobikiikbgaaDoorTold7
import Derived.Test.YtbdbobikiikbgaaDoorRefS
import Derived.Test.YtbdbobikiikbgaaDoorArmed
namespace Go.Proofs.YtbdbobikiikbgaaDoor
open Go.RowKit Go.WideMaps Go.Maps Go.Sort

/-- What stands between two rounds. -/
structure Refus (w2 wr : World) (F : Nat) (q : Int) (ops : List AOp) (k : Nat) (cr : Bool) (s : AS) : Prop where
  one : One (fun b => b < w2.heap.size) wr F s
  ok : OK s k (sumB ops k)
  quota : s.quota = min (max q 0) 67108864
  within : cr = false → s.size ≤ s.quota
  below : Below w2.heap.size w2 wr

theorem told_zero7 {s : AS} {o : AOp} (h : o.kind = 7) : (toldR s o).1 = 0 := by
  unfold toldR
  rw [if_neg (by omega), if_neg (by omega), if_neg (by omega), if_neg (by omega), if_neg (by omega), if_neg (by omega), if_neg (by omega), if_pos h]

set_option maxRecDepth 100000 in
set_option maxHeartbeats 8000000 in
theorem refused_any (q : Int) (a : Option Addr) (len c : Nat) (ops : List AOp) (w : World) (hg : ∃ m, w.cell? ⟨0, 0, none⟩ = some (.int .i64 m)) (hlen : len = ops.length) (hc : len ≤ c) (hm : len ≤ 9223372036854775807) (hops : OpsAt w a ops) (hsum : (ops.map fun o => o.b.length).sum ≤ 1048576) :
    Calls Tryd.prog 5 #[.int .i64 q, .slice a len c] w fun e w' => e = .returned (.bool true) ∧ Below w.heap.size w w' := by
  have HF := hide (first_any w hg)
  have HG := hide hg
  have HO := hide hops
  have HS := hide hsum
  have HL := hide hlen
  clear hg hops hsum hlen
  go_enter Tryd.func5, Tryd.ntmps5
  go_wp2_with (go_at_call 9; refine (unhide HF).mono ?_; rintro e w1 ⟨rfl, hB1⟩)
  have hO1 : OpsAt w1 a ops := fun i o ho => by
    obtain ⟨B, x, e, q⟩ := unhide HO i o ho
    exact ⟨B, x, e, q.below hB1⟩
  refine (few_any (unhide HL) hc hm hO1).mono ?_
  rintro e w2 ⟨⟨r, rfl, hr⟩, nq, hw2⟩
  have hB2 : Below w.heap.size w w2 := by rw [hw2]; exact ⟨hB1.os, hB1.tape, hB1.output, hB1.size, hB1.block⟩
  have HB2 := hide hB2
  clear hB1 hO1 hw2
  cases r with
  | false =>
    clear hr
    go_wp2
    go_ret
    exact ⟨rfl, unhide HB2⟩
  | true =>
    have h300 := hr rfl
    clear hr
    have HNEW : Hid (∀ W, Below w.heap.size w W → ∃ m, W.cell? ⟨0, 0, none⟩ = some (.int .i64 m)) := by
      intro W hb
      obtain ⟨m, hm⟩ := unhide HG
      exact ⟨m, (hb.cell (lt_of_cell hm)).trans hm⟩
    clear hB2
    go_wp2_with (go_at_call 28; refine (new_live q w2 (unhide HNEW _ (unhide HB2))).mono ?_; rintro e w3 ⟨F, rfl, hL3⟩)
    have hst : Refus w2 w3 F q ops 0 false (newS q) := ⟨hL3.one, ok_new q, rfl, fun _ => by show (0 : Int) ≤ min (max q 0) 67108864; omega, hL3.bel⟩
    clear hL3
    go_loopw [8, 9] (fun cv i wr => ∃ (cr : Bool) (k : Nat) (s : AS), k ≤ len ∧ cv = .bool cr ∧ i = .int .i64 k ∧ Refus w2 wr F q ops k cr s) (fun _ i _ => len - (intOf i).toNat)
    case atStart => exact ⟨false, 0, _, Nat.zero_le _, rfl, rfl, hst⟩
    case round =>
      obtain ⟨cr, k, s, hk, rfl, rfl, hA⟩ := hrel
      clear hst
      by_cases hlt : k < len
      · obtain ⟨o, ho⟩ : ∃ o, ops[k]? = some o := ⟨ops[k]'(by rw [← unhide HL]; exact hlt), by simp⟩
        obtain ⟨B, x, rfl, q0⟩ := unhide HO k o ho
        have q2 := q0.below (unhide HB2)
        obtain ⟨m0, m1, m2, m3, m4, m5⟩ := (q2.below hA.below).cells
        have hBs : sumB ops k + o.b.length ≤ 1048576 := by
          have h1 := sumB_le ops (k + 1)
          have h2 := sumB_succ ho
          have h3 := unhide HS
          omega
        have okS := hA.ok
        have okS1 := okS.told o hBs q0.nLe
        rw [← sumB_succ ho] at okS1
        have hB1 : sumB ops (k + 1) ≤ 1048576 := by rw [sumB_succ ho]; exact hBs
        obtain ⟨fl, hfl⟩ : ∃ fl, fl = fileL s s.names (fun f => f.data) := ⟨_, rfl⟩
        obtain ⟨dl, hdl⟩ : ∃ dl, dl = fileL s s.durable (fun f => f.data.take f.dur) := ⟨_, rfl⟩
        have HFL := hide (show ∀ y ∈ fl, y.2.length ≤ 140737488355328 by rw [hfl]; exact fileL_le okS (by omega) _ _ (fun _ => Nat.le_refl _))
        have HDL := hide (show ∀ y ∈ dl, y.2.length ≤ 140737488355328 by rw [hdl]; exact fileL_le okS (by omega) _ _ (fun f => by simp; omega))
        have HF1 : Hid (∀ (K : Nat → Prop) (W : World), One K W F s → Calls Tryd.prog 25 #[.pointer (some ⟨F, 0, none⟩)] W fun e w' => ∃ (a : Option Addr) (c : Nat), e = .returned (.slice a fl.length c) ∧ FilesAt w' W.heap.size (.slice a fl.length c) fl ∧ Below W.heap.size W w') :=
          fun K W h => files_one h okS (by omega) (by omega) hfl.symm
        have HD1 : Hid (∀ (K : Nat → Prop) (W : World), One K W F s → Calls Tryd.prog 24 #[.pointer (some ⟨F, 0, none⟩)] W fun e w' => ∃ (a : Option Addr) (c : Nat), e = .returned (.slice a dl.length c) ∧ FilesAt w' W.heap.size (.slice a dl.length c) dl ∧ Below W.heap.size W w') :=
          fun K W h => durable_one h okS (by omega) (by omega) hdl.symm
        have HT1 : Hid (∀ (K : Nat → Prop) (W : World), (∀ b, b < w2.heap.size → K b) → Below w2.heap.size w2 W → One K W F s →
            Calls Tryd.prog 30 #[.pointer (some ⟨F, 0, none⟩), .agg #[.int .i64 o.kind, .int .i64 o.n, .int .i64 o.m, .string o.name, .string o.tgt, .slice o.ba o.b.length o.bc]] W fun e w' => e = .returned (.int .i64 (toldR s o).1) ∧ One K w' F (toldR s o).2 ∧ Keep K W w') :=
          fun K W hK hb h => told_one h hb hK okS (by omega) q2 hBs
        have HQ : Hid (∀ W, Below w2.heap.size w2 W → OpAt W B (x + k * 6) o) := fun W hb => q2.below hb
        have hOne := hA.one
        have HBel := hide hA.below
        have hquo := hA.quota
        have hwi := hA.within
        have hq1 := told_quota s o
        have hz7 : o.kind = 7 → (toldR s o).1 = 0 := told_zero7
        have hsz : o.kind ≠ 7 → s.size ≤ s.quota → (toldR s o).2.size ≤ s.quota := told_size okS o
        have herr : (toldR s o).1 ≠ 0 → Unturned s (toldR s o).2 := told_err
        obtain ⟨E, S1, hES⟩ : ∃ E S1, toldR s o = (E, S1) := ⟨_, _, rfl⟩
        rw [hES] at okS1 HT1 hq1 hz7 hsz herr
        clear hA q0 q2 ho hES
        have hq2 : S1.quota = min (max q 0) 67108864 := hq1.trans hquo
        have HS1 := hide okS1
        have HQ2 := hide hq2
        by_cases hE : E = 0
        · cases cr with
          | true =>
            subst hE
            clear okS okS1 hfl hdl herr hsz hwi hq1 hquo hz7 hq2
            go_wp2_with fail
            refine (unhide HF1 _ _ hOne).mono ?_
            rintro e w4 ⟨fa, fc, rfl, hFA, hB4⟩
            obtain ⟨hO4, hK4⟩ := hOne.below hB4
            have hb4 : Below w2.heap.size w2 w4 := (unhide HBel).trans (hB4.mono (unhide HBel).size)
            go_wp2_with fail
            refine (unhide HD1 _ _ hO4).mono ?_
            rintro e w5 ⟨da, dc, rfl, hDA, hB5⟩
            obtain ⟨hO5, hK5⟩ := hO4.below hB5
            have hb5 : Below w2.heap.size w2 w5 := hb4.trans (hB5.mono hb4.size)
            go_wp2_with fail
            refine (steps_one hO5).mono ?_
            rintro e w6 ⟨rfl, rfl⟩
            obtain ⟨p0, p1, p2, p3, p4, p5⟩ := (unhide HQ w6 hb5).cells
            go_wp2_with fail
            refine (unhide HT1 _ _ (fun b hb => Or.inl (Or.inl hb)) hb5 hO5).mono ?_
            rintro e w7 ⟨rfl, hO7, hK7⟩
            have hb7 : Below w2.heap.size w2 w7 := (((Keep.of_below hb5 (fun _ h => h)).trans (hK7.mono (fun b hb => Or.inl (Or.inl hb)))).below)
            have hFA7 : FilesAt w7 wr.heap.size (.slice fa fl.length fc) fl := (hFA.below hB5).keep hK7 (fun b h1 h2 => if h : b < w4.heap.size then Or.inl (Or.inr ⟨h1, h⟩) else Or.inr ⟨Nat.le_of_not_lt h, h2⟩)
            have hDA7 : FilesAt w7 w4.heap.size (.slice da dl.length dc) dl := hDA.keep hK7 (fun b h1 h2 => Or.inr ⟨h1, h2⟩)
            clear hFA hDA hO4 hO5 hK4 hK5 hK7 hB4 hB5 hb4 hb5 p0 p1 p2 p3 p4 p5
            have hO12 := hO7.less (fun b (hb : b < w2.heap.size) => Or.inl (Or.inl hb))
            clear hFA7 hDA7 hO7
            have HNX : Hid (Refus w2 w7 F q ops (k + 1) true S1) := ⟨hO12, unhide HS1, unhide HQ2, (fun h => by cases h), hb7⟩
            go_wp2_with fail
            go_roundw
            case rel => exact ⟨true, k + 1, S1, by omega, by go_num, by go_num, unhide HNX⟩
            case measure => simp [intOf]; omega
          | false =>
            by_cases h7 : o.kind = 7
            · subst hE
              rw [h7] at HT1 m0
              clear okS okS1 hfl hdl herr hsz hwi hq1 hquo hz7 hq2
              go_wp2_with fail
              refine (unhide HF1 _ _ hOne).mono ?_
              rintro e w4 ⟨fa, fc, rfl, hFA, hB4⟩
              obtain ⟨hO4, hK4⟩ := hOne.below hB4
              have hb4 : Below w2.heap.size w2 w4 := (unhide HBel).trans (hB4.mono (unhide HBel).size)
              go_wp2_with fail
              refine (unhide HD1 _ _ hO4).mono ?_
              rintro e w5 ⟨da, dc, rfl, hDA, hB5⟩
              obtain ⟨hO5, hK5⟩ := hO4.below hB5
              have hb5 : Below w2.heap.size w2 w5 := hb4.trans (hB5.mono hb4.size)
              go_wp2_with fail
              refine (steps_one hO5).mono ?_
              rintro e w6 ⟨rfl, rfl⟩
              obtain ⟨p0, p1, p2, p3, p4, p5⟩ := (unhide HQ w6 hb5).cells
              rw [h7] at p0
              go_wp2_with fail
              refine (unhide HT1 _ _ (fun b hb => Or.inl (Or.inl hb)) hb5 hO5).mono ?_
              rintro e w7 ⟨rfl, hO7, hK7⟩
              have hb7 : Below w2.heap.size w2 w7 := (((Keep.of_below hb5 (fun _ h => h)).trans (hK7.mono (fun b hb => Or.inl (Or.inl hb)))).below)
              have hFA7 : FilesAt w7 wr.heap.size (.slice fa fl.length fc) fl := (hFA.below hB5).keep hK7 (fun b h1 h2 => if h : b < w4.heap.size then Or.inl (Or.inr ⟨h1, h⟩) else Or.inr ⟨Nat.le_of_not_lt h, h2⟩)
              have hDA7 : FilesAt w7 w4.heap.size (.slice da dl.length dc) dl := hDA.keep hK7 (fun b h1 h2 => Or.inr ⟨h1, h2⟩)
              clear hFA hDA hO4 hO5 hK4 hK5 hK7 hB4 hB5 hb4 hb5 p0 p1 p2 p3 p4 p5
              have hO12 := hO7.less (fun b (hb : b < w2.heap.size) => Or.inl (Or.inl hb))
              clear hFA7 hDA7 hO7
              have HNX : Hid (Refus w2 w7 F q ops (k + 1) true S1) := ⟨hO12, unhide HS1, unhide HQ2, (fun h => by cases h), hb7⟩
              go_wp2_with fail
              go_roundw
              case rel => exact ⟨true, k + 1, S1, by omega, by go_num, by go_num, unhide HNX⟩
              case measure => simp [intOf]; omega
            · subst hE
              have hin : S1.size ≤ min (max q 0) 67108864 := by have h1 := hsz h7 (hwi rfl); rw [hquo] at h1; exact h1
              have HIN : Hid (S1.size ≤ S1.quota) := by rw [hq2]; exact hin
              have hk7 : (o.kind == (7 : Int)) = false := by simpa using h7
              clear okS okS1 hfl hdl herr hsz hwi hq1 hquo hz7 hq2
              go_wp2_with fail
              refine (unhide HF1 _ _ hOne).mono ?_
              rintro e w4 ⟨fa, fc, rfl, hFA, hB4⟩
              obtain ⟨hO4, hK4⟩ := hOne.below hB4
              have hb4 : Below w2.heap.size w2 w4 := (unhide HBel).trans (hB4.mono (unhide HBel).size)
              go_wp2_with fail
              refine (unhide HD1 _ _ hO4).mono ?_
              rintro e w5 ⟨da, dc, rfl, hDA, hB5⟩
              obtain ⟨hO5, hK5⟩ := hO4.below hB5
              have hb5 : Below w2.heap.size w2 w5 := hb4.trans (hB5.mono hb4.size)
              go_wp2_with fail
              refine (steps_one hO5).mono ?_
              rintro e w6 ⟨rfl, rfl⟩
              obtain ⟨p0, p1, p2, p3, p4, p5⟩ := (unhide HQ w6 hb5).cells
              go_wp2_with fail
              refine (unhide HT1 _ _ (fun b hb => Or.inl (Or.inl hb)) hb5 hO5).mono ?_
              rintro e w7 ⟨rfl, hO7, hK7⟩
              have hb7 : Below w2.heap.size w2 w7 := (((Keep.of_below hb5 (fun _ h => h)).trans (hK7.mono (fun b hb => Or.inl (Or.inl hb)))).below)
              have hFA7 : FilesAt w7 wr.heap.size (.slice fa fl.length fc) fl := (hFA.below hB5).keep hK7 (fun b h1 h2 => if h : b < w4.heap.size then Or.inl (Or.inr ⟨h1, h⟩) else Or.inr ⟨Nat.le_of_not_lt h, h2⟩)
              have hDA7 : FilesAt w7 w4.heap.size (.slice da dl.length dc) dl := hDA.keep hK7 (fun b h1 h2 => Or.inr ⟨h1, h2⟩)
              clear hFA hDA hO4 hO5 hK4 hK5 hK7 hB4 hB5 hb4 hb5 p0 p1 p2 p3 p4 p5
              have hO12 := hO7.less (fun b (hb : b < w2.heap.size) => Or.inl (Or.inl hb))
              clear hFA7 hDA7 hO7
              go_wp2_with fail
              refine (size_one hO12).mono ?_
              rintro e w13 ⟨rfl, rfl⟩
              have HNX : Hid (Refus w2 w13 F q ops (k + 1) false S1) := ⟨hO12, unhide HS1, unhide HQ2, fun _ => unhide HIN, hb7⟩
              go_wp2_with fail
              go_roundw
              case rel => exact ⟨false, k + 1, S1, by omega, by go_num, by go_num, unhide HNX⟩
              case measure => simp [intOf]; omega
        · cases cr with
          | true =>
            have hun := herr hE
            have hst1 := hun.steps
            have hne : (E == (0 : Int)) = false := by simpa using hE
            have HF2 : Hid (∀ (K : Nat → Prop) (W : World), One K W F S1 → Calls Tryd.prog 25 #[.pointer (some ⟨F, 0, none⟩)] W fun e w' => ∃ (a : Option Addr) (c : Nat), e = .returned (.slice a fl.length c) ∧ FilesAt w' W.heap.size (.slice a fl.length c) fl ∧ Below W.heap.size W w') :=
              fun K W h => files_one h okS1 (by omega) hB1 (by rw [hfl]; unfold fileL; rw [hun.names, hun.files])
            have HD2 : Hid (∀ (K : Nat → Prop) (W : World), One K W F S1 → Calls Tryd.prog 24 #[.pointer (some ⟨F, 0, none⟩)] W fun e w' => ∃ (a : Option Addr) (c : Nat), e = .returned (.slice a dl.length c) ∧ FilesAt w' W.heap.size (.slice a dl.length c) dl ∧ Below W.heap.size W w') :=
              fun K W h => durable_one h okS1 (by omega) hB1 (by rw [hdl]; unfold fileL; rw [hun.durable, hun.files])
            clear okS okS1 hfl hdl herr hsz hwi hq1 hquo hz7 hq2
            clear hun
            go_wp2_with fail
            refine (unhide HF1 _ _ hOne).mono ?_
            rintro e w4 ⟨fa, fc, rfl, hFA, hB4⟩
            obtain ⟨hO4, hK4⟩ := hOne.below hB4
            have hb4 : Below w2.heap.size w2 w4 := (unhide HBel).trans (hB4.mono (unhide HBel).size)
            go_wp2_with fail
            refine (unhide HD1 _ _ hO4).mono ?_
            rintro e w5 ⟨da, dc, rfl, hDA, hB5⟩
            obtain ⟨hO5, hK5⟩ := hO4.below hB5
            have hb5 : Below w2.heap.size w2 w5 := hb4.trans (hB5.mono hb4.size)
            go_wp2_with fail
            refine (steps_one hO5).mono ?_
            rintro e w6 ⟨rfl, rfl⟩
            obtain ⟨p0, p1, p2, p3, p4, p5⟩ := (unhide HQ w6 hb5).cells
            go_wp2_with fail
            refine (unhide HT1 _ _ (fun b hb => Or.inl (Or.inl hb)) hb5 hO5).mono ?_
            rintro e w7 ⟨rfl, hO7, hK7⟩
            have hb7 : Below w2.heap.size w2 w7 := (((Keep.of_below hb5 (fun _ h => h)).trans (hK7.mono (fun b hb => Or.inl (Or.inl hb)))).below)
            have hFA7 : FilesAt w7 wr.heap.size (.slice fa fl.length fc) fl := (hFA.below hB5).keep hK7 (fun b h1 h2 => if h : b < w4.heap.size then Or.inl (Or.inr ⟨h1, h⟩) else Or.inr ⟨Nat.le_of_not_lt h, h2⟩)
            have hDA7 : FilesAt w7 w4.heap.size (.slice da dl.length dc) dl := hDA.keep hK7 (fun b h1 h2 => Or.inr ⟨h1, h2⟩)
            clear hFA hDA hO4 hO5 hK4 hK5 hK7 hB4 hB5 hb4 hb5 p0 p1 p2 p3 p4 p5
            go_wp2_with fail
            refine (unhide HF2 _ _ hO7).mono ?_
            rintro e w8 ⟨ga, gc, rfl, hGA, hB8⟩
            obtain ⟨hO8, hK8⟩ := hO7.below hB8
            have hb8 : Below w2.heap.size w2 w8 := hb7.trans (hB8.mono hb7.size)
            go_wp2_with fail
            refine (sameFiles_same rfl hGA (hFA7.below hB8) (unhide HFL)).mono ?_
            rintro e w9 ⟨rfl, nq1, hw9⟩
            have hB9 : Below w8.heap.size w8 w9 := by rw [hw9]; exact bel_drewN (Below.refl _ _) nq1
            obtain ⟨hO9, hK9⟩ := hO8.below hB9
            have hb9 : Below w2.heap.size w2 w9 := hb8.trans (hB9.mono hb8.size)
            clear hw9
            go_wp2_with fail
            refine (unhide HD2 _ _ hO9).mono ?_
            rintro e w10 ⟨ha, hc', rfl, hHA, hB10⟩
            obtain ⟨hO10, hK10⟩ := hO9.below hB10
            have hb10 : Below w2.heap.size w2 w10 := hb9.trans (hB10.mono hb9.size)
            go_wp2_with fail
            refine (sameFiles_same rfl hHA (((hDA7.below hB8).below hB9).below hB10) (unhide HDL)).mono ?_
            rintro e w11 ⟨rfl, nq2, hw11⟩
            have hB11 : Below w10.heap.size w10 w11 := by rw [hw11]; exact bel_drewN (Below.refl _ _) nq2
            obtain ⟨hO11', hK11⟩ := hO10.below hB11
            have hb11 : Below w2.heap.size w2 w11 := hb10.trans (hB11.mono hb10.size)
            have hO11 := hO11'.less (fun b (hb : b < w2.heap.size) => Or.inl (Or.inl (Or.inl (Or.inl (Or.inl (Or.inl hb))))))
            clear hw11 hFA7 hDA7 hGA hHA hO7 hO8 hO9 hO10 hO11' hK8 hK9 hK10 hK11 hB8 hB9 hB10 hB11 hb7 hb8 hb9 hb10
            go_wp2_with fail
            refine (steps_one hO11).mono ?_
            rintro e w12 ⟨rfl, rfl⟩
            rw [hst1]
            have HNX : Hid (Refus w2 w12 F q ops (k + 1) true S1) := ⟨hO11, unhide HS1, unhide HQ2, (fun h => by cases h), hb11⟩
            go_wp2_with fail
            go_roundw
            case rel => exact ⟨true, k + 1, S1, by omega, by go_num, by go_num, unhide HNX⟩
            case measure => simp [intOf]; omega
          | false =>
            by_cases h7 : o.kind = 7
            · exact absurd (hz7 h7) hE
            · have hin : S1.size ≤ min (max q 0) 67108864 := by have h1 := hsz h7 (hwi rfl); rw [hquo] at h1; exact h1
              have HIN : Hid (S1.size ≤ S1.quota) := by rw [hq2]; exact hin
              have hk7 : (o.kind == (7 : Int)) = false := by simpa using h7
              have hun := herr hE
              have hst1 := hun.steps
              have hne : (E == (0 : Int)) = false := by simpa using hE
              have HF2 : Hid (∀ (K : Nat → Prop) (W : World), One K W F S1 → Calls Tryd.prog 25 #[.pointer (some ⟨F, 0, none⟩)] W fun e w' => ∃ (a : Option Addr) (c : Nat), e = .returned (.slice a fl.length c) ∧ FilesAt w' W.heap.size (.slice a fl.length c) fl ∧ Below W.heap.size W w') :=
                fun K W h => files_one h okS1 (by omega) hB1 (by rw [hfl]; unfold fileL; rw [hun.names, hun.files])
              have HD2 : Hid (∀ (K : Nat → Prop) (W : World), One K W F S1 → Calls Tryd.prog 24 #[.pointer (some ⟨F, 0, none⟩)] W fun e w' => ∃ (a : Option Addr) (c : Nat), e = .returned (.slice a dl.length c) ∧ FilesAt w' W.heap.size (.slice a dl.length c) dl ∧ Below W.heap.size W w') :=
                fun K W h => durable_one h okS1 (by omega) hB1 (by rw [hdl]; unfold fileL; rw [hun.durable, hun.files])
              clear okS okS1 hfl hdl herr hsz hwi hq1 hquo hz7 hq2
              clear hun
              go_wp2_with fail
              refine (unhide HF1 _ _ hOne).mono ?_
              rintro e w4 ⟨fa, fc, rfl, hFA, hB4⟩
              obtain ⟨hO4, hK4⟩ := hOne.below hB4
              have hb4 : Below w2.heap.size w2 w4 := (unhide HBel).trans (hB4.mono (unhide HBel).size)
              go_wp2_with fail
              refine (unhide HD1 _ _ hO4).mono ?_
              rintro e w5 ⟨da, dc, rfl, hDA, hB5⟩
              obtain ⟨hO5, hK5⟩ := hO4.below hB5
              have hb5 : Below w2.heap.size w2 w5 := hb4.trans (hB5.mono hb4.size)
              go_wp2_with fail
              refine (steps_one hO5).mono ?_
              rintro e w6 ⟨rfl, rfl⟩
              obtain ⟨p0, p1, p2, p3, p4, p5⟩ := (unhide HQ w6 hb5).cells
              go_wp2_with fail
              refine (unhide HT1 _ _ (fun b hb => Or.inl (Or.inl hb)) hb5 hO5).mono ?_
              rintro e w7 ⟨rfl, hO7, hK7⟩
              have hb7 : Below w2.heap.size w2 w7 := (((Keep.of_below hb5 (fun _ h => h)).trans (hK7.mono (fun b hb => Or.inl (Or.inl hb)))).below)
              have hFA7 : FilesAt w7 wr.heap.size (.slice fa fl.length fc) fl := (hFA.below hB5).keep hK7 (fun b h1 h2 => if h : b < w4.heap.size then Or.inl (Or.inr ⟨h1, h⟩) else Or.inr ⟨Nat.le_of_not_lt h, h2⟩)
              have hDA7 : FilesAt w7 w4.heap.size (.slice da dl.length dc) dl := hDA.keep hK7 (fun b h1 h2 => Or.inr ⟨h1, h2⟩)
              clear hFA hDA hO4 hO5 hK4 hK5 hK7 hB4 hB5 hb4 hb5 p0 p1 p2 p3 p4 p5
              go_wp2_with fail
              refine (unhide HF2 _ _ hO7).mono ?_
              rintro e w8 ⟨ga, gc, rfl, hGA, hB8⟩
              obtain ⟨hO8, hK8⟩ := hO7.below hB8
              have hb8 : Below w2.heap.size w2 w8 := hb7.trans (hB8.mono hb7.size)
              go_wp2_with fail
              refine (sameFiles_same rfl hGA (hFA7.below hB8) (unhide HFL)).mono ?_
              rintro e w9 ⟨rfl, nq1, hw9⟩
              have hB9 : Below w8.heap.size w8 w9 := by rw [hw9]; exact bel_drewN (Below.refl _ _) nq1
              obtain ⟨hO9, hK9⟩ := hO8.below hB9
              have hb9 : Below w2.heap.size w2 w9 := hb8.trans (hB9.mono hb8.size)
              clear hw9
              go_wp2_with fail
              refine (unhide HD2 _ _ hO9).mono ?_
              rintro e w10 ⟨ha, hc', rfl, hHA, hB10⟩
              obtain ⟨hO10, hK10⟩ := hO9.below hB10
              have hb10 : Below w2.heap.size w2 w10 := hb9.trans (hB10.mono hb9.size)
              go_wp2_with fail
              refine (sameFiles_same rfl hHA (((hDA7.below hB8).below hB9).below hB10) (unhide HDL)).mono ?_
              rintro e w11 ⟨rfl, nq2, hw11⟩
              have hB11 : Below w10.heap.size w10 w11 := by rw [hw11]; exact bel_drewN (Below.refl _ _) nq2
              obtain ⟨hO11', hK11⟩ := hO10.below hB11
              have hb11 : Below w2.heap.size w2 w11 := hb10.trans (hB11.mono hb10.size)
              have hO11 := hO11'.less (fun b (hb : b < w2.heap.size) => Or.inl (Or.inl (Or.inl (Or.inl (Or.inl (Or.inl hb))))))
              clear hw11 hFA7 hDA7 hGA hHA hO7 hO8 hO9 hO10 hO11' hK8 hK9 hK10 hK11 hB8 hB9 hB10 hB11 hb7 hb8 hb9 hb10
              go_wp2_with fail
              refine (steps_one hO11).mono ?_
              rintro e w12 ⟨rfl, rfl⟩
              rw [hst1]
              go_wp2_with fail
              refine (size_one hO11).mono ?_
              rintro e w13 ⟨rfl, rfl⟩
              have HNX : Hid (Refus w2 w13 F q ops (k + 1) false S1) := ⟨hO11, unhide HS1, unhide HQ2, fun _ => unhide HIN, hb11⟩
              go_wp2_with fail
              go_roundw
              case rel => exact ⟨false, k + 1, S1, by omega, by go_num, by go_num, unhide HNX⟩
              case measure => simp [intOf]; omega
      · have hkn : k = len := by omega
        subst hkn
        have HBW := hide ((unhide HB2).trans (hA.below.mono (unhide HB2).size))
        clear hA
        go_wp2_with fail
        go_ret
        exact ⟨rfl, unhide HBW⟩

end Go.Proofs.YtbdbobikiikbgaaDoor
