/-
  The contract of FsApart: it answers true, and nothing that was there has turned.
-/
import Derived.Test.YtbdbobikiikbgaaDoorThree
namespace Go.Proofs.YtbdbobikiikbgaaDoor
open Go.RowKit Go.WideMaps Go.Maps Go.Sort

/-- What stands between two rounds of the first loop. -/
structure Apart1 (w2 wr : World) (F1 F2 F3 : Nat) (s t : AS) : Prop where
  tri : Tri (fun b => b < w2.heap.size) wr F1 F2 F3 s t s
  below : Below w2.heap.size w2 wr
/-- And of the second. -/
structure Apart2 (w2 wr : World) (F1 F2 : Nat) (s t : AS) : Prop where
  two : Two (fun b => b < w2.heap.size) wr F1 F2 s t
  below : Below w2.heap.size w2 wr

set_option maxRecDepth 100000 in
set_option maxHeartbeats 4000000 in
theorem apart_any (q : Int) (a : Option Addr) (len c : Nat) (ops : List AOp) (a' : Option Addr) (len' c' : Nat) (ops' : List AOp) (w : World) (hg : ∃ m, w.cell? ⟨0, 0, none⟩ = some (.int .i64 m))
    (hlen : len = ops.length) (hc : len ≤ c) (hm : len ≤ 9223372036854775807) (hops : OpsAt w a ops) (hlen' : len' = ops'.length) (hc' : len' ≤ c') (hm' : len' ≤ 9223372036854775807) (hops' : OpsAt w a' ops')
    (hsum : (ops.map fun o => o.b.length).sum + (ops'.map fun o => o.b.length).sum ≤ 1048576) :
    Calls Tryd.prog 7 #[.int .i64 q, .slice a len c, .slice a' len' c'] w fun e w' => e = .returned (.bool true) ∧ Below w.heap.size w w' := by
  have HF := hide (first_any w hg)
  have HG := hide hg
  have HO := hide hops
  have HO' := hide hops'
  have HS := hide hsum
  have HL := hide hlen
  have HL' := hide hlen'
  have HOB : Hid (∀ W, Below w.heap.size w W → OpsAt W a ops) := fun W hb i o ho => by
    obtain ⟨B, x, e, q⟩ := hops i o ho
    exact ⟨B, x, e, q.below hb⟩
  have HOB' : Hid (∀ W, Below w.heap.size w W → OpsAt W a' ops') := fun W hb i o ho => by
    obtain ⟨B, x, e, q⟩ := hops' i o ho
    exact ⟨B, x, e, q.below hb⟩
  have HNEW : Hid (∀ W, Below w.heap.size w W → ∃ m, W.cell? ⟨0, 0, none⟩ = some (.int .i64 m)) := by
    intro W hb
    obtain ⟨m, hm⟩ := hg
    exact ⟨m, (hb.cell (lt_of_cell hm)).trans hm⟩
  have HZ : Hid (0 < w.heap.size) := by obtain ⟨m, hm⟩ := hg; exact lt_of_cell hm
  clear hg hops hops' hsum hlen hlen'
  go_enter Tryd.func7, Tryd.ntmps7
  go_wp2_with (go_at_call 9; refine (unhide HF).mono ?_; rintro e w1 ⟨rfl, hB1⟩)
  refine (few_any (unhide HL) hc hm (unhide HOB _ hB1)).mono ?_
  rintro e w2 ⟨⟨r, rfl, hr⟩, nq, hw2⟩
  have hB2 : Below w.heap.size w w2 := by rw [hw2]; exact ⟨hB1.os, hB1.tape, hB1.output, hB1.size, hB1.block⟩
  have HB2 := hide hB2
  clear hB1 hw2 hB2
  cases r with
  | false =>
    clear hr
    go_wp2
    go_ret
    exact ⟨rfl, unhide HB2⟩
  | true =>
    have h300 := hr rfl
    clear hr
    go_wp2_with fail
    refine (few_any (unhide HL') hc' hm' (unhide HOB' _ (unhide HB2))).mono ?_
    rintro e w3 ⟨⟨r, rfl, hr⟩, nq', hw3⟩
    have hB3 : Below w.heap.size w w3 := by rw [hw3]; exact bel_drewN (unhide HB2) nq'
    have HB3 := hide hB3
    clear hw3 hB3
    cases r with
    | false =>
      clear hr
      go_wp2
      go_ret
      exact ⟨rfl, unhide HB3⟩
    | true =>
      have h300' := hr rfl
      clear hr
      have hsum' := unhide HS
      have HMA := hide (made_any q a len c ops w3 (unhide HNEW _ (unhide HB3)) (unhide HL) hc (by omega) (unhide HOB _ (unhide HB3)) (by omega))
      have HMB : Hid (∀ W, Below w.heap.size w W → Calls Tryd.prog 12 #[.int .i64 q, .slice a len c] W fun e w' => ∃ F, e = .returned (.pointer (some ⟨F, 0, none⟩)) ∧ MadeR W w' F (madeS q ops len)) := fun W hb =>
        made_any q a len c ops W (unhide HNEW _ hb) (unhide HL) hc (by omega) (unhide HOB _ hb) (by omega)
      have ok0 := made_ok q ops (by omega) (unhide HO).nle len (by have := unhide HL; omega)
      have okB : OK (madeS q ops len) len (ops.map fun o => o.b.length).sum := ok0.mono (Nat.le_refl _) (sumB_le ops len)
      obtain ⟨b0, hb0⟩ : ∃ b0, b0 = (ops.map fun o => o.b.length).sum := ⟨_, rfl⟩
      rw [← hb0] at okB hsum'
      obtain ⟨s, hs⟩ : ∃ s, s = madeS q ops len := ⟨_, rfl⟩
      rw [← hs] at okB HMA HMB
      have hb1 : b0 ≤ 1048576 := by omega
      have HTO := hide (tell_ok okB ops' hsum' (unhide HO').nle)
      have HOK := hide okB
      have HSM := hide hsum'
      clear ok0 okB hsum' hb0 hs
      go_wp2_with fail
      refine (unhide HMA).mono ?_
      rintro e w4 ⟨F1, rfl, hM4⟩
      have hB4 : Below w.heap.size w w4 := (unhide HB3).trans (hM4.below.mono (unhide HB3).size)
      go_wp2_with fail
      refine (copy_two hM4.one (unhide HOK) (by omega) hb1).mono ?_
      rintro e w5 ⟨F2, rfl, hT5, hB5⟩
      have hB5' : Below w.heap.size w w5 := hB4.trans (hB5.mono hB4.size)
      have hb35 : Below w3.heap.size w3 w5 := hM4.below.trans (hB5.mono hM4.below.size)
      clear hM4 hB4 hB5
      go_wp2_with fail
      refine (unhide HMB _ hB5').mono ?_
      rintro e w6 ⟨F3, rfl, hM6⟩
      have hst : Apart1 w3 w6 F1 F2 F3 s (tellS s ops' 0) := by
        rw [tellS_zero]
        exact ⟨made_tri hT5 (Nat.lt_of_lt_of_le (unhide HZ) (unhide HB3).size) hM6, hb35.trans (hM6.below.mono hb35.size)⟩
      clear hT5 hB5' hb35 hM6
      go_wp2_with fail
      go_loopw [12] (fun i wr => ∃ k : Nat, k ≤ len' ∧ i = .int .i64 k ∧ Apart1 w3 wr F1 F2 F3 s (tellS s ops' k)) (fun i _ => len' - (intOf i).toNat)
      case atStart => exact ⟨0, Nat.zero_le _, rfl, hst⟩
      case round =>
        obtain ⟨k, hk, rfl, hA⟩ := hrel
        clear hst
        by_cases hlt : k < len'
        · obtain ⟨o, ho⟩ : ∃ o, ops'[k]? = some o := ⟨ops'[k]'(by rw [← unhide HL']; exact hlt), by simp⟩
          obtain ⟨B, x, rfl, q0⟩ := unhide HOB' w3 (unhide HB3) k o ho
          obtain ⟨m0, m1, m2, m3, m4, m5⟩ := (q0.below hA.below).cells
          have hBs : b0 + sumB ops' k + o.b.length ≤ 1048576 := by
            have h1 := sumB_le ops' (k + 1)
            have h2 := sumB_succ ho
            have h3 := unhide HSM
            omega
          have HT := hide (hA.tri.told hA.below (fun _ h => h) (unhide HTO k (by have := unhide HL'; omega)) (by omega) q0 hBs)
          rw [← tellS_succ s ho] at HT
          have HB := hide hA.below
          clear hA q0 ho
          go_wp2_with fail
          refine (unhide HT).mono ?_
          rintro e w7 ⟨rfl, hO7, hK7⟩
          have HNX : Hid (Apart1 w3 w7 F1 F2 F3 s (tellS s ops' (k + 1))) := ⟨hO7, ((Keep.of_below (unhide HB) (fun _ h => h)).trans hK7).below⟩
          clear hO7 hK7
          go_wp2_with fail
          go_roundw
          case rel => exact ⟨k + 1, by omega, by go_num, unhide HNX⟩
          case measure => simp [intOf]; omega
        · have hkn : k = len' := by omega
          subst hkn
          have okT := unhide HTO k (by have := unhide HL'; omega)
          have hsB : b0 + sumB ops' k ≤ 1048576 := by have h1 := sumB_le ops' k; have h3 := unhide HSM; omega
          obtain ⟨T, hT⟩ : ∃ T, T = tellS s ops' k := ⟨_, rfl⟩
          rw [← hT] at hA okT
          have HTD := hide hT
          obtain ⟨fl, hfl⟩ : ∃ fl, fl = fileL s s.names (fun f => f.data) := ⟨_, rfl⟩
          obtain ⟨dl, hdl⟩ : ∃ dl, dl = fileL s s.durable (fun f => f.data.take f.dur) := ⟨_, rfl⟩
          have HFL := hide (show ∀ y ∈ fl, y.2.length ≤ 140737488355328 by rw [hfl]; exact fileL_le (unhide HOK) hb1 _ _ (fun _ => Nat.le_refl _))
          have HDL := hide (show ∀ y ∈ dl, y.2.length ≤ 140737488355328 by rw [hdl]; exact fileL_le (unhide HOK) hb1 _ _ (fun f => by simp; omega))
          have HFE := hide hfl.symm
          have HDE := hide hdl.symm
          have HOT := hide okT
          have hTr := hA.tri
          have HBel := hide hA.below
          clear hA okT hT hfl hdl
          go_wp2_with fail
          refine (files_two hTr.two (unhide HOK) (by omega) hb1 (unhide HFE)).mono ?_
          rintro e w7 ⟨fa7, fc7, rfl, hF7, hB7⟩
          have hT7 := hTr.below hB7
          have hb7 : Below w3.heap.size w3 w7 := (unhide HBel).trans (hB7.mono (unhide HBel).size)
          go_wp2_with fail
          refine (hT7.files3 (unhide HOK) (by omega) hb1 (unhide HFE)).mono ?_
          rintro e w8 ⟨fa8, fc8, rfl, hF8, hB8⟩
          have hT8 := hT7.below hB8
          have hb8 : Below w3.heap.size w3 w8 := hb7.trans (hB8.mono hb7.size)
          go_wp2_with fail
          refine (sameFiles_same rfl (hF7.below hB8) hF8 (unhide HFL)).mono ?_
          rintro e w9 ⟨rfl, nq1, hw9⟩
          have hB9 : Below w8.heap.size w8 w9 := by rw [hw9]; exact bel_drewN (Below.refl _ _) nq1
          have hT9 := hT8.below hB9
          have hb9 : Below w3.heap.size w3 w9 := hb8.trans (hB9.mono hb8.size)
          clear hw9 hTr hT7 hT8 hF7 hF8 hB7 hB8 hB9 hb7 hb8
          go_wp2_with fail
          refine (durable_two hT9.two (unhide HOK) (by omega) hb1 (unhide HDE)).mono ?_
          rintro e w10 ⟨fa10, fc10, rfl, hF10, hB10⟩
          have hT10 := hT9.below hB10
          have hb10 : Below w3.heap.size w3 w10 := hb9.trans (hB10.mono hb9.size)
          go_wp2_with fail
          refine (hT10.durable3 (unhide HOK) (by omega) hb1 (unhide HDE)).mono ?_
          rintro e w11 ⟨fa11, fc11, rfl, hF11, hB11⟩
          have hT11 := hT10.below hB11
          have hb11 : Below w3.heap.size w3 w11 := hb10.trans (hB11.mono hb10.size)
          go_wp2_with fail
          refine (sameFiles_same rfl (hF10.below hB11) hF11 (unhide HDL)).mono ?_
          rintro e w12 ⟨rfl, nq2, hw12⟩
          have hB12 : Below w11.heap.size w11 w12 := by rw [hw12]; exact bel_drewN (Below.refl _ _) nq2
          have hst2 : Apart2 w3 w12 F1 F2 (tellS s ops' 0) T := by
            rw [tellS_zero]
            exact ⟨(hT11.below hB12).two, hb11.trans (hB12.mono hb11.size)⟩
          clear hw12 hT9 hT10 hT11 hF10 hF11 hB10 hB11 hB12 hb9 hb10 hb11
          go_wp2_with fail
          go_loopw [14] (fun i wr => ∃ j : Nat, j ≤ k ∧ i = .int .i64 j ∧ Apart2 w3 wr F1 F2 (tellS s ops' j) T) (fun i _ => k - (intOf i).toNat)
          case atStart => exact ⟨0, Nat.zero_le _, rfl, hst2⟩
          case round =>
            obtain ⟨j, hj, rfl, hA⟩ := hrel
            clear hst2
            by_cases hlt2 : j < k
            · obtain ⟨o, ho⟩ : ∃ o, ops'[j]? = some o := ⟨ops'[j]'(by rw [← unhide HL']; exact hlt2), by simp⟩
              obtain ⟨B, x, rfl, q0⟩ := unhide HOB' w3 (unhide HB3) j o ho
              obtain ⟨m0, m1, m2, m3, m4, m5⟩ := (q0.below hA.below).cells
              have hBs : b0 + sumB ops' j + o.b.length ≤ 1048576 := by
                have h1 := sumB_le ops' (j + 1)
                have h2 := sumB_succ ho
                have h3 := unhide HSM
                omega
              have HT := hide (told_two7 hA.two hA.below (fun _ h => h) (unhide HTO j (by have := unhide HL'; omega)) (by omega) q0 hBs)
              rw [← tellS_succ s ho] at HT
              have HB := hide hA.below
              clear hA q0 ho
              go_wp2_with fail
              refine (unhide HT).mono ?_
              rintro e w13 ⟨rfl, hO13, hK13⟩
              have HNX : Hid (Apart2 w3 w13 F1 F2 (tellS s ops' (j + 1)) T) := ⟨hO13, ((Keep.of_below (unhide HB) (fun _ h => h)).trans hK13).below⟩
              clear hO13 hK13
              go_wp2_with fail
              go_roundw
              case rel => exact ⟨j + 1, by omega, by go_num, unhide HNX⟩
              case measure => simp [intOf]; omega
            · have hjn : j = k := by omega
              subst hjn
              rw [← unhide HTD] at hA
              obtain ⟨gl, hgl⟩ : ∃ gl, gl = fileL T T.names (fun f => f.data) := ⟨_, rfl⟩
              obtain ⟨el, hel⟩ : ∃ el, el = fileL T T.durable (fun f => f.data.take f.dur) := ⟨_, rfl⟩
              have HGL := hide (show ∀ y ∈ gl, y.2.length ≤ 140737488355328 by rw [hgl]; exact fileL_le (unhide HOT) hsB _ _ (fun _ => Nat.le_refl _))
              have HEL := hide (show ∀ y ∈ el, y.2.length ≤ 140737488355328 by rw [hel]; exact fileL_le (unhide HOT) hsB _ _ (fun f => by simp; omega))
              have HGE := hide hgl.symm
              have HEE := hide hel.symm
              have hTw := hA.two
              have HBl := hide hA.below
              clear hA hgl hel HTD
              go_wp2_with fail
              refine (files_two hTw (unhide HOT) (by omega) hsB (unhide HGE)).mono ?_
              rintro e w13 ⟨fa13, fc13, rfl, hF13, hB13⟩
              have hT13 := (hTw.below hB13).1
              have hb13 : Below w3.heap.size w3 w13 := (unhide HBl).trans (hB13.mono (unhide HBl).size)
              go_wp2_with fail
              refine (files_two hT13.swap (unhide HOT) (by omega) hsB (unhide HGE)).mono ?_
              rintro e w14 ⟨fa14, fc14, rfl, hF14, hB14⟩
              have hT14 := (hT13.below hB14).1
              have hb14 : Below w3.heap.size w3 w14 := hb13.trans (hB14.mono hb13.size)
              go_wp2_with fail
              refine (sameFiles_same rfl (hF13.below hB14) hF14 (unhide HGL)).mono ?_
              rintro e w15 ⟨rfl, nq3, hw15⟩
              have hB15 : Below w14.heap.size w14 w15 := by rw [hw15]; exact bel_drewN (Below.refl _ _) nq3
              have hT15 := (hT14.below hB15).1
              have hb15 : Below w3.heap.size w3 w15 := hb14.trans (hB15.mono hb14.size)
              clear hw15 hTw hT13 hT14 hF13 hF14 hB13 hB14 hB15 hb13 hb14
              go_wp2_with fail
              refine (durable_two hT15 (unhide HOT) (by omega) hsB (unhide HEE)).mono ?_
              rintro e w16 ⟨fa16, fc16, rfl, hF16, hB16⟩
              have hT16 := (hT15.below hB16).1
              have hb16 : Below w3.heap.size w3 w16 := hb15.trans (hB16.mono hb15.size)
              go_wp2_with fail
              refine (durable_two hT16.swap (unhide HOT) (by omega) hsB (unhide HEE)).mono ?_
              rintro e w17 ⟨fa17, fc17, rfl, hF17, hB17⟩
              have hT17 := (hT16.below hB17).1
              have hb17 : Below w3.heap.size w3 w17 := hb16.trans (hB17.mono hb16.size)
              go_wp2_with fail
              refine (sameFiles_same rfl (hF16.below hB17) hF17 (unhide HEL)).mono ?_
              rintro e w18 ⟨rfl, nq4, hw18⟩
              have hB18 : Below w17.heap.size w17 w18 := by rw [hw18]; exact bel_drewN (Below.refl _ _) nq4
              have hT18 := (hT17.below hB18).1
              have hb18 : Below w3.heap.size w3 w18 := hb17.trans (hB18.mono hb17.size)
              have HBE := hide ((unhide HB3).trans (hb18.mono (unhide HB3).size))
              clear hw18 hT15 hT16 hT17 hF16 hF17 hB16 hB17 hB18 hb15 hb16 hb17 hb18
              go_wp2_with fail
              refine (steps_two hT18).mono ?_
              rintro e w19 ⟨rfl, rfl⟩
              go_wp2_with fail
              refine (steps_two hT18.swap).mono ?_
              rintro e w20 ⟨rfl, rfl⟩
              clear hT18
              go_wp2_with fail
              go_ret
              first | exact ⟨rfl, unhide HBE⟩ | exact ⟨by simp, unhide HBE⟩

end Go.Proofs.YtbdbobikiikbgaaDoor
