/-
  SHA256 of an empty slice whose address is any.
-/
import Derived.Test.YtkablmjkffdloaaGreatDoorShaW
namespace Go.Proofs.YtkablmjkffdloaaGreatDoor
open Go.RowKit

set_option maxRecDepth 100000 in
set_option maxHeartbeats 8000000 in
theorem sha_zero {w : World} {x : Addr} {n c : Nat} {b : Bs} (hn : b.length = n) (hN0 : n = 0) (hcn : c = n) (hN : n ≤ 1152921504606846976) (hc : n ≤ c) (hc2 : c ≤ 9223372036854775807) (h : BAt w (some x) b) :
    Calls Tryz.prog 27 #[.slice (some x) n c] w fun e w' => ∃ v, e = .returned v ∧ OwnB w.heap.size w' v (shaL b) ∧ Below w.heap.size w w' := by
  have HN := hide hn
  have H := hide h
  have HN0 := hide hN0
  have HCN := hide hcn
  clear hn h hN0 hcn
  go_enter Tryz.func27, Tryz.ntmps27
  go_wp2_with (go_at_call 83; fail)
  refine (st_any w).mono ?_
  rintro e w1 ⟨rfl, b1⟩
  go_wp2_with (go_at_call 84; fail)
  refine (num_any w1).mono ?_
  rintro e w2 ⟨rfl, b2⟩
  rw [lit_num]
  have HB2 := hide (low_trans b1 b2)
  clear b1 b2
  obtain ⟨W2, hW2⟩ : ∃ W2, (w2.alloc (.cells zero8 121)).alloc (.cells zero64 123) = W2 := ⟨_, rfl⟩
  have s1 : (w2.alloc (.cells zero8 121)).heap.size = w2.heap.size + 1 := by simp
  have x1 : W2.heap[w2.heap.size]? = some (.cells zero8 121 (0, 0)) := by rw [← hW2]; exact (Blk.new w2 zero8 121).alloc _
  have x2 : W2.heap[w2.heap.size + 1]? = some (.cells zero64 123 (0, 0)) := by
    rw [← hW2]
    have := Blk.new (w2.alloc (.cells zero8 121)) zero64 123
    rw [s1] at this
    exact this
  have x3 : (W2.setRow w2.heap.size (stC st0)).heap[w2.heap.size + 1]? = some (.cells zero64 123 (0, 0)) := (setRow_other _ _ _ _ (by omega)).trans x2
  have i8 : (Tryz.prog.info? 121).map (·.size) = some (stC st0).size := by kernel_rfl
  have i64 : (Tryz.prog.info? 123).map (·.size) = some lit64.size := by kernel_rfl
  have o8 : (stC st0).all (·.oneCell') = true := by decide +kernel
  have o64 : lit64.all (·.oneCell') = true := by decide +kernel
  have HS : Hid (ShR w ((W2.setRow w2.heap.size (stC st0)).setRow (w2.heap.size + 1) lit64) w2.heap.size st0) := hide (by
    have hl := (unhide HB2).size
    have e2 : Below w.heap.size w W2 := by rw [← hW2]; exact ((unhide HB2).alloc hl _).alloc (by rw [s1]; omega) _
    refine ⟨low_setRow (low_setRow e2 hl _) (by omega) _, ?_, setRow_heap _ _ _ _ _ _ x3, hl⟩
    exact (setRow_other _ _ _ _ (by omega)).trans (setRow_heap _ _ _ _ _ _ x1))
  have HW2 := hide hW2
  clear hW2 s1 x2
  go_wp2_with (first
    | (refine wpList_store_row rfl 121 _ _ rfl w2.heap.size (stC st0) rfl rfl 121 zero8 (by rw [unhide HW2]; exact x1) i8 rfl o8 ?_; rw [unhide HW2])
    | (refine wpList_store_row rfl 123 _ _ rfl (w2.heap.size + 1) lit64 rfl rfl 123 zero64 x3 i64 rfl o64 ?_))
  obtain ⟨W3, hW3⟩ : ∃ W3, (W2.setRow w2.heap.size (stC st0)).setRow (w2.heap.size + 1) lit64 = W3 := ⟨_, rfl⟩
  rw [hW3] at HS ⊢
  obtain ⟨sB, hsB⟩ : ∃ sB, w2.heap.size = sB := ⟨_, rfl⟩
  rw [hsB] at HS ⊢
  obtain ⟨Q, hQ⟩ : ∃ Q, n / 64 = Q := ⟨_, rfl⟩
  obtain ⟨wh, hwq⟩ : ∃ wh, 64 * Q = wh := ⟨_, rfl⟩
  have hwh : (n : Int) - (n : Int) % 64 = (wh : Int) := by omega
  rw [hwh]
  have hQn : wh ≤ n := by omega
  have HWQ := hide hwq
  have HQ := hide hQ
  clear hW3 hsB x1 x3 i8 i64 o8 o64 HW2 HB2 hwh hQ hwq
  go_loopw [6] (fun v6 wr => ∃ j : Nat, j ≤ Q ∧ ∃ i : Nat, 64 * j = i ∧ v6 = .int .i64 (i : Int) ∧ ShR w wr sB (mixAll j st0 b)) (fun v6 _ => wh - (intOf v6).toNat)
  case atStart => exact ⟨0, Nat.zero_le _, 0, rfl, rfl, unhide HS⟩
  case round =>
    rename World => wr
    obtain ⟨j, hj, i, hij, rfl, hr⟩ := hrel
    by_cases hlt : j < Q
    · exfalso
      have e1 := unhide HQ
      have e2 := unhide HN0
      omega
    · have hjQ : j = Q := by omega
      subst hjQ
      have hiw : i = wh := by rw [← hij]; exact unhide HWQ
      subst hiw
      have hlr : (b.drop i).length = n - i := by rw [List.length_drop, unhide HN]
      have hr64 : n - i < 64 := by have := unhide HQ; omega
      obtain ⟨S1, hS1⟩ : ∃ S1, mixAll j st0 b = S1 := ⟨_, rfl⟩
      rw [hS1] at hr
      have HS1 := hide hS1
      have HR := hide hr
      have HBA := hide ((unhide H).low hr.low)
      have w8 : IntKind.u64.wrap (n : Int) = (n : Int) := by rw [IntKind.wrap_u64]; omega
      obtain ⟨n8, hn8⟩ : ∃ n8, n * 8 = n8 := ⟨_, rfl⟩
      have w10 : (n : Int) * 8 = (n8 : Int) := by omega
      have w9 : IntKind.u64.wrap (n8 : Int) = (n8 : Int) := by rw [IntKind.wrap_u64]; omega
      have HN8 := hide hn8
      clear hn8
      have hnn : ¬ (i : Int) < (i : Int) := by omega
      clear hr hS1 hij hlt hj HS
      have hci : c = i := by
        have e1 := unhide HCN
        have e2 := unhide HN0
        omega
      clear HN0 HCN
      · have HD : Hid (BAt wr (some x) (b.drop i)) := hide (BAt.none' (List.drop_eq_nil_of_le (by rw [unhide HN]; omega)))
        have hnc : n - i = 0 := by omega
        go_wp2_with (go_at_call 86; fail)
        refine (last_any (r := b.drop i) (n := n8) (by rw [hlr, hnc]) (by omega) (unhide HD)).mono ?_
        clear HD
        rintro e w9 ⟨v9, rfl, o9, b9⟩
        have hpad : ((b.drop i) ++ 0x80 :: List.replicate ((119 - 0) % 64) 0) ++ be8 n8 = padL (b.drop i) n := by unfold padL; rw [hlr, hnc, unhide HN8]
        rw [hpad] at o9
        obtain ⟨q, hq, hq2⟩ := pad_length (b.drop i) n (by rw [hlr]; exact hr64)
        obtain ⟨E, hE⟩ : ∃ E, padL (b.drop i) n = E := ⟨_, rfl⟩
        rw [hE] at o9 hq
        obtain ⟨a7, c7, rfl, bt7, hc7, hcm7⟩ := OwnB.at o9
        obtain ⟨L, hL⟩ : ∃ L, E.length = L := ⟨_, rfl⟩
        rw [hL] at hq hc7 ⊢
        have hne7 : ∀ B O, a7 = some ⟨B, O, none⟩ → B ≠ sB := by
          intro B O ha
          have h1 := OwnB.base o9 B (by rw [hL, ha]; rfl)
          have h2 := (unhide HR).st.lt
          omega
        have HR9 := hide ((unhide HR).on b9)
        have HL := hide hL
        have HE := hide hE
        have HB7 := hide bt7
        have HNE := hide hne7
        have hc63 : c7 ≤ 9223372036854775807 := by unfold maxLen at hcm7; omega
        have HQ2 := hide hq
        have hLs : L ≤ 128 := by omega
        clear o9 b9 hpad hE hL bt7 hne7 hcm7 hq
        go_wp2
        go_loopw [8] (fun v8 wq => ∃ j2 : Nat, j2 ≤ q ∧ ∃ i2 : Nat, 64 * j2 = i2 ∧ v8 = .int .i64 (i2 : Int) ∧ ShR w wq sB (mixAll j2 S1 E) ∧ BAt wq a7 E) (fun v8 _ => L - (intOf v8).toNat)
        case atStart => exact ⟨0, Nat.zero_le _, 0, rfl, rfl, unhide HR9, unhide HB7⟩
        case round =>
          rename World => wq
          clear HR9 HB7
          obtain ⟨j2, hj2, i2, hij2, rfl, hr2, hbt2⟩ := hrel
          by_cases hlt2 : j2 < q
          · have hL2 := unhide HQ2
            have hjn : i2 + 64 ≤ E.length := by rw [unhide HL]; omega
            have hin : i2 + 64 ≤ L := by omega
            have HBQ0 := hide hbt2
            obtain ⟨B7, O7, rfl, hcs⟩ : ∃ B O, a7 = some ⟨B, O, none⟩ ∧ ∀ k (hk : k < E.length), wq.cell? ⟨B, O + k, none⟩ = some (.int .u8 (E[k].toNat : Int)) := by
              rcases hbt2.els with h | h
              · rw [h] at hjn; simp at hjn
              · exact h
            have HBQ : Hid (BAt wq (some ⟨B7, O7, none⟩) E) := HBQ0
            obtain ⟨xs, hxs, hbl, hbc⟩ := block_at hcs hjn
            have hsn := mixAll_snoc j2 S1 E
            rw [hij2, hxs] at hsn
            obtain ⟨s, hs⟩ : ∃ s, mixAll j2 S1 E = s := ⟨_, rfl⟩
            rw [hs] at hr2 hsn
            have HSN := hide hsn
            have HIJ := hide hij2
            have HMX := hide (fun (W : World) (hW : Below wq.heap.size wq W) => mix_lit (w := W) (s := s) (c := c7 - i2) hbl (by omega) (by omega) (fun k hk => (hW.cell (lt_of_cell (hbc k hk))).trans (hbc k hk)))
            obtain ⟨t, ht⟩ : ∃ t, mix s xs = t := ⟨_, rfl⟩
            rw [ht] at HSN
            simp only [ht] at HMX
            have HR2 := hide hr2
            obtain ⟨m2, hm2⟩ : ∃ m2, i2 + 64 = m2 := ⟨_, rfl⟩
            have q1 : (i2 : Int) + 64 = (m2 : Int) := by omega
            have q2 : IntKind.i64.wrap (m2 : Int) = (m2 : Int) := by rw [IntKind.wrap_i64]; omega
            have q3 : ¬ c7 = i2 := by omega
            have q5 : (0 : Int) ≤ (i2 : Int) := by omega
            have q6 : (i2 : Int) ≤ (m2 : Int) := by omega
            have q7 : (m2 : Int) ≤ (c7 : Int) := by omega
            have q8 : m2 - i2 = 64 := by omega
            have q9 : (0 : Int) ≤ (m2 : Int) := by omega
            have q10 : (m2 : Int) - (i2 : Int) = 64 := by omega
            have HM64 := hide hm2
            have q4 : (i2 : Int) < (L : Int) := by omega
            clear hm2 hr2 hbc hbl hcs hs hxs hsn ht hij2 hjn hL2 hbt2
            have mixed : Tryz.prog.follows .mixedOrders = true := by kernel_rfl
            have i8 : (Tryz.prog.info? 121).map (·.size) = some (stC s).size := by kernel_rfl
            have i64 : (Tryz.prog.info? 123).map (·.size) = some lit64.size := by kernel_rfl
            have i8t : (Tryz.prog.info? 121).map (·.size) = some (stC t).size := by kernel_rfl
            go_wp2
            refine wp_region_any mixed ?_
            have R1 : Hid (ShR w wq.drew sB s) := hide (unhide HR2).drew
            refine wpAny_take (i := 1) (v := .slice (some ⟨B7, O7, none⟩) L c7) rfl (by kernel_rfl) (by kernel_rfl) (by kernel_rfl) (fun _ _ _ h => h) (Or.inl ⟨rfl, fun _ => rfl⟩) ?_
            refine wpAny_take (i := 2) (v := .int .i64 (i2 : Int)) rfl (by kernel_rfl) (by kernel_rfl) (by kernel_rfl) (fun _ _ _ h => h) (Or.inl ⟨rfl, fun _ => rfl⟩) ?_
            refine wpAny_take (i := 3) (v := .int .i64 (i2 : Int)) rfl (by kernel_rfl) (by kernel_rfl) (by kernel_rfl) (fun _ _ _ h => h) (Or.inl ⟨rfl, fun _ => rfl⟩) ?_
            refine wpAny_take (i := 4) (v := .int .i64 (m2 : Int)) rfl (by kernel_rfl) (by kernel_rfl) (by kernel_rfl) (fun _ _ _ h => h) (Or.inl ⟨rfl, fun _ => by go_simp⟩) ?_
            refine wpAny_take (i := 5) (v := .slice (some ⟨B7, O7 + i2, none⟩) 64 (c7 - i2)) rfl (by kernel_rfl) (by kernel_rfl) (by kernel_rfl) (fun _ _ _ h => h) (Or.inl ⟨rfl, fun _ => by go_simp⟩) ?_
            go_simp
            refine wpAny_ready (rs := [0, 6]) (by kernel_rfl) (by simp) (ready_step { dst := some 48, op := .load 121 (.tmp 3), type := 121, pos := "sha.go:20", after := #[], guard := none } rfl rfl (fun K hK => ?_) (ready_step { dst := some 54, op := .load 123 (.tmp 4), type := 123, pos := "sha.go:20", after := #[], guard := none } rfl rfl (fun K hK => ?_) AllReady.nil))
            · refine wp_load_row 121 _ rfl (sB) rfl 121 (stC s) (0, 0) _ (unhide R1).st Tryz.underlying121 rfl i8 ?_
              refine hK _ _ ?_
              clear hK K
              go_simp
              refine wpAny_ready (rs := [6]) (by kernel_rfl) (by simp) (ready_step { dst := some 54, op := .load 123 (.tmp 4), type := 123, pos := "sha.go:20", after := #[], guard := none } rfl rfl (fun K hK => ?_) AllReady.nil)
              refine wp_load_row 123 _ rfl (sB + 1) rfl 123 lit64 (0, 0) _ (unhide R1).kk Tryz.underlying123 rfl i64 ?_
              refine hK _ _ ?_
              clear hK K
              go_simp
              refine wpAny_ready (rs := [7]) (by kernel_rfl) (by simp) (AllReady.cons rfl (fun K hK => ?_) AllReady.nil)
              go_simp
              refine ((unhide HMX) _ (Below.refl _ _).drew).mono ?_
              rintro e w8 ⟨rfl, b8⟩
              have HR8 : Hid (ShR w w8 sB s) := hide ((unhide R1).on b8)
              have HT8 : Hid (BAt (w8.setRow sB (stC t)) (some ⟨B7, O7, none⟩) E) := hide (((unhide HBQ).low (low_trans (Below.refl _ _).drew b8)).setRow (unhide HNE) _)
              clear b8
              refine hK _ _ ?_
              clear hK K
              refine wpAny_ready (rs := [8]) (by kernel_rfl) (by simp) (ready_step _ rfl rfl (fun K hK => ?_) AllReady.nil)
              refine wp_store_row 121 _ _ rfl sB (stC t) rfl rfl 121 (stC s) (unhide HR8).st i8t rfl (stC_one t) ?_
              refine hK _ _ ?_
              clear hK K
              refine wpAny_done (by kernel_rfl) ?_ _
              have HP : Hid (ShR w (w8.setRow sB (stC t)) sB t) := hide ((unhide HR8).put t)
              go_wp2
              go_roundw
              case rel => exact ⟨j2 + 1, hlt2, m2, by rw [← unhide HM64, ← unhide HIJ]; omega, by simp, by rw [unhide HSN]; exact unhide HP, unhide HT8⟩
              case measure => simp [intOf]; omega
            · refine wp_load_row 123 _ rfl (sB + 1) rfl 123 lit64 (0, 0) _ (unhide R1).kk Tryz.underlying123 rfl i64 ?_
              refine hK _ _ ?_
              clear hK K
              go_simp
              refine wpAny_ready (rs := [0]) (by kernel_rfl) (by simp) (ready_step { dst := some 48, op := .load 121 (.tmp 3), type := 121, pos := "sha.go:20", after := #[], guard := none } rfl rfl (fun K hK => ?_) AllReady.nil)
              refine wp_load_row 121 _ rfl (sB) rfl 121 (stC s) (0, 0) _ (unhide R1).st Tryz.underlying121 rfl i8 ?_
              refine hK _ _ ?_
              clear hK K
              go_simp
              refine wpAny_ready (rs := [7]) (by kernel_rfl) (by simp) (AllReady.cons rfl (fun K hK => ?_) AllReady.nil)
              go_simp
              refine ((unhide HMX) _ (Below.refl _ _).drew).mono ?_
              rintro e w8 ⟨rfl, b8⟩
              have HR8 : Hid (ShR w w8 sB s) := hide ((unhide R1).on b8)
              have HT8 : Hid (BAt (w8.setRow sB (stC t)) (some ⟨B7, O7, none⟩) E) := hide (((unhide HBQ).low (low_trans (Below.refl _ _).drew b8)).setRow (unhide HNE) _)
              clear b8
              refine hK _ _ ?_
              clear hK K
              refine wpAny_ready (rs := [8]) (by kernel_rfl) (by simp) (ready_step _ rfl rfl (fun K hK => ?_) AllReady.nil)
              refine wp_store_row 121 _ _ rfl sB (stC t) rfl rfl 121 (stC s) (unhide HR8).st i8t rfl (stC_one t) ?_
              refine hK _ _ ?_
              clear hK K
              refine wpAny_done (by kernel_rfl) ?_ _
              have HP : Hid (ShR w (w8.setRow sB (stC t)) sB t) := hide ((unhide HR8).put t)
              go_wp2
              go_roundw
              case rel => exact ⟨j2 + 1, hlt2, m2, by rw [← unhide HM64, ← unhide HIJ]; omega, by simp, by rw [unhide HSN]; exact unhide HP, unhide HT8⟩
              case measure => simp [intOf]; omega
          · have hjq : j2 = q := by omega
            subst hjq
            have hiL : i2 = L := by rw [← hij2]; exact (unhide HQ2).symm
            subst hiL
            have hge : ¬ (i2 : Int) < (i2 : Int) := by omega
            obtain ⟨F, hF⟩ : ∃ F, mixAll j2 S1 E = F := ⟨_, rfl⟩
            rw [hF] at hr2
            have HFin : Hid (shaL b = (stL F).flatMap be4) := hide (by
              rw [← hF, ← unhide HS1]
              unfold shaL
              simp only
              rw [unhide HN, unhide HQ, Nat.mul_comm, unhide HWQ, unhide HE, unhide HL, unhide HQ2, Nat.mul_div_cancel_left _ (by decide : 0 < 64)])
            obtain ⟨W4, hW4⟩ : ∃ W4, wq.alloc (.cells #[.int .i64 4] 3) = W4 := ⟨_, rfl⟩
            have b4 : Below wq.heap.size wq W4 := by rw [← hW4]; exact (Below.refl _ _).alloc (Nat.le_refl _) _
            have k4 : Blk W4 wq.heap.size #[.int .i64 4] 3 := by rw [← hW4]; exact Blk.new _ _ _
            have HR4 := hide (hr2.on b4)
            have HK4 := hide k4
            have HW4 := hide hW4
            have HLT : Hid (w.heap.size ≤ wq.heap.size) := hide hr2.low.size
            obtain ⟨i0, hi, hz0, hz1, hz2⟩ := info_parts info5
            have i8 : (Tryz.prog.info? 121).map (·.size) = some (stC F).size := by kernel_rfl
            clear hr2 hbt2 hij2 hlt2 hj2 hF b4 k4 hW4
            go_wp2_with (go_at_call 87; fail)
            refine (highF 4 wq).mono ?_
            rintro e w5 ⟨rfl, hw⟩
            rw [hw, unhide HW4]; clear hw w5
            go_wp2_with (first
              | (at_make; refine wpList_make_own _ rfl _ _ 23 rfl W4.heap.size 5 i0 (.int .u8 0) 1 Tryz.underlying23 hi hz0 hz1 _ _ _ 32 rfl rfl rfl (by rw [hz2]; omega) (by unfold maxLen; omega) (Nat.le_refl _) ?_; intro w6 hown hgrow; have hlow6 := low_grownN hgrow; have HB6 : Hid (Below W4.heap.size W4 w6) := hide hlow6; have HR6 := hide ((unhide HR4).on hlow6); have HK6 := hide ((unhide HK4).low hlow6); have HO6 : Hid (OwnB W4.heap.size w6 (.slice (some ⟨W4.heap.size, 0, none⟩) 0 32) []) := hide hown; have HL6 : Hid (W4.heap.size ≤ w6.heap.size) := hide hlow6.size; have hst6 := (unhide HR6).st; clear hown hgrow hlow6)
              | (refine wpList_load_row rfl 121 _ rfl sB rfl 121 (stC F) (0, 0) _ hst6 Tryz.underlying121 rfl i8 ?_))
            clear hst6 hi hz0 hz1 hz2 i8
            go_loopw [10, 12, 59] (fun v10 _ v59 wz => ∃ k : Nat, k ≤ 8 ∧ v59 = .int .i64 (k : Int) ∧ OwnB W4.heap.size wz v10 (((stL F).take k).flatMap be4) ∧ Below W4.heap.size W4 wz) (fun _ _ v59 _ => 8 - (intOf v59).toNat)
            case atStart => exact ⟨0, Nat.zero_le _, rfl, unhide HO6, unhide HB6⟩
            case round =>
              rename World => wz
              clear HO6 HB6
              obtain ⟨k, hk, rfl, ho, hb⟩ := hrel
              have hcell := ((unhide HK4).low hb).cell 0
              by_cases hk8 : k < 8
              · have wa : ∀ x : UInt32, IntKind.u64.wrap (x.toNat : Int) = (x.toNat : Int) := fun x => by have := u32_lt x; rw [IntKind.wrap_u64]; omega
                have hkk : k = 0 ∨ k = 1 ∨ k = 2 ∨ k = 3 ∨ k = 4 ∨ k = 5 ∨ k = 6 ∨ k = 7 := by omega
                rcases hkk with rfl | rfl | rfl | rfl | rfl | rfl | rfl | rfl
                · have HG := hide (high4 (x := F.a) ho hcell hb.size (Nat.le_of_ble_eq_true rfl))
                  have HO := hide (OwnB.base ho)
                  have HB := hide hb
                  clear ho hcell hb
                  go_wp2
                  rename_i hK
                  refine hK _ _ ?_
                  clear hK
                  simp only [size39, Nat.mul_one, show Int.toNat 0 = 0 from rfl, List.getElem_toArray, List.getElem_cons_zero]
                  go_wp2_with (go_at_call 144; fail)
                  refine (unhide HG).mono ?_
                  rintro e wy ⟨vy, rfl, oy, gy⟩
                  have HZ : Hid (OwnB W4.heap.size wy vy (((stL F).take 1).flatMap be4) ∧ Below W4.heap.size W4 wy) := hide ⟨oy, (unhide HB).trans (gy.low (unhide HB).size (unhide HO))⟩
                  clear oy gy HB HO HG
                  go_wp2
                  go_roundw
                  case rel => exact ⟨1, by omega, by simp, (unhide HZ).1, (unhide HZ).2⟩
                  case measure => simp [intOf]
                · have HG := hide (high4 (x := F.b) ho hcell hb.size (Nat.le_of_ble_eq_true rfl))
                  have HO := hide (OwnB.base ho)
                  have HB := hide hb
                  clear ho hcell hb
                  go_wp2
                  rename_i hK
                  refine hK _ _ ?_
                  clear hK
                  simp only [size39, Nat.mul_one, show Int.toNat 1 = 1 from rfl, List.getElem_toArray, List.getElem_cons_zero, List.getElem_cons_succ]
                  go_wp2_with (go_at_call 144; fail)
                  refine (unhide HG).mono ?_
                  rintro e wy ⟨vy, rfl, oy, gy⟩
                  have HZ : Hid (OwnB W4.heap.size wy vy (((stL F).take 2).flatMap be4) ∧ Below W4.heap.size W4 wy) := hide ⟨oy, (unhide HB).trans (gy.low (unhide HB).size (unhide HO))⟩
                  clear oy gy HB HO HG
                  go_wp2
                  go_roundw
                  case rel => exact ⟨2, by omega, by simp, (unhide HZ).1, (unhide HZ).2⟩
                  case measure => simp [intOf]
                · have HG := hide (high4 (x := F.c) ho hcell hb.size (Nat.le_of_ble_eq_true rfl))
                  have HO := hide (OwnB.base ho)
                  have HB := hide hb
                  clear ho hcell hb
                  go_wp2
                  rename_i hK
                  refine hK _ _ ?_
                  clear hK
                  simp only [size39, Nat.mul_one, show Int.toNat 2 = 2 from rfl, List.getElem_toArray, List.getElem_cons_zero, List.getElem_cons_succ]
                  go_wp2_with (go_at_call 144; fail)
                  refine (unhide HG).mono ?_
                  rintro e wy ⟨vy, rfl, oy, gy⟩
                  have HZ : Hid (OwnB W4.heap.size wy vy (((stL F).take 3).flatMap be4) ∧ Below W4.heap.size W4 wy) := hide ⟨oy, (unhide HB).trans (gy.low (unhide HB).size (unhide HO))⟩
                  clear oy gy HB HO HG
                  go_wp2
                  go_roundw
                  case rel => exact ⟨3, by omega, by simp, (unhide HZ).1, (unhide HZ).2⟩
                  case measure => simp [intOf]
                · have HG := hide (high4 (x := F.d) ho hcell hb.size (Nat.le_of_ble_eq_true rfl))
                  have HO := hide (OwnB.base ho)
                  have HB := hide hb
                  clear ho hcell hb
                  go_wp2
                  rename_i hK
                  refine hK _ _ ?_
                  clear hK
                  simp only [size39, Nat.mul_one, show Int.toNat 3 = 3 from rfl, List.getElem_toArray, List.getElem_cons_zero, List.getElem_cons_succ]
                  go_wp2_with (go_at_call 144; fail)
                  refine (unhide HG).mono ?_
                  rintro e wy ⟨vy, rfl, oy, gy⟩
                  have HZ : Hid (OwnB W4.heap.size wy vy (((stL F).take 4).flatMap be4) ∧ Below W4.heap.size W4 wy) := hide ⟨oy, (unhide HB).trans (gy.low (unhide HB).size (unhide HO))⟩
                  clear oy gy HB HO HG
                  go_wp2
                  go_roundw
                  case rel => exact ⟨4, by omega, by simp, (unhide HZ).1, (unhide HZ).2⟩
                  case measure => simp [intOf]
                · have HG := hide (high4 (x := F.e) ho hcell hb.size (Nat.le_of_ble_eq_true rfl))
                  have HO := hide (OwnB.base ho)
                  have HB := hide hb
                  clear ho hcell hb
                  go_wp2
                  rename_i hK
                  refine hK _ _ ?_
                  clear hK
                  simp only [size39, Nat.mul_one, show Int.toNat 4 = 4 from rfl, List.getElem_toArray, List.getElem_cons_zero, List.getElem_cons_succ]
                  go_wp2_with (go_at_call 144; fail)
                  refine (unhide HG).mono ?_
                  rintro e wy ⟨vy, rfl, oy, gy⟩
                  have HZ : Hid (OwnB W4.heap.size wy vy (((stL F).take 5).flatMap be4) ∧ Below W4.heap.size W4 wy) := hide ⟨oy, (unhide HB).trans (gy.low (unhide HB).size (unhide HO))⟩
                  clear oy gy HB HO HG
                  go_wp2
                  go_roundw
                  case rel => exact ⟨5, by omega, by simp, (unhide HZ).1, (unhide HZ).2⟩
                  case measure => simp [intOf]
                · have HG := hide (high4 (x := F.f) ho hcell hb.size (Nat.le_of_ble_eq_true rfl))
                  have HO := hide (OwnB.base ho)
                  have HB := hide hb
                  clear ho hcell hb
                  go_wp2
                  rename_i hK
                  refine hK _ _ ?_
                  clear hK
                  simp only [size39, Nat.mul_one, show Int.toNat 5 = 5 from rfl, List.getElem_toArray, List.getElem_cons_zero, List.getElem_cons_succ]
                  go_wp2_with (go_at_call 144; fail)
                  refine (unhide HG).mono ?_
                  rintro e wy ⟨vy, rfl, oy, gy⟩
                  have HZ : Hid (OwnB W4.heap.size wy vy (((stL F).take 6).flatMap be4) ∧ Below W4.heap.size W4 wy) := hide ⟨oy, (unhide HB).trans (gy.low (unhide HB).size (unhide HO))⟩
                  clear oy gy HB HO HG
                  go_wp2
                  go_roundw
                  case rel => exact ⟨6, by omega, by simp, (unhide HZ).1, (unhide HZ).2⟩
                  case measure => simp [intOf]
                · have HG := hide (high4 (x := F.g) ho hcell hb.size (Nat.le_of_ble_eq_true rfl))
                  have HO := hide (OwnB.base ho)
                  have HB := hide hb
                  clear ho hcell hb
                  go_wp2
                  rename_i hK
                  refine hK _ _ ?_
                  clear hK
                  simp only [size39, Nat.mul_one, show Int.toNat 6 = 6 from rfl, List.getElem_toArray, List.getElem_cons_zero, List.getElem_cons_succ]
                  go_wp2_with (go_at_call 144; fail)
                  refine (unhide HG).mono ?_
                  rintro e wy ⟨vy, rfl, oy, gy⟩
                  have HZ : Hid (OwnB W4.heap.size wy vy (((stL F).take 7).flatMap be4) ∧ Below W4.heap.size W4 wy) := hide ⟨oy, (unhide HB).trans (gy.low (unhide HB).size (unhide HO))⟩
                  clear oy gy HB HO HG
                  go_wp2
                  go_roundw
                  case rel => exact ⟨7, by omega, by simp, (unhide HZ).1, (unhide HZ).2⟩
                  case measure => simp [intOf]
                · have HG := hide (high4 (x := F.h) ho hcell hb.size (Nat.le_of_ble_eq_true rfl))
                  have HO := hide (OwnB.base ho)
                  have HB := hide hb
                  clear ho hcell hb
                  go_wp2
                  rename_i hK
                  refine hK _ _ ?_
                  clear hK
                  simp only [size39, Nat.mul_one, show Int.toNat 7 = 7 from rfl, List.getElem_toArray, List.getElem_cons_zero, List.getElem_cons_succ]
                  go_wp2_with (go_at_call 144; fail)
                  refine (unhide HG).mono ?_
                  rintro e wy ⟨vy, rfl, oy, gy⟩
                  have HZ : Hid (OwnB W4.heap.size wy vy (((stL F).take 8).flatMap be4) ∧ Below W4.heap.size W4 wy) := hide ⟨oy, (unhide HB).trans (gy.low (unhide HB).size (unhide HO))⟩
                  clear oy gy HB HO HG
                  go_wp2
                  go_roundw
                  case rel => exact ⟨8, by omega, by simp, (unhide HZ).1, (unhide HZ).2⟩
                  case measure => simp [intOf]
              · have h8 : k = 8 := by omega
                subst h8
                have HZ := hide (And.intro (OwnB.less (unhide HR4).low.size ho) ((unhide HR4).low.trans (hb.mono (unhide HR4).low.size)))
                clear ho hb hcell
                go_wp2
                go_ret
                rw [unhide HFin]
                exact ⟨_, rfl, (unhide HZ).1, (unhide HZ).2⟩

end Go.Proofs.YtkablmjkffdloaaGreatDoor
