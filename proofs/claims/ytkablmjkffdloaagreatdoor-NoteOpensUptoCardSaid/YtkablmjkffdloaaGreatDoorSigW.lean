/-
  Any text signed by any keys: the law's walk.
-/
import Derived.Test.YtkablmjkffdloaaGreatDoorSgnX
import Derived.Test.YtkablmjkffdloaaGreatDoorFstN
namespace Go.Proofs.YtkablmjkffdloaaGreatDoor
open Go.RowKit

theorem gd_good {ts : List Wk} : ∀ t ∈ gd ts, goodB t.nm t.sec = true := fun _ ht => (List.mem_filter.1 ht).2
theorem gd_sub {ts : List Wk} : ∀ t ∈ gd ts, t ∈ ts := fun _ ht => (List.mem_filter.1 ht).1
theorem good_len {nm sec : Bs} (h : goodB nm sec = true) : nm.length ≤ 50 ∧ sec.length ≤ 64 := by
  unfold goodB nameB at h
  simp only [Bool.and_eq_true, decide_eq_true_eq] at h
  exact ⟨h.1.2.2, h.2.2⟩
theorem low_drewN (w : World) (q : Nat) : Below w.heap.size w (w.drewN q) := ⟨rfl, rfl, rfl, Nat.le_refl _, fun _ _ => rfl⟩

set_option maxRecDepth 100000 in
set_option maxHeartbeats 8000000 in
theorem signs_law {w : World} {text sig : Bs} {a sa : Option Addr} {n c sn sc : Nat} {ts : List Wk} (hg : Gy w) (hn : ts.length = n) (hok : ∀ t ∈ ts, t.nm.length ≤ 2000000 ∧ t.sec.length ≤ 2000000) (hb : ∀ t ∈ ts, BAt w t.a t.sec) (hp : PRow w a ts) (hs : sig.length = sn) (hsb : BAt w sa sig) :
    Calls Tryz.prog 11 #[.string (ba text), .slice a n c, .slice sa sn sc] w fun e w' => e = .returned (.bool true) ∧ Below w.heap.size w w' := by
  have K0 := hide (noteFirst_any hg)
  have HN := hide hn
  have HO := hide hok
  have HBT := hide hb
  have HP := hide hp
  have HS := hide hs
  have HSB := hide hsb
  obtain ⟨tl, htl⟩ : ∃ tl, text.length = tl := ⟨_, rfl⟩
  have hsz : (ba text).size = tl := by rw [ba_size]; exact htl
  have HTL := hide htl
  clear hg hn hok hb hp hs hsb htl
  go_enter Tryz.func11, Tryz.ntmps11
  go_wp2_with (go_at_call 51; fail)
  refine (unhide K0).mono ?_
  rintro e w1 ⟨rfl, b1⟩
  have HB1 := hide b1
  have KF := hide (few_any (c := c) (unhide HN) (unhide HO) ((unhide HP).low b1))
  clear b1 K0
  go_wp2_with (go_at_call 52; fail)
  refine (unhide KF).mono ?_
  rintro e w2 ⟨⟨b, rfl, hfew⟩, q, hw2⟩
  have HB2 : Hid (Below w.heap.size w w2) := hide (by rw [hw2]; exact low_trans (unhide HB1) (low_drewN _ _))
  clear hw2 KF HB1
  cases b with
  | false =>
    clear hfew
    go_wp2
    go_ret
    exact ⟨rfl, unhide HB2⟩
  | true =>
    have hn20 := hfew rfl
    clear hfew
    by_cases g1 : 4000 < tl
    · have a1 : (4000 : Int) < (tl : Int) := by omega
      go_wp2
      go_ret
      exact ⟨rfl, unhide HB2⟩
    have a1 : ¬ (4000 : Int) < (tl : Int) := by omega
    by_cases g2 : 4000 < sn
    · have a2 : (4000 : Int) < (sn : Int) := by omega
      go_wp2
      go_ret
      exact ⟨rfl, unhide HB2⟩
    have a2 : ¬ (4000 : Int) < (sn : Int) := by omega
    have KK := hide (keys_any (c := c) (unhide HN) (by omega) (unhide HO) ((unhide HP).low (unhide HB2)) (fun t ht => (unhide HBT t ht).low (unhide HB2)))
    go_wp2_with (go_at_call 53; fail)
    refine (unhide KK).mono ?_
    rintro e w3 ⟨a1', c1', a2', c2', rfl, hk3, hp3, b3⟩
    have hbw3 := low_trans (unhide HB2) b3
    obtain ⟨us, hus⟩ : ∃ us, gd ts = us := ⟨_, rfl⟩
    have hgood : ∀ t ∈ us, goodB t.nm t.sec = true := by rw [← hus]; exact gd_good
    have hbt : ∀ t ∈ us, BAt w3 t.a t.sec := by rw [← hus]; exact fun t ht => (unhide HBT t (gd_sub t ht)).low hbw3
    have hum : us.length ≤ 1000 := by rw [← hus]; have := gd_len ts; have := unhide HN; omega
    rw [hus] at hk3 hp3
    obtain ⟨m, hm⟩ : ∃ m, us.length = m := ⟨_, rfl⟩
    have hkok : ∀ k ∈ us.map kyOf, KyOk k := fun k hk => by
      obtain ⟨t, ht, rfl⟩ := List.mem_map.1 hk
      have := good_len (hgood t ht)
      exact ⟨Nat.le_trans this.1 (by omega), Nat.le_trans this.2 (by omega)⟩
    have KS := hide (sign_any (w := w3) (text := text) (n := m) (c := c1') (by have := unhide HTL; omega) (by rw [List.length_map]; exact hm) (by omega) hkok hk3)
    obtain ⟨ST, hST⟩ : ∃ ST, signT text (us.map kyOf) = ST := ⟨_, rfl⟩
    obtain ⟨SE, hSE⟩ : ∃ SE, signE text (us.map kyOf) = SE := ⟨_, rfl⟩
    rw [hST, hSE] at KS
    have KR : Hid (∀ W, Below w3.heap.size w3 W → Calls Tryz.prog 59 #[.string (ba text), .slice a2' m c2'] W fun e w' => e = .returned (.tuple #[.string (ba ST), .int .i64 SE]) ∧ Below W.heap.size W w') := hide (fun W hW => by
      have k := refSign_any (w := W) (text := text) (c := c2') (by have := unhide HTL; omega) hm (by omega) hgood (fun t ht => (hbt t ht).low hW) (hp3.low hW)
      rw [hST, hSE] at k
      exact k)
    have HK3 := hide hk3
    have HP3 := hide hp3
    have HBW3 := hide hbw3
    have HGD := hide hgood
    have HBU := hide hbt
    have HM := hide hm
    have HSB3 := hide ((unhide HSB).low hbw3)
    have hm2 : m ≤ 1000 := by omega
    rw [hus, hm]
    clear hk3 hp3 b3 hbw3 hgood hbt hum hkok hST hSE hus hm KK HB2
    go_wp2_with (go_at_call 54; fail)
    refine (unhide KS).mono ?_
    rintro e w4 ⟨rfl, b4⟩
    have HB4 := hide b4
    clear b4 KS
    go_wp2_with (go_at_call 59; fail)
    refine (unhide KR _ (unhide HB4)).mono ?_
    rintro e w5 ⟨rfl, b5⟩
    have HB5 := hide (low_trans (unhide HB4) b5)
    clear b5 KR HB4
    go_wp2
    go_loopw [16, 17, 18] (fun v16 _ _ wr => ∃ i : Nat, i ≤ m ∧ v16 = .int .i64 (i : Int) ∧ Below w3.heap.size w3 wr) (fun v16 _ _ _ => m - (intOf v16).toNat)
    case atStart => exact ⟨0, Nat.zero_le _, rfl, unhide HB5⟩
    case round =>
      rename World => wr
      obtain ⟨i, hi, rfl, hbr⟩ := hrel
      by_cases hlt : i < m
      · have hiu : i < us.length := by rw [unhide HM]; exact hlt
        have hik : i < (us.map kyOf).length := by rw [List.length_map]; exact hiu
        have hlt' : (i : Int) < (m : Int) := by omega
        obtain ⟨B, O, rfl, g0, g1⟩ := ((unhide HK3).low hbr).at hik
        obtain ⟨B2, O2, rfl, g2, g3⟩ := ((unhide HP3).low hbr).at hiu
        have hbx := (unhide HBU _ (List.getElem_mem hiu)).low hbr
        have hgx := good_len (unhide HGD _ (List.getElem_mem hiu))
        have hki : (us.map kyOf)[i] = kyOf us[i] := by simp
        rw [hki] at g0 g1
        obtain ⟨x, hx⟩ : ∃ x, us[i] = x := ⟨_, rfl⟩
        rw [hx] at g0 g1 g2 g3 hbx hgx
        obtain ⟨nm, sec, xa, xc⟩ := x
        unfold kyOf at g0 g1
        simp only at g0 g1 g2 g3 hbx hgx
        obtain ⟨sl, hsl⟩ : ∃ sl, sec.length = sl := ⟨_, rfl⟩
        have HS64 : Hid (sec.length ≤ 1000000) := hide (by omega)
        rw [hsl] at g3 hgx
        have htl3 : text.length ≤ 1000000 := by have := unhide HTL; omega
        have K60 := hide (keySign_any (nm := nm) (sec := sec) (text := text) (by omega) htl3 wr)
        unfold keyV at K60
        have HBR := hide hbr
        have HBX := hide hbx
        have HSL := hide hsl
        have HG := hide (show (wr.cell? ⟨B, O + i * 2, none⟩ = some (.string (ba nm)) ∧ wr.cell? ⟨B, O + i * 2 + 1, none⟩ = some (.string (ba sec))) ∧ (wr.cell? ⟨B2, O2 + i * 2, none⟩ = some (.string (ba nm)) ∧ wr.cell? ⟨B2, O2 + i * 2 + 1, none⟩ = some (.slice xa sl xc)) ∧ Below wr.heap.size wr wr from ⟨⟨g0, g1⟩, ⟨g2, g3⟩, Below.refl _ _⟩)
        clear hbr hbx hx hki hsl g2 g3
        go_wp2_with (go_at_call 60; fail)
        refine (unhide K60).mono ?_
        rintro e w6 ⟨v6, rfl, o6, b6⟩
        obtain ⟨g6, c6, rfl, at6, -, -⟩ := OwnB.adr2 o6 (sha32 _)
        have F6 := four_at (unhide HG) b6
        obtain ⟨⟨k0, k1⟩, ⟨z0, z1⟩, -⟩ := F6
        have HB6 := hide b6
        have HAT6 := hide at6
        have K61 := hide (refSig_any (w := w6) (nm := nm) (sec := sec) (text := text) (c := xc) (unhide HSL) (by omega) htl3 ((unhide HBX).low b6))
        clear b6 at6 o6 K60 g0 g1
        go_wp2_with (go_at_call 61; fail)
        refine (unhide K61).mono ?_
        rintro e w7 ⟨v7, rfl, o7, b7⟩
        obtain ⟨g7, c7, rfl, at7, -, -⟩ := OwnB.adr2 o7 (sha32 _)
        have K23 := hide (sameBytes_any (c := c6) (c2 := c7) (sha32 _) (sha32 _) (by omega) (by omega) ((unhide HAT6).low b7) at7)
        have HB7 := hide b7
        clear o7 b7 at7 K61 k0 k1 z0 z1
        go_wp2_with (go_at_call 23; fail)
        refine (unhide K23).mono ?_
        rintro e w8 ⟨rfl, q8, hw8⟩
        rw [show decide True = true from rfl]
        have b68 : Below w6.heap.size w6 w8 := by rw [hw8]; exact low_trans (unhide HB7) (low_drewN _ _)
        have F8 := four_at (unhide HG) (low_trans (unhide HB6) b68)
        obtain ⟨⟨k0, k1⟩, ⟨z0, z1⟩, -⟩ := F8
        have K62 := hide (verify_any (w := w8) (nm := nm) (sec := sec) (text := text) (sig := sigL sec text) (c := c6) (unhide HS64) htl3 (sha32 _) ((unhide HAT6).low b68))
        have HB8 := hide (low_trans (unhide HB6) b68)
        clear hw8 b68 K23 z0 z1
        go_wp2_with (go_at_call 62; fail)
        refine (unhide K62).mono ?_
        rintro e w9 ⟨rfl, b9⟩
        rw [show decide True = true from rfl]
        have b19 := low_trans (unhide HB8) b9
        have hS := four_at (unhide HG) b19
        have hSd := four_at hS (lowD (Below.refl _ _))
        have HB19 := hide b19
        have hbx9 := (unhide HBX).low b19
        have hsb9 := (unhide HSB3).low (low_trans (unhide HBR) b19)
        obtain ⟨vb, hvb⟩ : ∃ vb, decide (sig = sigL sec text) = vb := ⟨_, rfl⟩
        have H62 : Hid (∀ wx, ((wx.cell? ⟨B, O + i * 2, none⟩ = some (.string (ba nm)) ∧ wx.cell? ⟨B, O + i * 2 + 1, none⟩ = some (.string (ba sec))) ∧ (wx.cell? ⟨B2, O2 + i * 2, none⟩ = some (.string (ba nm)) ∧ wx.cell? ⟨B2, O2 + i * 2 + 1, none⟩ = some (.slice xa sl xc)) ∧ Below wr.heap.size wr wx) → Calls Tryz.prog 62 #[.agg #[.string (ba nm), .string (ba sec)], .string (ba text), .slice sa sn sc] wx fun e w' => e = .returned (.bool vb) ∧ ((w'.cell? ⟨B, O + i * 2, none⟩ = some (.string (ba nm)) ∧ w'.cell? ⟨B, O + i * 2 + 1, none⟩ = some (.string (ba sec))) ∧ (w'.cell? ⟨B2, O2 + i * 2, none⟩ = some (.string (ba nm)) ∧ w'.cell? ⟨B2, O2 + i * 2 + 1, none⟩ = some (.slice xa sl xc)) ∧ Below wr.heap.size wr w')) := hide (fun wx hx => by
          have k := verify_any (w := wx) (nm := nm) (sec := sec) (text := text) (sig := sig) (c := sc) (unhide HS64) htl3 (unhide HS) ((unhide HSB3).low (low_trans (unhide HBR) hx.2.2))
          rw [hvb] at k
          refine k.mono ?_
          rintro e w' ⟨rfl, b⟩
          exact ⟨rfl, four_at hx b⟩)
        have H62b : Hid (∀ wx g7, ((wx.cell? ⟨B, O + i * 2, none⟩ = some (.string (ba nm)) ∧ wx.cell? ⟨B, O + i * 2 + 1, none⟩ = some (.string (ba sec))) ∧ (wx.cell? ⟨B2, O2 + i * 2, none⟩ = some (.string (ba nm)) ∧ wx.cell? ⟨B2, O2 + i * 2 + 1, none⟩ = some (.slice xa sl xc)) ∧ Below wr.heap.size wr wx) → Hid (BAt wx (some ⟨g7, 0, none⟩) (sigL sec text)) → Calls Tryz.prog 62 #[.agg #[.string (ba nm), .string (ba sec)], .string (ba text), .slice sa sn sc] wx fun e w' => e = .returned (.bool vb) ∧ Hid (BAt w' (some ⟨g7, 0, none⟩) (sigL sec text)) ∧ ((w'.cell? ⟨B, O + i * 2, none⟩ = some (.string (ba nm)) ∧ w'.cell? ⟨B, O + i * 2 + 1, none⟩ = some (.string (ba sec))) ∧ (w'.cell? ⟨B2, O2 + i * 2, none⟩ = some (.string (ba nm)) ∧ w'.cell? ⟨B2, O2 + i * 2 + 1, none⟩ = some (.slice xa sl xc)) ∧ Below wr.heap.size wr w')) := hide (fun wx g7 hx hv => by
          have k := verify_any (w := wx) (nm := nm) (sec := sec) (text := text) (sig := sig) (c := sc) (unhide HS64) htl3 (unhide HS) ((unhide HSB3).low (low_trans (unhide HBR) hx.2.2))
          rw [hvb] at k
          refine k.mono ?_
          rintro e w' ⟨rfl, b⟩
          exact ⟨rfl, hide ((unhide hv).low b), four_at hx b⟩)
        have H61 : Hid (∀ wx, ((wx.cell? ⟨B, O + i * 2, none⟩ = some (.string (ba nm)) ∧ wx.cell? ⟨B, O + i * 2 + 1, none⟩ = some (.string (ba sec))) ∧ (wx.cell? ⟨B2, O2 + i * 2, none⟩ = some (.string (ba nm)) ∧ wx.cell? ⟨B2, O2 + i * 2 + 1, none⟩ = some (.slice xa sl xc)) ∧ Below wr.heap.size wr wx) → Calls Tryz.prog 61 #[.agg #[.string (ba nm), .slice xa sl xc], .string (ba text)] wx fun e w' => ∃ g cap, e = .returned (.slice (some ⟨g, 0, none⟩) 32 cap) ∧ Hid (BAt w' (some ⟨g, 0, none⟩) (sigL sec text)) ∧ ((w'.cell? ⟨B, O + i * 2, none⟩ = some (.string (ba nm)) ∧ w'.cell? ⟨B, O + i * 2 + 1, none⟩ = some (.string (ba sec))) ∧ (w'.cell? ⟨B2, O2 + i * 2, none⟩ = some (.string (ba nm)) ∧ w'.cell? ⟨B2, O2 + i * 2 + 1, none⟩ = some (.slice xa sl xc)) ∧ Below wr.heap.size wr w')) := hide (fun wx hx => by
          refine (refSig_any (nm := nm) (sec := sec) (text := text) (c := xc) (unhide HSL) (by omega) htl3 ((unhide HBX).low hx.2.2)).mono ?_
          rintro e w' ⟨v, rfl, o, b⟩
          obtain ⟨g, cap, rfl, hat, -, -⟩ := OwnB.adr2 o (sha32 _)
          exact ⟨g, cap, rfl, hide hat, four_at hx b⟩)
        have H23 : Hid (∀ wx g7 c7, ((wx.cell? ⟨B, O + i * 2, none⟩ = some (.string (ba nm)) ∧ wx.cell? ⟨B, O + i * 2 + 1, none⟩ = some (.string (ba sec))) ∧ (wx.cell? ⟨B2, O2 + i * 2, none⟩ = some (.string (ba nm)) ∧ wx.cell? ⟨B2, O2 + i * 2 + 1, none⟩ = some (.slice xa sl xc)) ∧ Below wr.heap.size wr wx) → Hid (BAt wx (some ⟨g7, 0, none⟩) (sigL sec text)) → Calls Tryz.prog 23 #[.slice sa sn sc, .slice (some ⟨g7, 0, none⟩) 32 c7] wx fun e w' => e = .returned (.bool vb) ∧ Hid (BAt w' (some ⟨g7, 0, none⟩) (sigL sec text)) ∧ ((w'.cell? ⟨B, O + i * 2, none⟩ = some (.string (ba nm)) ∧ w'.cell? ⟨B, O + i * 2 + 1, none⟩ = some (.string (ba sec))) ∧ (w'.cell? ⟨B2, O2 + i * 2, none⟩ = some (.string (ba nm)) ∧ w'.cell? ⟨B2, O2 + i * 2 + 1, none⟩ = some (.slice xa sl xc)) ∧ Below wr.heap.size wr w')) := hide (fun wx g7 c7 hx hv => by
          have k := sameBytes_any (w := wx) (b2 := sigL sec text) (c := sc) (c2 := c7) (unhide HS) (sha32 _ : (sigL sec text).length = 32) (by omega) (by omega) ((unhide HSB3).low (low_trans (unhide HBR) hx.2.2)) (unhide hv)
          rw [hvb] at k
          refine k.mono ?_
          rintro e w' ⟨rfl, q, hw⟩
          have b : Below wx.heap.size wx w' := by rw [hw]; exact low_drewN _ _
          exact ⟨rfl, hide ((unhide hv).low b), four_at hx b⟩)
        have hvv : (vb != vb) = false := by simp
        clear hbx9 hsb9 hvb K62 b9 b19 k0 k1 hgx htl3
        go_wp2
        go_region_held3 (fun wx => (wx.cell? ⟨B, O + i * 2, none⟩ = some (.string (ba nm)) ∧ wx.cell? ⟨B, O + i * 2 + 1, none⟩ = some (.string (ba sec))) ∧ (wx.cell? ⟨B2, O2 + i * 2, none⟩ = some (.string (ba nm)) ∧ wx.cell? ⟨B2, O2 + i * 2 + 1, none⟩ = some (.slice xa sl xc)) ∧ Below wr.heap.size wr wx)
          (first | assumption | exact hS | exact hSd)
          (first
            | (go_at_call 62; first
                | (revert hv61; intro hv61; refine (unhide H62b _ _ (by assumption) hv61).mono ?_; rintro e w11 ⟨rfl, hv61, hS11⟩)
                | (refine (unhide H62 _ (by assumption)).mono ?_; rintro e w11 ⟨rfl, hS11⟩))
            | (go_at_call 61; refine (unhide H61 _ (by assumption)).mono ?_; rintro e w11 ⟨g11, c11, rfl, hv61, hS11⟩)
            | (go_at_call 23; revert hv61; intro hv61; refine (unhide H23 _ _ _ (by assumption) hv61).mono ?_; rintro e w11 ⟨rfl, hv61, hS11⟩))
        all_goals
          have HB11 : Hid (Below w3.heap.size w3 w11) := hide (low_trans (unhide HBR) hS11.2.2)
          clear hS hSd hS11 hv61
          go_wp2
          go_roundw
          case rel => exact ⟨i + 1, hlt, by push_cast; rfl, unhide HB11⟩
          case measure => simp [intOf]; omega
      · have hie : i = m := by omega
        subst hie
        have HBR := hide (low_trans (unhide HBW3) hbr)
        have hs1 : ((ba ST).toList == (ba ST).toList) = true := by simp
        have hs2 : (SE == SE) = true := by simp
        have KE := hide (errno_any SE)
        clear hbr
        go_wp2_with (go_at_call 19; refine (unhide KE _).mono ?_; rintro e wn ⟨rfl, hwn⟩; rw [hwn]; clear hwn wn)
        go_ret
        exact ⟨rfl, unhide HBR⟩
end Go.Proofs.YtkablmjkffdloaaGreatDoor
