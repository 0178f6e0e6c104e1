/-
  What is good is a key's: the law's walk.
-/
import Derived.Test.YtkablmjkffdloaaGreatDoorSgnX
import Derived.Test.YtkablmjkffdloaaGreatDoorFstN
import Derived.Test.YtkablmjkffdloaaGreatDoorOpeX
namespace Go.Proofs.YtkablmjkffdloaaGreatDoor
open Go.RowKit

theorem gd_good {ts : List Wk} : ∀ t ∈ gd ts, goodB t.nm t.sec = true := fun _ ht => (List.mem_filter.1 ht).2
theorem gd_sub {ts : List Wk} : ∀ t ∈ gd ts, t ∈ ts := fun _ ht => (List.mem_filter.1 ht).1
theorem good_len {nm sec : Bs} (h : goodB nm sec = true) : nm.length ≤ 50 ∧ sec.length ≤ 64 := by
  unfold goodB nameB at h
  simp only [Bool.and_eq_true, decide_eq_true_eq] at h
  exact ⟨h.1.2.2, h.2.2⟩
theorem low_drewN (w : World) (q : Nat) : Below w.heap.size w (w.drewN q) := ⟨rfl, rfl, rfl, Nat.le_refl _, fun _ _ => rfl⟩

set_option maxRecDepth 100000 in
set_option maxHeartbeats 8000000 in
theorem signs_law {w : World} {text sig : Bs} {a sa : Option Addr} {n c sn sc : Nat} {ts : List Wk} (hg : Gy w) (hn : ts.length = n) (hok : ∀ t ∈ ts, t.nm.length ≤ 2000000 ∧ t.sec.length ≤ 2000000) (hb : ∀ t ∈ ts, BAt w t.a t.sec) (hp : PRow w a ts) (hs : sig.length = sn) (hsb : BAt w sa sig) :
    Calls Tryz.prog 11 #[.string (ba text), .slice a n c, .slice sa sn sc] w fun e w' => e = .returned (.bool true) ∧ Below w.heap.size w w' := by
  have K0 := hide (noteFirst_any hg)
  have HN := hide hn
  have HO := hide hok
  have HBT := hide hb
  have HP := hide hp
  have HS := hide hs
  have HSB := hide hsb
  obtain ⟨tl, htl⟩ : ∃ tl, text.length = tl := ⟨_, rfl⟩
  have hsz : (ba text).size = tl := by rw [ba_size]; exact htl
  have HTL := hide htl
  clear hg hn hok hb hp hs hsb htl
  go_enter Tryz.func11, Tryz.ntmps11
  go_wp2_with (go_at_call 51; fail)
  refine (unhide K0).mono ?_
  rintro e w1 ⟨rfl, b1⟩
  have HB1 := hide b1
  have KF := hide (few_any (c := c) (unhide HN) (unhide HO) ((unhide HP).low b1))
  clear b1 K0
  go_wp2_with (go_at_call 52; fail)
  refine (unhide KF).mono ?_
  rintro e w2 ⟨⟨b, rfl, hfew⟩, q, hw2⟩
  have HB2 : Hid (Below w.heap.size w w2) := hide (by rw [hw2]; exact low_trans (unhide HB1) (low_drewN _ _))
  clear hw2 KF HB1
  cases b with
  | false =>
    clear hfew
    go_wp2
    go_ret
    exact ⟨rfl, unhide HB2⟩
  | true =>
    have hn20 := hfew rfl
    clear hfew
    by_cases g1 : 4000 < tl
    · have a1 : (4000 : Int) < (tl : Int) := by omega
      go_wp2
      go_ret
      exact ⟨rfl, unhide HB2⟩
    have a1 : ¬ (4000 : Int) < (tl : Int) := by omega
    by_cases g2 : 4000 < sn
    · have a2 : (4000 : Int) < (sn : Int) := by omega
      go_wp2
      go_ret
      exact ⟨rfl, unhide HB2⟩
    have a2 : ¬ (4000 : Int) < (sn : Int) := by omega
    have KK := hide (keys_any (c := c) (unhide HN) (by omega) (unhide HO) ((unhide HP).low (unhide HB2)) (fun t ht => (unhide HBT t ht).low (unhide HB2)))
    go_wp2_with (go_at_call 53; fail)
    refine (unhide KK).mono ?_
    rintro e w3 ⟨a1', c1', a2', c2', rfl, hk3, hp3, b3⟩
    have hbw3 := low_trans (unhide HB2) b3
    obtain ⟨us, hus⟩ : ∃ us, gd ts = us := ⟨_, rfl⟩
    have hgood : ∀ t ∈ us, goodB t.nm t.sec = true := by rw [← hus]; exact gd_good
    have hbt : ∀ t ∈ us, BAt w3 t.a t.sec := by rw [← hus]; exact fun t ht => (unhide HBT t (gd_sub t ht)).low hbw3
    have hum : us.length ≤ 1000 := by rw [← hus]; have := gd_len ts; have := unhide HN; omega
    rw [hus] at hk3 hp3
    obtain ⟨m, hm⟩ : ∃ m, us.length = m := ⟨_, rfl⟩
    have hkok : ∀ k ∈ us.map kyOf, KyOk k := fun k hk => by
      obtain ⟨t, ht, rfl⟩ := List.mem_map.1 hk
      have := good_len (hgood t ht)
      exact ⟨Nat.le_trans this.1 (by omega), Nat.le_trans this.2 (by omega)⟩
    have KS := hide (sign_any (w := w3) (text := text) (n := m) (c := c1') (by have := unhide HTL; omega) (by rw [List.length_map]; exact hm) (by omega) hkok hk3)
    obtain ⟨ST, hST⟩ : ∃ ST, signT text (us.map kyOf) = ST := ⟨_, rfl⟩
    obtain ⟨SE, hSE⟩ : ∃ SE, signE text (us.map kyOf) = SE := ⟨_, rfl⟩
    rw [hST, hSE] at KS
    have KR : Hid (∀ W, Below w3.heap.size w3 W → Calls Tryz.prog 59 #[.string (ba text), .slice a2' m c2'] W fun e w' => e = .returned (.tuple #[.string (ba ST), .int .i64 SE]) ∧ Below W.heap.size W w') := hide (fun W hW => by
      have k := refSign_any (w := W) (text := text) (c := c2') (by have := unhide HTL; omega) hm (by omega) hgood (fun t ht => (hbt t ht).low hW) (hp3.low hW)
      rw [hST, hSE] at k
      exact k)
    have HK3 := hide hk3
    have HP3 := hide hp3
    have HBW3 := hide hbw3
    have HGD := hide hgood
    have HBU := hide hbt
    have HM := hide hm
    have HSB3 := hide ((unhide HSB).low hbw3)
    have hm2 : m ≤ 1000 := by omega
    rw [hus, hm]
    clear hk3 hp3 b3 hbw3 hgood hbt hum hkok hST hSE hus hm KK HB2
    go_wp2_with (go_at_call 54; fail)
    refine (unhide KS).mono ?_
    rintro e w4 ⟨rfl, b4⟩
    have HB4 := hide b4
    clear b4 KS
    go_wp2_with (go_at_call 59; fail)
    refine (unhide KR _ (unhide HB4)).mono ?_
    rintro e w5 ⟨rfl, b5⟩
    have HB5 := hide (low_trans (unhide HB4) b5)
    clear b5 KR HB4
    go_wp2
    go_loopw [16, 17, 18] (fun v16 _ _ wr => ∃ i : Nat, i ≤ m ∧ v16 = .int .i64 (i : Int) ∧ Below w3.heap.size w3 wr) (fun v16 _ _ _ => m - (intOf v16).toNat)
    case atStart => exact ⟨0, Nat.zero_le _, rfl, unhide HB5⟩
    case round =>
      rename World => wr
      obtain ⟨i, hi, rfl, hbr⟩ := hrel
      by_cases hlt : i < m
      · have hiu : i < us.length := by rw [unhide HM]; exact hlt
        have hik : i < (us.map kyOf).length := by rw [List.length_map]; exact hiu
        have hlt' : (i : Int) < (m : Int) := by omega
        obtain ⟨B, O, rfl, g0, g1⟩ := ((unhide HK3).low hbr).at hik
        obtain ⟨B2, O2, rfl, g2, g3⟩ := ((unhide HP3).low hbr).at hiu
        have hbx := (unhide HBU _ (List.getElem_mem hiu)).low hbr
        have hgx := good_len (unhide HGD _ (List.getElem_mem hiu))
        have hki : (us.map kyOf)[i] = kyOf us[i] := by simp
        rw [hki] at g0 g1
        obtain ⟨x, hx⟩ : ∃ x, us[i] = x := ⟨_, rfl⟩
        rw [hx] at g0 g1 g2 g3 hbx hgx
        obtain ⟨nm, sec, xa, xc⟩ := x
        unfold kyOf at g0 g1
        simp only at g0 g1 g2 g3 hbx hgx
        obtain ⟨sl, hsl⟩ : ∃ sl, sec.length = sl := ⟨_, rfl⟩
        have HS64 : Hid (sec.length ≤ 1000000) := hide (by omega)
        rw [hsl] at g3 hgx
        have htl3 : text.length ≤ 1000000 := by have := unhide HTL; omega
        have K60 := hide (keySign_any (nm := nm) (sec := sec) (text := text) (by omega) htl3 wr)
        unfold keyV at K60
        have HBR := hide hbr
        have HBX := hide hbx
        have HSL := hide hsl
        have HG := hide (show (wr.cell? ⟨B, O + i * 2, none⟩ = some (.string (ba nm)) ∧ wr.cell? ⟨B, O + i * 2 + 1, none⟩ = some (.string (ba sec))) ∧ (wr.cell? ⟨B2, O2 + i * 2, none⟩ = some (.string (ba nm)) ∧ wr.cell? ⟨B2, O2 + i * 2 + 1, none⟩ = some (.slice xa sl xc)) ∧ Below wr.heap.size wr wr from ⟨⟨g0, g1⟩, ⟨g2, g3⟩, Below.refl _ _⟩)
        clear hbr hbx hx hki hsl g2 g3
        go_wp2_with (go_at_call 60; fail)
        refine (unhide K60).mono ?_
        rintro e w6 ⟨v6, rfl, o6, b6⟩
        obtain ⟨g6, c6, rfl, at6, -, -⟩ := OwnB.adr2 o6 (sha32 _)
        have F6 := four_at (unhide HG) b6
        obtain ⟨⟨k0, k1⟩, ⟨z0, z1⟩, -⟩ := F6
        have HB6 := hide b6
        have HAT6 := hide at6
        have K61 := hide (refSig_any (w := w6) (nm := nm) (sec := sec) (text := text) (c := xc) (unhide HSL) (by omega) htl3 ((unhide HBX).low b6))
        clear b6 at6 o6 K60 g0 g1
        go_wp2_with (go_at_call 61; fail)
        refine (unhide K61).mono ?_
        rintro e w7 ⟨v7, rfl, o7, b7⟩
        obtain ⟨g7, c7, rfl, at7, -, -⟩ := OwnB.adr2 o7 (sha32 _)
        have K23 := hide (sameBytes_any (c := c6) (c2 := c7) (sha32 _) (sha32 _) (by omega) (by omega) ((unhide HAT6).low b7) at7)
        have HB7 := hide b7
        clear o7 b7 at7 K61 k0 k1 z0 z1
        go_wp2_with (go_at_call 23; fail)
        refine (unhide K23).mono ?_
        rintro e w8 ⟨rfl, q8, hw8⟩
        rw [show decide True = true from rfl]
        have b68 : Below w6.heap.size w6 w8 := by rw [hw8]; exact low_trans (unhide HB7) (low_drewN _ _)
        have F8 := four_at (unhide HG) (low_trans (unhide HB6) b68)
        obtain ⟨⟨k0, k1⟩, ⟨z0, z1⟩, -⟩ := F8
        have K62 := hide (verify_any (w := w8) (nm := nm) (sec := sec) (text := text) (sig := sigL sec text) (c := c6) (unhide HS64) htl3 (sha32 _) ((unhide HAT6).low b68))
        have HB8 := hide (low_trans (unhide HB6) b68)
        clear hw8 b68 K23 z0 z1
        go_wp2_with (go_at_call 62; fail)
        refine (unhide K62).mono ?_
        rintro e w9 ⟨rfl, b9⟩
        rw [show decide True = true from rfl]
        have b19 := low_trans (unhide HB8) b9
        have hS := four_at (unhide HG) b19
        have hSd := four_at hS (lowD (Below.refl _ _))
        have HB19 := hide b19
        have hbx9 := (unhide HBX).low b19
        have hsb9 := (unhide HSB3).low (low_trans (unhide HBR) b19)
        obtain ⟨vb, hvb⟩ : ∃ vb, decide (sig = sigL sec text) = vb := ⟨_, rfl⟩
        have H62 : Hid (∀ wx, ((wx.cell? ⟨B, O + i * 2, none⟩ = some (.string (ba nm)) ∧ wx.cell? ⟨B, O + i * 2 + 1, none⟩ = some (.string (ba sec))) ∧ (wx.cell? ⟨B2, O2 + i * 2, none⟩ = some (.string (ba nm)) ∧ wx.cell? ⟨B2, O2 + i * 2 + 1, none⟩ = some (.slice xa sl xc)) ∧ Below wr.heap.size wr wx) → Calls Tryz.prog 62 #[.agg #[.string (ba nm), .string (ba sec)], .string (ba text), .slice sa sn sc] wx fun e w' => e = .returned (.bool vb) ∧ ((w'.cell? ⟨B, O + i * 2, none⟩ = some (.string (ba nm)) ∧ w'.cell? ⟨B, O + i * 2 + 1, none⟩ = some (.string (ba sec))) ∧ (w'.cell? ⟨B2, O2 + i * 2, none⟩ = some (.string (ba nm)) ∧ w'.cell? ⟨B2, O2 + i * 2 + 1, none⟩ = some (.slice xa sl xc)) ∧ Below wr.heap.size wr w')) := hide (fun wx hx => by
          have k := verify_any (w := wx) (nm := nm) (sec := sec) (text := text) (sig := sig) (c := sc) (unhide HS64) htl3 (unhide HS) ((unhide HSB3).low (low_trans (unhide HBR) hx.2.2))
          rw [hvb] at k
          refine k.mono ?_
          rintro e w' ⟨rfl, b⟩
          exact ⟨rfl, four_at hx b⟩)
        have H62b : Hid (∀ wx g7, ((wx.cell? ⟨B, O + i * 2, none⟩ = some (.string (ba nm)) ∧ wx.cell? ⟨B, O + i * 2 + 1, none⟩ = some (.string (ba sec))) ∧ (wx.cell? ⟨B2, O2 + i * 2, none⟩ = some (.string (ba nm)) ∧ wx.cell? ⟨B2, O2 + i * 2 + 1, none⟩ = some (.slice xa sl xc)) ∧ Below wr.heap.size wr wx) → Hid (BAt wx (some ⟨g7, 0, none⟩) (sigL sec text)) → Calls Tryz.prog 62 #[.agg #[.string (ba nm), .string (ba sec)], .string (ba text), .slice sa sn sc] wx fun e w' => e = .returned (.bool vb) ∧ Hid (BAt w' (some ⟨g7, 0, none⟩) (sigL sec text)) ∧ ((w'.cell? ⟨B, O + i * 2, none⟩ = some (.string (ba nm)) ∧ w'.cell? ⟨B, O + i * 2 + 1, none⟩ = some (.string (ba sec))) ∧ (w'.cell? ⟨B2, O2 + i * 2, none⟩ = some (.string (ba nm)) ∧ w'.cell? ⟨B2, O2 + i * 2 + 1, none⟩ = some (.slice xa sl xc)) ∧ Below wr.heap.size wr w')) := hide (fun wx g7 hx hv => by
          have k := verify_any (w := wx) (nm := nm) (sec := sec) (text := text) (sig := sig) (c := sc) (unhide HS64) htl3 (unhide HS) ((unhide HSB3).low (low_trans (unhide HBR) hx.2.2))
          rw [hvb] at k
          refine k.mono ?_
          rintro e w' ⟨rfl, b⟩
          exact ⟨rfl, hide ((unhide hv).low b), four_at hx b⟩)
        have H61 : Hid (∀ wx, ((wx.cell? ⟨B, O + i * 2, none⟩ = some (.string (ba nm)) ∧ wx.cell? ⟨B, O + i * 2 + 1, none⟩ = some (.string (ba sec))) ∧ (wx.cell? ⟨B2, O2 + i * 2, none⟩ = some (.string (ba nm)) ∧ wx.cell? ⟨B2, O2 + i * 2 + 1, none⟩ = some (.slice xa sl xc)) ∧ Below wr.heap.size wr wx) → Calls Tryz.prog 61 #[.agg #[.string (ba nm), .slice xa sl xc], .string (ba text)] wx fun e w' => ∃ g cap, e = .returned (.slice (some ⟨g, 0, none⟩) 32 cap) ∧ Hid (BAt w' (some ⟨g, 0, none⟩) (sigL sec text)) ∧ ((w'.cell? ⟨B, O + i * 2, none⟩ = some (.string (ba nm)) ∧ w'.cell? ⟨B, O + i * 2 + 1, none⟩ = some (.string (ba sec))) ∧ (w'.cell? ⟨B2, O2 + i * 2, none⟩ = some (.string (ba nm)) ∧ w'.cell? ⟨B2, O2 + i * 2 + 1, none⟩ = some (.slice xa sl xc)) ∧ Below wr.heap.size wr w')) := hide (fun wx hx => by
          refine (refSig_any (nm := nm) (sec := sec) (text := text) (c := xc) (unhide HSL) (by omega) htl3 ((unhide HBX).low hx.2.2)).mono ?_
          rintro e w' ⟨v, rfl, o, b⟩
          obtain ⟨g, cap, rfl, hat, -, -⟩ := OwnB.adr2 o (sha32 _)
          exact ⟨g, cap, rfl, hide hat, four_at hx b⟩)
        have H23 : Hid (∀ wx g7 c7, ((wx.cell? ⟨B, O + i * 2, none⟩ = some (.string (ba nm)) ∧ wx.cell? ⟨B, O + i * 2 + 1, none⟩ = some (.string (ba sec))) ∧ (wx.cell? ⟨B2, O2 + i * 2, none⟩ = some (.string (ba nm)) ∧ wx.cell? ⟨B2, O2 + i * 2 + 1, none⟩ = some (.slice xa sl xc)) ∧ Below wr.heap.size wr wx) → Hid (BAt wx (some ⟨g7, 0, none⟩) (sigL sec text)) → Calls Tryz.prog 23 #[.slice sa sn sc, .slice (some ⟨g7, 0, none⟩) 32 c7] wx fun e w' => e = .returned (.bool vb) ∧ Hid (BAt w' (some ⟨g7, 0, none⟩) (sigL sec text)) ∧ ((w'.cell? ⟨B, O + i * 2, none⟩ = some (.string (ba nm)) ∧ w'.cell? ⟨B, O + i * 2 + 1, none⟩ = some (.string (ba sec))) ∧ (w'.cell? ⟨B2, O2 + i * 2, none⟩ = some (.string (ba nm)) ∧ w'.cell? ⟨B2, O2 + i * 2 + 1, none⟩ = some (.slice xa sl xc)) ∧ Below wr.heap.size wr w')) := hide (fun wx g7 c7 hx hv => by
          have k := sameBytes_any (w := wx) (b2 := sigL sec text) (c := sc) (c2 := c7) (unhide HS) (sha32 _ : (sigL sec text).length = 32) (by omega) (by omega) ((unhide HSB3).low (low_trans (unhide HBR) hx.2.2)) (unhide hv)
          rw [hvb] at k
          refine k.mono ?_
          rintro e w' ⟨rfl, q, hw⟩
          have b : Below wx.heap.size wx w' := by rw [hw]; exact low_drewN _ _
          exact ⟨rfl, hide ((unhide hv).low b), four_at hx b⟩)
        have hvv : (vb != vb) = false := by simp
        clear hbx9 hsb9 hvb K62 b9 b19 k0 k1 hgx htl3
        go_wp2
        go_region_held3 (fun wx => (wx.cell? ⟨B, O + i * 2, none⟩ = some (.string (ba nm)) ∧ wx.cell? ⟨B, O + i * 2 + 1, none⟩ = some (.string (ba sec))) ∧ (wx.cell? ⟨B2, O2 + i * 2, none⟩ = some (.string (ba nm)) ∧ wx.cell? ⟨B2, O2 + i * 2 + 1, none⟩ = some (.slice xa sl xc)) ∧ Below wr.heap.size wr wx)
          (first | assumption | exact hS | exact hSd)
          (first
            | (go_at_call 62; first
                | (revert hv61; intro hv61; refine (unhide H62b _ _ (by assumption) hv61).mono ?_; rintro e w11 ⟨rfl, hv61, hS11⟩)
                | (refine (unhide H62 _ (by assumption)).mono ?_; rintro e w11 ⟨rfl, hS11⟩))
            | (go_at_call 61; refine (unhide H61 _ (by assumption)).mono ?_; rintro e w11 ⟨g11, c11, rfl, hv61, hS11⟩)
            | (go_at_call 23; revert hv61; intro hv61; refine (unhide H23 _ _ _ (by assumption) hv61).mono ?_; rintro e w11 ⟨rfl, hv61, hS11⟩))
        all_goals
          have HB11 : Hid (Below w3.heap.size w3 w11) := hide (low_trans (unhide HBR) hS11.2.2)
          clear hS hSd hS11 hv61
          go_wp2
          go_roundw
          case rel => exact ⟨i + 1, hlt, by push_cast; rfl, unhide HB11⟩
          case measure => simp [intOf]; omega
      · have hie : i = m := by omega
        subst hie
        have HBR := hide (low_trans (unhide HBW3) hbr)
        have hs1 : ((ba ST).toList == (ba ST).toList) = true := by simp
        have hs2 : (SE == SE) = true := by simp
        have KE := hide (errno_any SE)
        clear hbr
        go_wp2_with (go_at_call 19; refine (unhide KE _).mono ?_; rintro e wn ⟨rfl, hwn⟩; rw [hwn]; clear hwn wn)
        go_ret
        exact ⟨rfl, unhide HBR⟩
end Go.Proofs.YtkablmjkffdloaaGreatDoor

namespace Go.Proofs.YtkablmjkffdloaaGreatDoor
open Go.RowKit

theorem chk_good (text : Bs) (ks : List Ky) : ∀ (L : List (Bs × Bs)) (ah : List Sg) (g u g' u' : List Bs), chk text ks ah g u L = (0, g', u') → (∀ n ∈ g, ∃ k ∈ ks, k.1 = n) → ∀ n ∈ g', ∃ k ∈ ks, k.1 = n
  | [], ah, g, u, g', u', h, hg => by
    simp only [chk] at h
    split at h
    · cases h
    · simp at h
      obtain ⟨rfl, -⟩ := h
      exact hg
  | s :: r, ah, g, u, g', u', h, hg => by
    simp only [chk] at h
    split at h
    · cases h
    · cases hk : keyFor (sgS s) ks with
      | none =>
        rw [hk] at h
        exact chk_good text ks r _ _ _ _ _ h hg
      | some k =>
        rw [hk] at h
        simp only at h
        split at h
        · refine chk_good text ks r _ _ _ _ _ h (fun n hn => ?_)
          rcases List.mem_append.1 hn with h1 | h1
          · exact hg n h1
          · simp at h1
            subst h1
            have h2 := List.find?_some hk
            have h3 : sgOf k = sgS s := of_decide_eq_true h2
            exact ⟨k, List.mem_of_find?_eq_some hk, congrArg (fun x : Sg => x.1) h3⟩
        · cases h

set_option maxRecDepth 100000 in
set_option maxHeartbeats 2000000 in
theorem begins_yes {s T r : Bs} (hs : s = T ++ r) (hl : s.length ≤ 1000000) (w : World) : Calls Tryz.prog 68 #[.string (ba s), .string (ba T)] w fun e w' => e = .returned (.bool true) ∧ w' = w := by
  obtain ⟨n, hn⟩ : ∃ n, s.length = n := ⟨_, rfl⟩
  obtain ⟨m, hm⟩ : ∃ m, T.length = m := ⟨_, rfl⟩
  have z1 : (ba s).size = n := by rw [ba_size]; exact hn
  have z2 : (ba T).size = m := by rw [ba_size]; exact hm
  have hmn : m ≤ n := by rw [← hn, ← hm, hs, List.length_append]; omega
  have hmn' : (m : Int) ≤ (n : Int) := by omega
  have x1 : (ba s).extract 0 m = ba T := by
    rw [sub_of, hs, ← hm]
    simp
  have ss : ((ba T).toList == (ba T).toList) = true := by simp
  have hn2 : n ≤ 1000000 := by omega
  clear hs hl hn hm
  go_enter Tryz.func68, Tryz.ntmps68
  go_wp2
  go_ret
  exact ⟨rfl, rfl⟩

theorem TOwn.cell {base : Nat} {w : World} {a : Option Addr} {n c : Nat} {l : List Bs} (h : TOwn base w (.slice a n c) l) {k : Nat} (hk : k < l.length) : ∃ G, a = some ⟨G, 0, none⟩ ∧ w.cell? ⟨G, k, none⟩ = some (.string (ba l[k])) := by
  rcases h.2 with ⟨e, h0⟩ | ⟨G, cap, cur, e, hb, hblk, hr⟩
  · omega
  · obtain ⟨e1, e2, e3⟩ := Value.slice.inj e
    subst e1
    refine ⟨G, rfl, ?_⟩
    rw [Lib.cell_of_heap hblk]
    have h4 := hr.2.2.2
    have h5 : (l.map fun t => Value.string (ba t))[k]? = some (.string (ba l[k])) := by simp [hk]
    rw [← h4, List.getElem?_take] at h5
    split at h5
    · simpa using h5
    · cases h5

set_option maxRecDepth 100000 in
set_option maxHeartbeats 8000000 in
theorem good_law {w : World} {text : Bs} {a : Option Addr} {n c : Nat} {ts : List Wk} (hg : Gy w) (hn : ts.length = n) (hok : ∀ t ∈ ts, t.nm.length ≤ 2000000 ∧ t.sec.length ≤ 2000000) (hb : ∀ t ∈ ts, BAt w t.a t.sec) (hp : PRow w a ts) :
    Calls Tryz.prog 14 #[.string (ba text), .slice a n c] w fun e w' => e = .returned (.bool true) ∧ Below w.heap.size w w' := by
  have K0 := hide (noteFirst_any hg)
  have HGY := hide hg
  have HN := hide hn
  have HO := hide hok
  have HBT := hide hb
  have HP := hide hp
  obtain ⟨tl, htl⟩ : ∃ tl, text.length = tl := ⟨_, rfl⟩
  have hsz : (ba text).size = tl := by rw [ba_size]; exact htl
  have HTL := hide htl
  clear hg hn hok hb hp htl
  go_enter Tryz.func14, Tryz.ntmps14
  go_wp2_with (go_at_call 51; fail)
  refine (unhide K0).mono ?_
  rintro e w1 ⟨rfl, b1⟩
  have HB1 := hide b1
  have KF := hide (few_any (c := c) (unhide HN) (unhide HO) ((unhide HP).low b1))
  clear b1 K0
  go_wp2_with (go_at_call 52; fail)
  refine (unhide KF).mono ?_
  rintro e w2 ⟨⟨b, rfl, hfew⟩, q, hw2⟩
  have HB2 : Hid (Below w.heap.size w w2) := hide (by rw [hw2]; exact low_trans (unhide HB1) (low_drewN _ _))
  clear hw2 KF HB1
  cases b with
  | false =>
    clear hfew
    go_wp2
    go_ret
    exact ⟨rfl, unhide HB2⟩
  | true =>
    have hn20 := hfew rfl
    clear hfew
    by_cases g1 : 8000 < tl
    · have a1 : (8000 : Int) < (tl : Int) := by omega
      go_wp2
      go_ret
      exact ⟨rfl, unhide HB2⟩
    have a1 : ¬ (8000 : Int) < (tl : Int) := by omega
    have KK := hide (keys_any (c := c) (unhide HN) (by omega) (unhide HO) ((unhide HP).low (unhide HB2)) (fun t ht => (unhide HBT t ht).low (unhide HB2)))
    go_wp2_with (go_at_call 53; fail)
    refine (unhide KK).mono ?_
    rintro e w3 ⟨a1', c1', a2', c2', rfl, hk3, -, b3⟩
    have hbw3 := low_trans (unhide HB2) b3
    obtain ⟨us, hus⟩ : ∃ us, gd ts = us := ⟨_, rfl⟩
    have hgood : ∀ t ∈ us, goodB t.nm t.sec = true := by rw [← hus]; exact gd_good
    have hum : us.length ≤ 1000 := by rw [← hus]; have := gd_len ts; have := unhide HN; omega
    rw [hus] at hk3
    obtain ⟨m, hm⟩ : ∃ m, us.length = m := ⟨_, rfl⟩
    obtain ⟨ks, hks⟩ : ∃ ks, us.map kyOf = ks := ⟨_, rfl⟩
    have hkl : ks.length = m := by rw [← hks, List.length_map]; exact hm
    have hkok : ∀ k ∈ ks, KyOk k := fun k hk => by
      rw [← hks] at hk
      obtain ⟨t, ht, rfl⟩ := List.mem_map.1 hk
      have := good_len (hgood t ht)
      exact ⟨Nat.le_trans this.1 (by omega), Nat.le_trans this.2 (by omega)⟩
    rw [hks] at hk3
    have KO := hide (open_any (w := w3) (s := text) (ks := ks) (n := m) (c := c1') (by have := unhide HTL; omega) hkl (by omega) hkok hk3 ((unhide HGY).low hbw3))
    have HK3 := hide hk3
    have HBW3 := hide hbw3
    have HM := hide hkl
    have hm2 : m ≤ 1000 := by omega
    rw [hus, hm]
    clear hk3 b3 hbw3 hgood hum hkok hus hm hks hkl KK HB2
    go_wp2_with (go_at_call 56; fail)
    refine (unhide KO).mono ?_
    rintro e w4 ⟨hsd, b4⟩
    have HB4 := hide b4
    clear b4 KO
    rcases hsd with ⟨E, hE0, -, rfl⟩ | ⟨T, L, g, u, ga, gc, ua, uc, hsp, -, -, hchk, hg0, rfl, tg, tu⟩
    · have KE := hide (errno_any E)
      have hE1 : (E != 0) = true := by simpa using hE0
      have hE2 : (E == 0) = false := by simpa using hE0
      have HZ : Hid (∀ o, Below w.heap.size w (w4.alloc o)) := hide (fun o => lowA (low_trans (unhide HBW3) (unhide HB4)) o)
      clear hE0
      go_wp2_with (go_at_call 19; refine (unhide KE _).mono ?_; rintro e wn ⟨rfl, hwn⟩; rw [hwn]; clear hwn wn)
      go_ret
      exact ⟨rfl, unhide HZ _⟩
    · obtain ⟨r, hfr⟩ := split_front hsp
      have hnames := chk_good T ks L [] [] [] g u hchk (fun n h => by cases h)
      obtain ⟨gl, hgl⟩ : ∃ gl, g.length = gl := ⟨_, rfl⟩
      obtain ⟨ul, hul⟩ : ∃ ul, u.length = ul := ⟨_, rfl⟩
      rw [hgl] at tg
      rw [hgl, hul]
      obtain ⟨T1, hT1⟩ : ∃ T1, T ++ [10] = T1 := ⟨_, rfl⟩
      rw [hT1] at hfr
      have KB := hide (fun W => begins_yes (T := T1) (r := r) hfr (by have := unhide HTL; omega) W)
      have KE := hide (errno_any 0)
      have c1 : ba T ++ (⟨#[10]⟩ : ByteArray) = ba T1 := by rw [← hT1]; exact cat _ [10]
      obtain ⟨x0, z0⟩ : ∃ x0, (ba T).size = x0 := ⟨_, rfl⟩
      have hTl : T.length ≤ text.length := by rw [hfr, ← hT1]; simp
      have k1 : ¬ 9223372036854775807 < x0 + 1 := by rw [← z0, ba_size]; have := unhide HTL; omega
      have hgpos : 1 ≤ gl := by
        rw [← hgl]
        cases g with
        | nil => exact absurd rfl hg0
        | cons _ _ => simp
      have hg1 : ((gl : Int) == 0) = false := by simp; omega
      have hgl8 : gl ≤ 9223372036854775807 := by
        rcases tg.2 with ⟨_, h0⟩ | ⟨_, cap, _, e, _, _, h1, h2, _⟩
        · omega
        · unfold maxLen at h2; omega
      obtain ⟨D, hD⟩ : ∃ D, w4.heap.size = D := ⟨_, rfl⟩
      obtain ⟨W5, hW5⟩ : ∃ W5, w4.alloc (.cells #[.string (ba T), .slice ga gl gc, .slice ua ul uc] 78) = W5 := ⟨_, rfl⟩
      have b5 : Below w4.heap.size w4 W5 := by rw [← hW5]; exact lowA (Below.refl _ _) _
      have q5 : Blk W5 D #[.string (ba T), .slice ga gl gc, .slice ua ul uc] 78 := by rw [← hW5, ← hD]; exact Blk.new _ _ _
      have y0 := q5.cell 0
      have y1 := q5.cell 1
      have HTG := hide (row_low tg b5)
      have HB5 := hide (low_trans (unhide HB4) b5)
      have HQ5 := hide q5
      have HW5 := hide hW5
      have HD := hide hD
      have HNM := hide hnames
      have HGL := hide hgl
      clear hsp hchk hg0 tg tu hfr hnames hgl hul hT1 hTl hD hW5 b5 q5
      go_wp2_with (go_at_call 19; fail)
      rw [unhide HW5, unhide HD]
      refine (unhide KE _).mono ?_
      rintro e wn ⟨rfl, hwn⟩
      rw [hwn]
      clear hwn wn
      go_wp2_with (go_at_call 68; refine (unhide KB _).mono ?_; rintro e wn ⟨rfl, hwn⟩; rw [hwn]; clear hwn wn)
      clear y0 y1
      go_loopw [12, 13, 14] (fun v12 _ _ wr => ∃ i : Nat, i ≤ gl ∧ v12 = .int .i64 (i : Int) ∧ Below W5.heap.size W5 wr) (fun v12 _ _ _ => gl - (intOf v12).toNat)
      case atStart => exact ⟨0, Nat.zero_le _, rfl, Below.refl _ _⟩
      case round =>
        rename World => wr
        obtain ⟨i, hi, rfl, hbr⟩ := hrel
        have q6 := (unhide HQ5).low hbr
        have y1 := q6.cell 1
        by_cases hlt : i < gl
        · have hil : i < g.length := by rw [unhide HGL]; exact hlt
          have hlt' : (i : Int) < (gl : Int) := by omega
          obtain ⟨G, rfl, gcell⟩ := TOwn.cell (unhide HTG) hil
          obtain ⟨kx, hkx, hkn⟩ := unhide HNM _ (List.getElem_mem hil)
          obtain ⟨gi, hgi⟩ : ∃ gi, g[i] = gi := ⟨_, rfl⟩
          rw [hgi] at gcell hkn
          have HEX : Hid (∃ k ∈ ks, k.1 = gi) := hide ⟨kx, hkx, hkn⟩
          have HGC := hide gcell
          have HBR := hide hbr
          have HQ6 := hide q6
          clear gcell hkx hkn hgi hbr q6
          go_wp2
          go_loopw [13, 14] (fun v13 v14 ws => ∃ (k : Nat) (fb : Bool), k ≤ m ∧ v14 = .int .i64 (k : Int) ∧ v13 = .bool fb ∧ Hid (fb = true ↔ ∃ x ∈ ks.take k, x.1 = gi) ∧ Below wr.heap.size wr ws) (fun _ v14 _ => m - (intOf v14).toNat)
          case atStart => exact ⟨0, false, Nat.zero_le _, rfl, rfl, hide (by simp), Below.refl _ _⟩
          case round =>
            rename World => ws
            obtain ⟨k, fb, hk, rfl, rfl, hfb, hbs⟩ := hrel
            by_cases hkm : k < m
            · have hkl : k < ks.length := by rw [unhide HM]; exact hkm
              have hkm' : (k : Int) < (m : Int) := by omega
              have htk := take_snoc hkl
              cases fb with
              | true =>
                have HF : Hid (∃ x ∈ ks.take (k + 1), x.1 = gi) := hide (by
                  obtain ⟨x, hx1, hx2⟩ := (unhide hfb).1 rfl
                  exact ⟨x, by rw [htk]; exact List.mem_append_left _ hx1, hx2⟩)
                have HBS := hide hbs
                clear htk hfb hbs y1
                go_wp2
                go_quiet (fail)
                go_wp2
                go_roundw
                case rel => exact ⟨k + 1, true, hkm, by push_cast; rfl, rfl, hide ⟨fun _ => unhide HF, fun _ => rfl⟩, by have hh := unhide HBS; exact ⟨hh.os, hh.tape, hh.output, hh.size, hh.block⟩⟩
                case measure => simp [intOf]; omega
              | false =>
                obtain ⟨B, O, rfl, g0, g1⟩ := ((unhide HK3).low (low_trans (unhide HB5) (low_trans (unhide HBR) hbs))).at hkl
                obtain ⟨⟨kn, ksc⟩, hx⟩ : ∃ x, ks[k] = x := ⟨_, rfl⟩
                rw [hx] at g0 g1 htk
                simp only at g0 g1
                have q7 := (unhide HQ6).low hbs
                have gc7 := ((low_trans (unhide HBR) hbs).cell (lt_of_cell (unhide HGC))).trans (unhide HGC)
                have hS : (ws.cell? ⟨B, O + k * 2, none⟩ = some (.string (ba kn)) ∧ ws.cell? ⟨B, O + k * 2 + 1, none⟩ = some (.string (ba ksc))) ∧ (ws.cell? ⟨D, 1, none⟩ = some (.slice (some ⟨G, 0, none⟩) gl gc) ∧ ws.cell? ⟨G, i, none⟩ = some (.string (ba gi))) ∧ Below ws.heap.size ws ws := ⟨⟨g0, g1⟩, ⟨q7.cell 1, gc7⟩, Below.refl _ _⟩
                have hSd := four_at hS (lowD (Below.refl _ _))
                have H55 : Hid (∀ wx, ((wx.cell? ⟨B, O + k * 2, none⟩ = some (.string (ba kn)) ∧ wx.cell? ⟨B, O + k * 2 + 1, none⟩ = some (.string (ba ksc))) ∧ (wx.cell? ⟨D, 1, none⟩ = some (.slice (some ⟨G, 0, none⟩) gl gc) ∧ wx.cell? ⟨G, i, none⟩ = some (.string (ba gi))) ∧ Below ws.heap.size ws wx) → Calls Tryz.prog 55 #[.agg #[.string (ba kn), .string (ba ksc)]] wx fun e w' => e = .returned (.string (ba kn)) ∧ ((w'.cell? ⟨B, O + k * 2, none⟩ = some (.string (ba kn)) ∧ w'.cell? ⟨B, O + k * 2 + 1, none⟩ = some (.string (ba ksc))) ∧ (w'.cell? ⟨D, 1, none⟩ = some (.slice (some ⟨G, 0, none⟩) gl gc) ∧ w'.cell? ⟨G, i, none⟩ = some (.string (ba gi))) ∧ Below ws.heap.size ws w')) := hide (fun wx hx => by
                  refine (keyName_any wx).mono ?_
                  rintro e w' ⟨rfl, b⟩
                  exact ⟨rfl, four_at hx b⟩)
                obtain ⟨p, hp⟩ : ∃ p, ((ba kn).toList == (ba gi).toList) = p := ⟨_, rfl⟩
                have HF : Hid (p = true ↔ ∃ x ∈ ks.take (k + 1), x.1 = gi) := hide (by
                  have hpe : p = true ↔ kn = gi := by
                    rw [← hp, beq_iff_eq, Lib.toList_data, Lib.toList_data, ba_data, ba_data]
                  rw [hpe, htk]
                  constructor
                  · intro e; exact ⟨(kn, ksc), by simp, e⟩
                  · rintro ⟨x, hx1, hx2⟩
                    rcases List.mem_append.1 hx1 with h | h
                    · have := (unhide hfb).2 ⟨x, h, hx2⟩; cases this
                    · simp at h; subst h; exact hx2)
                have HBS := hide hbs
                clear htk hfb hbs hx q7 gc7 y1
                go_wp2
                go_region_held3 (fun wx => (wx.cell? ⟨B, O + k * 2, none⟩ = some (.string (ba kn)) ∧ wx.cell? ⟨B, O + k * 2 + 1, none⟩ = some (.string (ba ksc))) ∧ (wx.cell? ⟨D, 1, none⟩ = some (.slice (some ⟨G, 0, none⟩) gl gc) ∧ wx.cell? ⟨G, i, none⟩ = some (.string (ba gi))) ∧ Below ws.heap.size ws wx)
                  (first | assumption | exact hS | exact hSd)
                  (first | (go_at_call 55; refine (unhide H55 _ (by assumption)).mono ?_; rintro e w9 ⟨rfl, hS9⟩))
                have HB9 : Hid (Below wr.heap.size wr w9) := hide (low_trans (unhide HBS) hS9.2.2)
                clear hS hSd hS9 g0 g1
                go_wp2
                go_roundw
                case rel => exact ⟨k + 1, p, hkm, by push_cast; rfl, rfl, HF, unhide HB9⟩
                case measure => simp [intOf]; omega
            · have hke : k = m := by omega
              subst hke
              have hft : fb = true := by
                refine (unhide hfb).2 ?_
                rw [List.take_of_length_le (by rw [unhide HM]; exact Nat.le_refl _)]
                exact unhide HEX
              subst hft
              have HBS := hide (low_trans (unhide HBR) hbs)
              clear hfb hbs y1
              go_wp2
              go_roundw
              case rel => exact ⟨i + 1, hlt, by push_cast; rfl, unhide HBS⟩
              case measure => simp [intOf]; omega
        · have hie : i = gl := by omega
          subst hie
          have HZ := hide (low_trans (unhide HBW3) (low_trans (unhide HB5) hbr))
          clear hbr q6
          go_wp2
          go_ret
          exact ⟨rfl, unhide HZ⟩
end Go.Proofs.YtkablmjkffdloaaGreatDoor
