/-
  What tells files apart: the law's walk.
-/
import Derived.Test.YtkablmjkffdloaaGreatDoorTelL
import Derived.Test.YtkablmjkffdloaaGreatDoorFst
namespace Go.Proofs.YtkablmjkffdloaaGreatDoor
open Go.RowKit

/-- Files as they come in. -/
structure DatW (w : World) (xs : List Fl) (dat : Fl → Bs) : Prop where
  len : ∀ x ∈ xs, (dat x).length = x.n
  cap : ∀ x ∈ xs, x.n ≤ x.c
  capm : ∀ x ∈ xs, x.c ≤ 9223372036854775807
  form : ∀ x ∈ xs, x.a = none ∨ (∃ B O, x.a = some ⟨B, O, none⟩) ∨ ∃ y, x.a = some y ∧ x.n = 0 ∧ x.c = 0
  at_ : ∀ x ∈ xs, BAt w x.a (dat x)
theorem DatW.small {w : World} {xs : List Fl} {dat : Fl → Bs} (h : DatW w xs dat) (hs : ∀ x ∈ xs, x.n ≤ 4000 ∧ x.nm.length ≤ 4000) : DatG w xs dat :=
  ⟨h.len, fun x hx => by have := (hs x hx).1; omega, h.cap, h.capm, h.form, h.at_, fun x hx => by have := (hs x hx).2; omega⟩
theorem DatG.one2 {w : World} {xs : List Fl} {dat : Fl → Bs} (h : DatG w xs dat) : ∀ d ∈ xs.map dat, d.length ≤ 1073741824 := fun d hd => by
  obtain ⟨x, hx, rfl⟩ := List.mem_map.1 hd
  have := h.few x hx
  have := h.len x hx
  omega
/-- A sum as the law needs it. -/
def H1R (dat : Fl → Bs) (xs : List Fl) (e : Ending) : Prop := ∃ (S : Bs) (E : Int), e = .returned (.tuple #[.string (ba S), .int .i64 E]) ∧ (E = 0 → nmE [] (xs.map Fl.nm) = 0 ∧ ∃ zs, zs.Perm xs ∧ Rising zs ∧ S = sumF dat zs)
theorem H1Said.r {dat : Fl → Bs} {xs : List Fl} {e : Ending} (h : H1Said dat xs e) : H1R dat xs e := by
  rcases h with ⟨h0, ys, hp, hr, rfl⟩ | ⟨h0, rfl⟩
  · exact ⟨_, 0, rfl, fun _ => ⟨h0, ys, hp, hr, rfl⟩⟩
  · exact ⟨[], _, rfl, fun h => absurd h h0⟩

set_option maxRecDepth 100000 in
set_option maxHeartbeats 8000000 in
theorem tells_law {w : World} {a b : Option Addr} {n c m d : Nat} {xs ys : List Fl} {dx dy : Fl → Bs} {p v : Bs} (hg : Ml w) (hx : xs.length = n) (hy : ys.length = m) (hn : n ≤ 9223372036854775807) (hm : m ≤ 9223372036854775807) (hc : n ≤ c) (hd : m ≤ d) (ha : (a = none ∧ n = 0 ∧ c = 0) ∨ ∃ B O, a = some ⟨B, O, none⟩) (hb : (b = none ∧ m = 0 ∧ d = 0) ∨ ∃ B O, b = some ⟨B, O, none⟩) (hX : FAt w a xs) (hY : FAt w b ys) (hDX : DatW w xs dx) (hDY : DatW w ys dy) :
    Calls Tryz.prog 9 #[.slice a n c, .slice b m d, .agg #[.string (ba p), .string (ba v)]] w fun e w' => e = .returned (.bool true) ∧ Below w.heap.size w w' := by
  obtain ⟨S, hS⟩ : ∃ S, w.heap.size = S := ⟨_, rfl⟩
  obtain ⟨W1, hW1⟩ : ∃ W1, w.alloc (.cells #[.string (ba p), .string (ba v)] 45) = W1 := ⟨_, rfl⟩
  have b1 : Below w.heap.size w W1 := by rw [← hW1]; exact lowAA (Below.refl _ _) _
  have q1 : Blk W1 S #[.string (ba p), .string (ba v)] 45 := by rw [← hW1, ← hS]; exact Blk.new _ _ _
  have HG := hide hg
  have HXN := hide hx
  have HYN := hide hy
  have HA := hide ha
  have HB := hide hb
  have HX := hide hX
  have HY := hide hY
  have HDX := hide hDX
  have HDY := hide hDY
  have HB1 := hide b1
  have HQ1 := hide q1
  have HW1 := hide hW1
  have HS := hide hS
  obtain ⟨pl, hpl⟩ : ∃ pl, p.length = pl := ⟨_, rfl⟩
  obtain ⟨vl, hvl⟩ : ∃ vl, v.length = vl := ⟨_, rfl⟩
  have hsp : (ba p).size = pl := by rw [ba_size]; exact hpl
  have hsv : (ba v).size = vl := by rw [ba_size]; exact hvl
  have HPL := hide hpl
  have HVL := hide hvl
  clear hg hx hy ha hb hX hY hDX hDY b1 q1 hW1 hS hpl hvl
  go_enter Tryz.func9, Tryz.ntmps9
  go_wp2_with (go_at_call 16; fail)
  rw [unhide HW1, unhide HS]
  refine (first_any W1).mono ?_
  rintro e w2 ⟨rfl, b2⟩
  have HB2 := hide (low_trans (unhide HB1) b2)
  have HQ2 := hide ((unhide HQ1).low b2)
  clear b2
  have K1 := hide (fewF_any (c := c) (unhide HXN) hn ((unhide HX).low (unhide HB2)))
  have K2 := hide (fewF_any (c := d) (unhide HYN) hm ((unhide HY).low (unhide HB2)))
  go_wp2_with (go_at_call 17; fail)
  refine (unhide K1).mono ?_
  rintro e wn ⟨⟨f1, rfl, hf1⟩, hwn⟩
  rw [hwn]
  clear hwn wn K1
  have HF1 := hide hf1
  clear hf1
  cases f1 with
  | false =>
    have HZ : Hid (Below w.heap.size w w2) := hide (unhide HB2)
    go_wp2
    go_ret
    exact ⟨rfl, unhide HZ⟩
  | true =>
    go_wp2_with (go_at_call 17; fail)
    refine (unhide K2).mono ?_
    rintro e wn ⟨⟨f2, rfl, hf2⟩, hwn⟩
    rw [hwn]
    clear hwn wn K2
    have HF2 := hide hf2
    clear hf2
    have HZ : Hid (Below w.heap.size w w2) := hide (unhide HB2)
    have x0 := (unhide HQ2).cell 0
    have x1 := (unhide HQ2).cell 1
    cases f2 with
    | false =>
      go_wp2
      go_ret
      exact ⟨rfl, unhide HZ⟩
    | true =>
      by_cases g1 : 110 < n
      · have a1 : (110 : Int) < (n : Int) := by omega
        go_wp2
        go_ret
        exact ⟨rfl, unhide HZ⟩
      have a1 : ¬ (110 : Int) < (n : Int) := by omega
      by_cases g2 : 110 < m
      · have a2 : (110 : Int) < (m : Int) := by omega
        go_wp2
        go_ret
        exact ⟨rfl, unhide HZ⟩
      have a2 : ¬ (110 : Int) < (m : Int) := by omega
      by_cases g3 : 200 < pl
      · have a3 : (200 : Int) < (pl : Int) := by omega
        go_wp2
        go_ret
        exact ⟨rfl, unhide HZ⟩
      have a3 : ¬ (200 : Int) < (pl : Int) := by omega
      by_cases g4 : 200 < vl
      · have a4 : (200 : Int) < (vl : Int) := by omega
        go_wp2
        go_ret
        exact ⟨rfl, unhide HZ⟩
      have a4 : ¬ (200 : Int) < (vl : Int) := by omega
      have hsx := unhide HF1 (by first | trivial | rfl)
      have hsy := unhide HF2 (by first | trivial | rfl)
      have HGX := hide ((unhide HDX).small hsx)
      have HGY := hide ((unhide HDY).small hsy)
      have HSX := hide hsx
      clear hsx hsy
      have K3 := hide (h1_any ((unhide HG).low (unhide HB2)) (unhide HXN) (unhide HA) ((unhide HX).low (unhide HB2)) (by omega) hc ((unhide HGX).low (unhide HB2)))
      go_wp2_with (go_at_call 40; fail)
      refine (unhide K3).mono ?_
      rintro e w3 ⟨hs1, b3⟩
      obtain ⟨S1, E1, rfl, hr1⟩ := H1Said.r hs1
      have HR1 := hide hr1
      have HB3 := hide (low_trans (unhide HB2) b3)
      have HQ3 := hide ((unhide HQ2).low b3)
      clear hs1 hr1 b3 K3 x0 x1
      have K4 := hide (h1_any ((unhide HG).low (unhide HB3)) (unhide HYN) (unhide HB) ((unhide HY).low (unhide HB3)) (by omega) hd ((unhide HGY).low (unhide HB3)))
      go_wp2_with (go_at_call 40; fail)
      refine (unhide K4).mono ?_
      rintro e w4 ⟨hs2, b4⟩
      obtain ⟨S2, E2, rfl, hr2⟩ := H1Said.r hs2
      have HR2 := hide hr2
      have HB4 := hide (low_trans (unhide HB3) b4)
      have HQ4 := hide ((unhide HQ3).low b4)
      clear hs2 hr2 b4 K4
      obtain ⟨s0, hs0⟩ : ∃ s0, ((n : Int) == (m : Int)) = s0 := ⟨_, rfl⟩
      have HS0 := hide hs0
      go_wp2
      refine useEx9 0 (match_any (w0 := w4) (s0 := s0) (unhide HXN) (unhide HYN) (by omega) (by omega) ((unhide HX).low (unhide HB4)) ((unhide HY).low (unhide HB4)) ((unhide HGX).low (unhide HB4)) ((unhide HGY).low (unhide HB4)) (Below.refl _ _) ?_)
      intro s d14 d15 d16 d71 d72 d73 d74 d75 d76 d77 d78 d79 d80 d81 d82 d83 d84 d85 d86 d87 d88 d89 d90 d91 d92 d93 d94 d95 d96 d97 d98 d99 d100 d101 d102 d103 d104 d105 d106 d107 d108 d109 d110 d111 d112 d113 d114 d115 w5 hs5 hb5
      have HB5 := hide (low_trans (unhide HB4) hb5)
      have HQ5 := hide ((unhide HQ4).low hb5)
      obtain ⟨t1, ht1⟩ : ∃ t, (E1 == 0) = t := ⟨_, rfl⟩
      obtain ⟨t2, ht2⟩ : ∃ t, (E2 == 0) = t := ⟨_, rfl⟩
      have HSUM : Hid (t1 = true → t2 = true → s = true → ((ba S1).toList != (ba S2).toList) = false) := hide (fun h1 h2 h3 => by
        have e1 : E1 = 0 := by rw [h1] at ht1; simpa using ht1
        have e2 : E2 = 0 := by rw [h2] at ht2; simpa using ht2
        obtain ⟨z1, zs1, zp1, zr1, rfl⟩ := unhide HR1 e1
        obtain ⟨z2, zs2, zp2, zr2, rfl⟩ := unhide HR2 e2
        obtain ⟨h4, h5⟩ := hs5 h3
        have hnm : n = m := by
          have h6 := unhide HS0
          rw [h4] at h6
          have : (n : Int) = (m : Int) := by simpa using h6
          omega
        have := sums_same (dx := dx) (dy := dy) z1 z2 zp1 zp2 zr1 zr2 (by rw [unhide HXN, unhide HYN]; exact hnm) h5
        rw [this]
        simp)
      clear hs5 hb5
      have HTAIL : Hid (∀ r ∈ xs.map Fl.nm, r.length ≤ 1000000) := hide (fun r hr => by
        obtain ⟨x, hx, rfl⟩ := List.mem_map.1 hr
        have := (unhide HSX x hx).2
        omega)
      have hxl : ∀ x ∈ xs, (x.a = none ∨ (∃ B O, x.a = some ⟨B, O, none⟩) ∨ ∃ y, x.a = some y ∧ x.n = 0 ∧ x.c = 0) ∧ x.n ≤ 1073741824 := fun x hx => ⟨(unhide HGX).form x hx, by have := (unhide HSX x hx).1; omega⟩
      have HXL := hide hxl
      clear hxl
      have KA : Hid (∀ wx, (wx.cell? ⟨S, 0, none⟩ = some (.string (ba p)) ∧ wx.cell? ⟨S, 1, none⟩ = some (.string (ba v)) ∧ Below w5.heap.size w5 wx) → Calls Tryz.prog 44 #[.slice a n c, .agg #[.string (ba p), .string (ba v)]] wx fun e w' => ∃ A zs, e = .returned (.slice (some ⟨A, 0, none⟩) n n) ∧ Hid (zs.map Fl.nm = (xs.map Fl.nm).map (fun x => preL p v ++ x) ∧ FAt w' (some ⟨A, 0, none⟩) zs ∧ DAt w' zs (xs.map dx) ∧ ∀ y ∈ zs, y.a = none ∨ ∃ B O, y.a = some ⟨B, O, none⟩) ∧ (w'.cell? ⟨S, 0, none⟩ = some (.string (ba p)) ∧ w'.cell? ⟨S, 1, none⟩ = some (.string (ba v)) ∧ Below w5.heap.size w5 w')) := hide (fun wx hx => by
        have hb := low_trans (unhide HB5) hx.2.2
        refine (add_any (ds := xs.map dx) (by have := unhide HPL; omega) (by have := unhide HVL; omega) (unhide HXN) (by omega) ((unhide HX).low hb) (((unhide HGX).low hb).one) (unhide HXL) (fun x hx => by have := (unhide HSX x hx).2; omega)).mono ?_
        rintro e w' ⟨A, zs, rfl, h1, h2, h3, h4, b⟩
        exact ⟨A, zs, rfl, hide ⟨h1, h2, h3, h4⟩, (b.cell (lt_of_cell hx.1)).trans hx.1, (b.cell (lt_of_cell hx.2.1)).trans hx.2.1, low_trans hx.2.2 b⟩)
      have KS : Hid ((∀ x ∈ xs, x.nm ≠ []) → ∀ wx A zs, (wx.cell? ⟨S, 0, none⟩ = some (.string (ba p)) ∧ wx.cell? ⟨S, 1, none⟩ = some (.string (ba v)) ∧ Below w5.heap.size w5 wx) → Hid (zs.map Fl.nm = (xs.map Fl.nm).map (fun x => preL p v ++ x) ∧ FAt wx (some ⟨A, 0, none⟩) zs ∧ DAt wx zs (xs.map dx) ∧ ∀ y ∈ zs, y.a = none ∨ ∃ B O, y.a = some ⟨B, O, none⟩) → Calls Tryz.prog 42 #[.slice (some ⟨A, 0, none⟩) n n, .agg #[.string (ba p), .string (ba v)]] wx fun e w' => ∃ A2 zs2, e = .returned (.tuple #[.slice (some ⟨A2, 0, none⟩) n n, .int .i64 0]) ∧ Hid (zs2.map Fl.nm = xs.map Fl.nm ∧ FAt w' (some ⟨A2, 0, none⟩) zs2 ∧ DAt w' zs2 (xs.map dx)) ∧ (w'.cell? ⟨S, 0, none⟩ = some (.string (ba p)) ∧ w'.cell? ⟨S, 1, none⟩ = some (.string (ba v)) ∧ Below w5.heap.size w5 w')) := hide (fun hne wx A zs hx hv => by
        obtain ⟨h1, h2, h3, h4⟩ := unhide hv
        have hzl : zs.length = n := by rw [two_nm h1, unhide HXN]
        refine (strip_any (rs := xs.map Fl.nm) (ds := xs.map dx) (by have := unhide HPL; omega) (by have := unhide HVL; omega) hzl (by omega) h2 h3 (fun y hy => ⟨?_, ?_⟩) h1 (fun r hr => ⟨?_, unhide HTAIL r hr⟩)).mono ?_
        · rcases h4 y hy with h | h
          · exact Or.inl h
          · exact Or.inr (Or.inl h)
        · obtain ⟨k, hk, rfl⟩ := List.getElem_of_mem hy
          have hkd : k < (xs.map dx).length := by rw [List.length_map, unhide HXN]; omega
          have h5 := (h3.one k hk hkd).1
          have h6 := DatG.one2 (unhide HGX) _ (List.getElem_mem hkd)
          omega
        · obtain ⟨x, hx2, rfl⟩ := List.mem_map.1 hr
          exact hne x hx2
        · rintro e w' ⟨A2, zs2, rfl, g1, g2, g3, b⟩
          exact ⟨A2, zs2, rfl, hide ⟨g1, g2, g3⟩, (b.cell (lt_of_cell hx.1)).trans hx.1, (b.cell (lt_of_cell hx.2.1)).trans hx.2.1, low_trans hx.2.2 b⟩)
      have KF : Hid (∀ wx A2 zs2, Below w5.heap.size w5 wx → (zs2.map Fl.nm = xs.map Fl.nm ∧ FAt wx (some ⟨A2, 0, none⟩) zs2 ∧ DAt wx zs2 (xs.map dx)) → Calls Tryz.prog 21 #[.slice (some ⟨A2, 0, none⟩) n n, .slice a n c] wx fun e w' => e = .returned (.bool true) ∧ Below wx.heap.size wx w') := hide (fun wx A2 zs2 hb hv => by
        have hb2 := low_trans (unhide HB5) hb
        refine (sameFiles_any (c := n) (c2 := c) (by rw [← unhide HXN]; have := congrArg List.length hv.1; simpa using this) (unhide HXN) (by omega) (DatG.one2 (unhide HGX)) hv.1 hv.2.1 ((unhide HX).low hb2) hv.2.2 (((unhide HGX).low hb2).one)).mono ?_
        rintro e w' ⟨rfl, q, hw⟩
        exact ⟨rfl, by rw [hw]; exact low_q _⟩)
      have hcase : (t1 = false ∨ (t1 = true ∧ t2 = false)) ∨ ((t1 = true ∧ t2 = true ∧ s = false) ∨ (t1 = true ∧ t2 = true ∧ s = true)) := by
        cases t1 <;> cases t2 <;> cases s <;> simp
      have HC := hide hcase
      clear hcase
      rcases unhide HC with (rfl | ⟨rfl, rfl⟩) | (⟨rfl, rfl, rfl⟩ | ⟨rfl, rfl, rfl⟩)
      · clear HSUM HC
        go_wp2_with (go_at_call 19; refine (errno_any _ _).mono ?_; rintro e wn ⟨rfl, hwn⟩; rw [hwn]; clear hwn wn)
        go_loopw [17] (fun v17 wr => ∃ k : Nat, k ≤ n ∧ v17 = .int .i64 (k : Int) ∧ wr = w5 ∧ Hid (∀ j (_ : j < k) (hx : j < xs.length), xs[j].nm ≠ [])) (fun v17 _ => n - (intOf v17).toNat)
        case atStart => exact ⟨0, Nat.zero_le _, rfl, rfl, hide (fun j h => by omega)⟩
        case round =>
          obtain ⟨k, hk, rfl, hwr, hne⟩ := hrel
          rw [hwr]
          clear hwr
          by_cases hlt : k < n
          · have hkx : k < xs.length := by rw [unhide HXN]; exact hlt
            have hlt' : (k : Int) < (n : Int) := by omega
            obtain ⟨B, O, rfl, y0, y1⟩ := ((unhide HX).low (unhide HB5)).get hkx
            by_cases h0 : xs[k].nm = []
            · have i0 : ((ba xs[k].nm).toList == []) = true := by rw [str_eq]; exact decide_eq_true h0
              clear h0 hne y1
              go_wp2
              go_ret
              exact ⟨rfl, unhide HB5⟩
            · have i0 : ((ba xs[k].nm).toList == []) = false := by rw [str_eq]; exact decide_eq_false h0
              have HNE : Hid (∀ j (_ : j < k + 1) (hx : j < xs.length), xs[j].nm ≠ []) := hide (fun j h1 h2 => by
                by_cases e : j = k
                · subst e; exact h0
                · exact unhide hne j (by omega) h2)
              clear h0 hne y1
              go_wp2
              go_roundw
              case rel => exact ⟨k + 1, hlt, by push_cast; rfl, by first | trivial | rfl, HNE⟩
              case measure => simp [intOf]; omega
          · have hke : k = n := by omega
            subst hke
            have hall : ∀ x ∈ xs, x.nm ≠ [] := fun x hx => by
              obtain ⟨j, hj, rfl⟩ := List.getElem_of_mem hx
              exact unhide hne j (by rw [unhide HXN] at hj; exact hj) hj
            have KS2 := hide (unhide KS hall)
            have hS : (w5.cell? ⟨S, 0, none⟩ = some (.string (ba p)) ∧ w5.cell? ⟨S, 1, none⟩ = some (.string (ba v)) ∧ Below w5.heap.size w5 w5) := ⟨(unhide HQ5).cell 0, (unhide HQ5).cell 1, Below.refl _ _⟩
            clear hne hall
            go_wp2
            go_region_held3 (fun wx => (wx.cell? ⟨S, 0, none⟩ = some (.string (ba p)) ∧ wx.cell? ⟨S, 1, none⟩ = some (.string (ba v)) ∧ Below w5.heap.size w5 wx))
              (first | assumption | exact hS | exact ⟨hS.1, hS.2.1, hS.2.2.drew⟩)
              (first
                | (go_at_call 44; refine (unhide KA _ (by assumption)).mono ?_; rintro e w9 ⟨A9, z9, rfl, hv9, hS9⟩)
                | (go_at_call 42; revert hv9; intro hv9; refine (unhide KS2 _ _ _ (by assumption) hv9).mono ?_; rintro e w9 ⟨A8, z8, rfl, hv8, hS9⟩))
            all_goals
              have KF2 := hide (unhide KF w9 A8 z8 hS9.2.2 (unhide hv8))
              have HB9 := hide (low_trans (unhide HB5) hS9.2.2)
              clear hv9 hv8 hS9 hS
              go_wp2_with (first | (go_at_call 19; refine (errno_any _ _).mono ?_; rintro e wn ⟨rfl, hwn⟩; rw [hwn]; clear hwn wn) | (go_at_call 21; fail))
              refine (unhide KF2).mono ?_
              rintro e w10 ⟨rfl, b10⟩
              have HBX := hide (low_trans (unhide HB9) b10)
              go_wp2
              go_ret
              exact ⟨rfl, unhide HBX⟩
      · clear HSUM HC
        go_wp2_with (go_at_call 19; refine (errno_any _ _).mono ?_; rintro e wn ⟨rfl, hwn⟩; rw [hwn]; clear hwn wn)
        go_loopw [17] (fun v17 wr => ∃ k : Nat, k ≤ n ∧ v17 = .int .i64 (k : Int) ∧ wr = w5 ∧ Hid (∀ j (_ : j < k) (hx : j < xs.length), xs[j].nm ≠ [])) (fun v17 _ => n - (intOf v17).toNat)
        case atStart => exact ⟨0, Nat.zero_le _, rfl, rfl, hide (fun j h => by omega)⟩
        case round =>
          obtain ⟨k, hk, rfl, hwr, hne⟩ := hrel
          rw [hwr]
          clear hwr
          by_cases hlt : k < n
          · have hkx : k < xs.length := by rw [unhide HXN]; exact hlt
            have hlt' : (k : Int) < (n : Int) := by omega
            obtain ⟨B, O, rfl, y0, y1⟩ := ((unhide HX).low (unhide HB5)).get hkx
            by_cases h0 : xs[k].nm = []
            · have i0 : ((ba xs[k].nm).toList == []) = true := by rw [str_eq]; exact decide_eq_true h0
              clear h0 hne y1
              go_wp2
              go_ret
              exact ⟨rfl, unhide HB5⟩
            · have i0 : ((ba xs[k].nm).toList == []) = false := by rw [str_eq]; exact decide_eq_false h0
              have HNE : Hid (∀ j (_ : j < k + 1) (hx : j < xs.length), xs[j].nm ≠ []) := hide (fun j h1 h2 => by
                by_cases e : j = k
                · subst e; exact h0
                · exact unhide hne j (by omega) h2)
              clear h0 hne y1
              go_wp2
              go_roundw
              case rel => exact ⟨k + 1, hlt, by push_cast; rfl, by first | trivial | rfl, HNE⟩
              case measure => simp [intOf]; omega
          · have hke : k = n := by omega
            subst hke
            have hall : ∀ x ∈ xs, x.nm ≠ [] := fun x hx => by
              obtain ⟨j, hj, rfl⟩ := List.getElem_of_mem hx
              exact unhide hne j (by rw [unhide HXN] at hj; exact hj) hj
            have KS2 := hide (unhide KS hall)
            have hS : (w5.cell? ⟨S, 0, none⟩ = some (.string (ba p)) ∧ w5.cell? ⟨S, 1, none⟩ = some (.string (ba v)) ∧ Below w5.heap.size w5 w5) := ⟨(unhide HQ5).cell 0, (unhide HQ5).cell 1, Below.refl _ _⟩
            clear hne hall
            go_wp2
            go_region_held3 (fun wx => (wx.cell? ⟨S, 0, none⟩ = some (.string (ba p)) ∧ wx.cell? ⟨S, 1, none⟩ = some (.string (ba v)) ∧ Below w5.heap.size w5 wx))
              (first | assumption | exact hS | exact ⟨hS.1, hS.2.1, hS.2.2.drew⟩)
              (first
                | (go_at_call 44; refine (unhide KA _ (by assumption)).mono ?_; rintro e w9 ⟨A9, z9, rfl, hv9, hS9⟩)
                | (go_at_call 42; revert hv9; intro hv9; refine (unhide KS2 _ _ _ (by assumption) hv9).mono ?_; rintro e w9 ⟨A8, z8, rfl, hv8, hS9⟩))
            all_goals
              have KF2 := hide (unhide KF w9 A8 z8 hS9.2.2 (unhide hv8))
              have HB9 := hide (low_trans (unhide HB5) hS9.2.2)
              clear hv9 hv8 hS9 hS
              go_wp2_with (first | (go_at_call 19; refine (errno_any _ _).mono ?_; rintro e wn ⟨rfl, hwn⟩; rw [hwn]; clear hwn wn) | (go_at_call 21; fail))
              refine (unhide KF2).mono ?_
              rintro e w10 ⟨rfl, b10⟩
              have HBX := hide (low_trans (unhide HB9) b10)
              go_wp2
              go_ret
              exact ⟨rfl, unhide HBX⟩
      · clear HSUM HC
        go_wp2_with (go_at_call 19; refine (errno_any _ _).mono ?_; rintro e wn ⟨rfl, hwn⟩; rw [hwn]; clear hwn wn)
        go_loopw [17] (fun v17 wr => ∃ k : Nat, k ≤ n ∧ v17 = .int .i64 (k : Int) ∧ wr = w5 ∧ Hid (∀ j (_ : j < k) (hx : j < xs.length), xs[j].nm ≠ [])) (fun v17 _ => n - (intOf v17).toNat)
        case atStart => exact ⟨0, Nat.zero_le _, rfl, rfl, hide (fun j h => by omega)⟩
        case round =>
          obtain ⟨k, hk, rfl, hwr, hne⟩ := hrel
          rw [hwr]
          clear hwr
          by_cases hlt : k < n
          · have hkx : k < xs.length := by rw [unhide HXN]; exact hlt
            have hlt' : (k : Int) < (n : Int) := by omega
            obtain ⟨B, O, rfl, y0, y1⟩ := ((unhide HX).low (unhide HB5)).get hkx
            by_cases h0 : xs[k].nm = []
            · have i0 : ((ba xs[k].nm).toList == []) = true := by rw [str_eq]; exact decide_eq_true h0
              clear h0 hne y1
              go_wp2
              go_ret
              exact ⟨rfl, unhide HB5⟩
            · have i0 : ((ba xs[k].nm).toList == []) = false := by rw [str_eq]; exact decide_eq_false h0
              have HNE : Hid (∀ j (_ : j < k + 1) (hx : j < xs.length), xs[j].nm ≠ []) := hide (fun j h1 h2 => by
                by_cases e : j = k
                · subst e; exact h0
                · exact unhide hne j (by omega) h2)
              clear h0 hne y1
              go_wp2
              go_roundw
              case rel => exact ⟨k + 1, hlt, by push_cast; rfl, by first | trivial | rfl, HNE⟩
              case measure => simp [intOf]; omega
          · have hke : k = n := by omega
            subst hke
            have hall : ∀ x ∈ xs, x.nm ≠ [] := fun x hx => by
              obtain ⟨j, hj, rfl⟩ := List.getElem_of_mem hx
              exact unhide hne j (by rw [unhide HXN] at hj; exact hj) hj
            have KS2 := hide (unhide KS hall)
            have hS : (w5.cell? ⟨S, 0, none⟩ = some (.string (ba p)) ∧ w5.cell? ⟨S, 1, none⟩ = some (.string (ba v)) ∧ Below w5.heap.size w5 w5) := ⟨(unhide HQ5).cell 0, (unhide HQ5).cell 1, Below.refl _ _⟩
            clear hne hall
            go_wp2
            go_region_held3 (fun wx => (wx.cell? ⟨S, 0, none⟩ = some (.string (ba p)) ∧ wx.cell? ⟨S, 1, none⟩ = some (.string (ba v)) ∧ Below w5.heap.size w5 wx))
              (first | assumption | exact hS | exact ⟨hS.1, hS.2.1, hS.2.2.drew⟩)
              (first
                | (go_at_call 44; refine (unhide KA _ (by assumption)).mono ?_; rintro e w9 ⟨A9, z9, rfl, hv9, hS9⟩)
                | (go_at_call 42; revert hv9; intro hv9; refine (unhide KS2 _ _ _ (by assumption) hv9).mono ?_; rintro e w9 ⟨A8, z8, rfl, hv8, hS9⟩))
            all_goals
              have KF2 := hide (unhide KF w9 A8 z8 hS9.2.2 (unhide hv8))
              have HB9 := hide (low_trans (unhide HB5) hS9.2.2)
              clear hv9 hv8 hS9 hS
              go_wp2_with (first | (go_at_call 19; refine (errno_any _ _).mono ?_; rintro e wn ⟨rfl, hwn⟩; rw [hwn]; clear hwn wn) | (go_at_call 21; fail))
              refine (unhide KF2).mono ?_
              rintro e w10 ⟨rfl, b10⟩
              have HBX := hide (low_trans (unhide HB9) b10)
              go_wp2
              go_ret
              exact ⟨rfl, unhide HBX⟩
      · have hss := unhide HSUM (by first | trivial | rfl) (by first | trivial | rfl) (by first | trivial | rfl)
        have hs2 : ((ba S1).toList == (ba S2).toList) = true := by simpa using hss
        clear HSUM HC
        go_wp2_with (go_at_call 19; refine (errno_any _ _).mono ?_; rintro e wn ⟨rfl, hwn⟩; rw [hwn]; clear hwn wn)
        go_loopw [17] (fun v17 wr => ∃ k : Nat, k ≤ n ∧ v17 = .int .i64 (k : Int) ∧ wr = w5 ∧ Hid (∀ j (_ : j < k) (hx : j < xs.length), xs[j].nm ≠ [])) (fun v17 _ => n - (intOf v17).toNat)
        case atStart => exact ⟨0, Nat.zero_le _, rfl, rfl, hide (fun j h => by omega)⟩
        case round =>
          obtain ⟨k, hk, rfl, hwr, hne⟩ := hrel
          rw [hwr]
          clear hwr
          by_cases hlt : k < n
          · have hkx : k < xs.length := by rw [unhide HXN]; exact hlt
            have hlt' : (k : Int) < (n : Int) := by omega
            obtain ⟨B, O, rfl, y0, y1⟩ := ((unhide HX).low (unhide HB5)).get hkx
            by_cases h0 : xs[k].nm = []
            · have i0 : ((ba xs[k].nm).toList == []) = true := by rw [str_eq]; exact decide_eq_true h0
              clear h0 hne y1
              go_wp2
              go_ret
              exact ⟨rfl, unhide HB5⟩
            · have i0 : ((ba xs[k].nm).toList == []) = false := by rw [str_eq]; exact decide_eq_false h0
              have HNE : Hid (∀ j (_ : j < k + 1) (hx : j < xs.length), xs[j].nm ≠ []) := hide (fun j h1 h2 => by
                by_cases e : j = k
                · subst e; exact h0
                · exact unhide hne j (by omega) h2)
              clear h0 hne y1
              go_wp2
              go_roundw
              case rel => exact ⟨k + 1, hlt, by push_cast; rfl, by first | trivial | rfl, HNE⟩
              case measure => simp [intOf]; omega
          · have hke : k = n := by omega
            subst hke
            have hall : ∀ x ∈ xs, x.nm ≠ [] := fun x hx => by
              obtain ⟨j, hj, rfl⟩ := List.getElem_of_mem hx
              exact unhide hne j (by rw [unhide HXN] at hj; exact hj) hj
            have KS2 := hide (unhide KS hall)
            have hS : (w5.cell? ⟨S, 0, none⟩ = some (.string (ba p)) ∧ w5.cell? ⟨S, 1, none⟩ = some (.string (ba v)) ∧ Below w5.heap.size w5 w5) := ⟨(unhide HQ5).cell 0, (unhide HQ5).cell 1, Below.refl _ _⟩
            clear hne hall
            go_wp2
            go_region_held3 (fun wx => (wx.cell? ⟨S, 0, none⟩ = some (.string (ba p)) ∧ wx.cell? ⟨S, 1, none⟩ = some (.string (ba v)) ∧ Below w5.heap.size w5 wx))
              (first | assumption | exact hS | exact ⟨hS.1, hS.2.1, hS.2.2.drew⟩)
              (first
                | (go_at_call 44; refine (unhide KA _ (by assumption)).mono ?_; rintro e w9 ⟨A9, z9, rfl, hv9, hS9⟩)
                | (go_at_call 42; revert hv9; intro hv9; refine (unhide KS2 _ _ _ (by assumption) hv9).mono ?_; rintro e w9 ⟨A8, z8, rfl, hv8, hS9⟩))
            all_goals
              have KF2 := hide (unhide KF w9 A8 z8 hS9.2.2 (unhide hv8))
              have HB9 := hide (low_trans (unhide HB5) hS9.2.2)
              clear hv9 hv8 hS9 hS
              go_wp2_with (first | (go_at_call 19; refine (errno_any _ _).mono ?_; rintro e wn ⟨rfl, hwn⟩; rw [hwn]; clear hwn wn) | (go_at_call 21; fail))
              refine (unhide KF2).mono ?_
              rintro e w10 ⟨rfl, b10⟩
              have HBX := hide (low_trans (unhide HB9) b10)
              go_wp2
              go_ret
              exact ⟨rfl, unhide HBX⟩
end Go.Proofs.YtkablmjkffdloaaGreatDoor
