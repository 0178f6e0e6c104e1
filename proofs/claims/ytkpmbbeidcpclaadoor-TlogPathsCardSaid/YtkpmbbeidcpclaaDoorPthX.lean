/-
  The tiles' paths: the law.
-/
import Derived.Test.YtkpmbbeidcpclaaDoorPthZ
import Derived.Test.YtkpmbbeidcpclaaDoorHasS
import Derived.Test.YtkpmbbeidcpclaaDoorFirst
namespace Go.Proofs.YtkpmbbeidcpclaaDoor
open Go.RowKit

theorem mod_at (i : Int) {N : Nat} (hN : 1 ≤ N) : ∃ (r : Int) (s j : Nat), i.tmod (N : Int) = r ∧ r + (N : Int) = (s : Int) ∧ s < 2 * N ∧ (s : Int).tmod (N : Int) = (j : Int) ∧ j < N := by
  have h1 : i.tmod (N : Int) < N := Int.tmod_lt_of_pos i (by omega)
  have h2 : -(N : Int) < i.tmod (N : Int) := Int.lt_tmod_of_pos i (by omega)
  refine ⟨_, (i.tmod (N : Int) + N).toNat, (i.tmod (N : Int) + N).toNat % N, rfl, by omega, by omega, ?_, Nat.mod_lt _ (by omega)⟩
  rw [Int.tmod_eq_emod_of_nonneg (by omega)]
  omega

theorem mod_8 (i : Int) : ∃ (r : Int) (s j : Nat), i.tmod 8 = r ∧ r + 8 = (s : Int) ∧ (s : Int).tmod 8 = (j : Int) ∧ j < 8 ∧ s < 16 := by
  obtain ⟨r, s, j, a, b, c, d, e⟩ := mod_at i (N := 8) (by decide)
  exact ⟨r, s, j, a, b, d, e, c⟩
theorem mod_2000 (i : Int) : ∃ (r : Int) (s j : Nat), i.tmod 2000 = r ∧ r + 2000 = (s : Int) ∧ (s : Int).tmod 2000 = (j : Int) ∧ j < 2000 ∧ s < 4000 := by
  obtain ⟨r, s, j, a, b, c, d, e⟩ := mod_at i (N := 2000) (by decide)
  exact ⟨r, s, j, a, b, d, e, c⟩
theorem mod_100 (i : Int) : ∃ (r : Int) (s j : Nat), i.tmod 100 = r ∧ r + 100 = (s : Int) ∧ (s : Int).tmod 100 = (j : Int) ∧ j < 100 ∧ s < 200 := by
  obtain ⟨r, s, j, a, b, c, d, e⟩ := mod_at i (N := 100) (by decide)
  exact ⟨r, s, j, a, b, d, e, c⟩

theorem want_le (h n : Nat) : ∀ v, wantN h n v ≤ v * n
  | 0 => by simp [wantN]
  | v + 1 => by
    have ih := want_le h n v
    have hd : n / 2 ^ v ≤ n := Nat.div_le_self _ _
    show (if v % h = 0 then wantN h n v + n / 2 ^ v else wantN h n v) ≤ _
    rw [Nat.succ_mul]
    split <;> omega
theorem wsum_take (ts : List Ti) (z : Nat) : wsum (ts.take z) ≤ wsum ts := by
  have := wsum_append (ts.take z) (ts.drop z)
  rw [List.take_append_drop] at this
  omega
theorem len_wsum : ∀ (ts : List Ti), (∀ t ∈ ts, 1 ≤ t.w) → ts.length ≤ wsum ts
  | [], _ => Nat.zero_le _
  | t :: r, h => by
    have a1 := h t (List.mem_cons_self ..)
    have a2 := len_wsum r (fun x hx => h x (List.mem_cons_of_mem _ hx))
    have e : wsum (t :: r) = t.w + wsum r := by simp [wsum]
    simp only [List.length_cons]
    omega

set_option maxRecDepth 100000 in
set_option maxHeartbeats 4000000 in
theorem paths_law {w : World} (hg : Gd w) (i j k : Int) :
    Calls Tryd.prog 9 #[.int .i64 i, .int .i64 j, .int .i64 k] w fun e w' => e = .returned (.bool true) ∧ Below w.heap.size w w' := by
  have HF := hide (first_any hg)
  have HG := hide hg
  obtain ⟨r1, s1, h0, m1, m2, m3, hh, m4⟩ := mod_8 i
  obtain ⟨r2, s2, n, n1, n2, n3, hn, n4⟩ := mod_2000 j
  obtain ⟨r3, s3, q, o1, o2, o3, hq, o4⟩ := mod_100 k
  obtain ⟨h, hhe⟩ : ∃ h, h0 + 1 = h := ⟨_, rfl⟩
  have m5 : (h0 : Int) + 1 = (h : Int) := by omega
  have h1 : 1 ≤ h := by omega
  have h8 : h ≤ 8 := by omega
  obtain ⟨u, hu⟩ : ∃ u, n + q = u := ⟨_, rfl⟩
  have hu2 : (n : Int) + (q : Int) = (u : Int) := by omega
  have hT1 := hide (fun wx => tiles_any h1 h8 (n := n) (by omega) wx)
  have hT2 := hide (fun wx => tiles_any h1 h8 (n := u) (by omega) wx)
  clear hg
  go_enter Tryd.func9, Tryd.ntmps9
  go_wp2_with (go_at_call 10; fail)
  refine (unhide HF).mono ?_
  rintro e w1 ⟨rfl, b1⟩
  have HC1 := hide b1
  clear b1
  go_wp2_with (go_at_call 41; fail)
  refine (unhide hT1 _).mono ?_
  rintro e w2 ⟨v, rfl, hv, b2⟩
  have HV := hide hv
  have HC2 := hide (low_trans (unhide HC1) b2)
  clear b2 hv hT1
  go_wp2_with (go_at_call 41; fail)
  refine (unhide hT2 _).mono ?_
  rintro e w3 ⟨y, rfl, hy, b3⟩
  have HV3 := hide (TiAt.low (unhide HV) b3)
  have HY := hide hy
  have HC3 := hide (low_trans (unhide HC2) b3)
  clear b3 hy hT2 HV
  obtain ⟨va, vc, hve, hvr⟩ := TiAt.read (unhide HV3)
  obtain ⟨ya, yc, hye, hyr⟩ := TiAt.read (unhide HY)
  have hYb : (tilesF 22 h u 0).length ≤ 9223372036854775807 := by
    rcases (unhide HY).2 with ⟨_, e⟩ | ⟨_, cap, _, _, _, _, q1, q2, _⟩
    · omega
    · unfold maxLen at q2; omega
  obtain ⟨X, hX⟩ : ∃ X, (tilesF 22 h n 0).length = X := ⟨_, rfl⟩
  obtain ⟨Y, hY⟩ : ∃ Y, (tilesF 22 h u 0).length = Y := ⟨_, rfl⟩
  subst hve hye
  rw [hX, hY]
  have HVR := hide hvr
  have HYR := hide hyr
  clear hvr hyr HV3 HY
  obtain ⟨ts, hts⟩ : ∃ ts, tilesF 22 h n 0 = ts := ⟨_, rfl⟩
  obtain ⟨us, hus⟩ : ∃ us, tilesF 22 h u 0 = us := ⟨_, rfl⟩
  have hok : ∀ t ∈ ts, TiOk h t := fun t ht => tile_ok h1 hn (by rw [hts]; exact ht)
  have hnd : ts.Nodup := by rw [← hts]; exact tiles_nodup _ _ _ _
  have hsum : wantN h n 21 = wsum ts := by rw [want_tiles h1 h8 hn, hts]
  have hwid : ∀ t ∈ ts, ∃ t' ∈ us, t'.h = t.h ∧ t'.l = t.l ∧ t'.n = t.n ∧ t.w ≤ t'.w := fun t ht => by
    have := tiles_wider (f := 22) (h := h) (n := n) (n' := u) (by omega) (t := t) (by rw [hts]; exact ht)
    rw [hus] at this
    exact this
  rw [hts] at hX HVR
  rw [hus] at hY HYR hYb
  rw [hY] at hYb
  have HOK := hide hok
  have HND := hide hnd
  have HSUM := hide hsum
  have HWID := hide hwid
  clear hok hnd hsum hwid hts hus
  go_wp2_with (go_at_call 17; refine (errno_any _ _).mono ?_; rintro e wn ⟨rfl, hwn⟩; rw [hwn]; clear hwn wn)
  go_loopw [12, 13, 14] (fun v12 v13 v14 wr => ∃ z : Nat, z ≤ X ∧ v14 = .int .i64 (z : Int) ∧ v13 = .int .i64 ((wsum (ts.take z) : Nat) : Int) ∧ TxAt w3.heap.size wr v12 ((ts.take z).map fun t => ba (tiP h t)) ∧ Below w3.heap.size w3 wr) (fun _ _ v14 _ => X - (intOf v14).toNat)
  case atStart => exact ⟨0, Nat.zero_le _, rfl, rfl, ⟨rfl, Or.inl ⟨rfl, rfl⟩⟩, Below.refl _ _⟩
  case round =>
    obtain ⟨z, hz, rfl, rfl, htx, hbw⟩ := hrel
    have HTX := hide htx
    have HBW := hide hbw
    clear htx hbw
    by_cases hlt : z < X
    · have hzl : z < ts.length := by rw [hX]; exact hlt
      rcases (unhide HVR).els with h0 | ⟨B, rfl, he⟩
      · rw [h0] at hzl; simp at hzl
      have hBs : B < w3.heap.size := lt_of_cell (he z hzl).1
      obtain ⟨t, ht⟩ : ∃ t, ts[z] = t := ⟨_, rfl⟩
      have hc := he z hzl
      rw [ht] at hc
      obtain ⟨c0, c1, c2, c3⟩ := hc
      have htok : TiOk h t := unhide HOK t (by rw [← ht]; exact List.getElem_mem hzl)
      have HPT := hide (fun (wx : World) (hg : Gd wx) => path_ti h1 h8 htok hg)
      have HPS := hide (fun (wx : World) (hg : Gd wx) => parse_ti h1 h8 htok hg)
      unfold tileV at HPT HPS
      have hc0 := c0
      have hc1 := c1
      have hc2 := c2
      have hc3 := c3
      rw [← (unhide HBW).cell hBs] at c0 c1 c2 c3
      clear he
      have HGw := hide ((unhide HG).low (low_trans (unhide HC3) (unhide HBW)))
      obtain ⟨P, hP⟩ : ∃ P, ba (tiP h t) = P := ⟨_, rfl⟩
      rw [hP] at HPT HPS
      go_wp2_with (go_at_call 42; fail)
      refine (unhide HPT _ (unhide HGw)).mono ?_
      rintro e w4 ⟨rfl, b4⟩
      have HB4 := hide (low_trans (unhide HBW) b4)
      have HX4 := hide (TxAt.low (unhide HTX) b4)
      have HG4 := hide ((unhide HGw).low b4)
      clear b4 HPT HTX HBW HGw c0 c1 c2 c3
      go_wp2_with (go_at_call 43; fail)
      refine (unhide HPS _ (unhide HG4)).mono ?_
      rintro e w5 ⟨rfl, b5⟩
      have HB5 := hide (low_trans (unhide HB4) b5)
      have HX5 := hide (TxAt.low (unhide HX4) b5)
      clear b5 HPS HX4 HB4 HG4
      have c0 := hc0
      have c1 := hc1
      have c2 := hc2
      have c3 := hc3
      rw [← (unhide HB5).cell hBs] at c0 c1 c2 c3
      go_wp2
      obtain ⟨W5, hW5⟩ : ∃ W5, w5.alloc (.cells #[.int .i64 (t.h : Int), .int .i64 (t.l : Int), .int .i64 (t.n : Int), .int .i64 (t.w : Int)] 72) = W5 := ⟨_, rfl⟩
      have bW : Below w5.heap.size w5 W5 := by rw [← hW5]; exact (Below.refl _ _).alloc (Nat.le_refl _) _
      have hT : Blk W5 w5.heap.size #[.int .i64 (t.h : Int), .int .i64 (t.l : Int), .int .i64 (t.n : Int), .int .i64 (t.w : Int)] 72 := by rw [← hW5]; exact Blk.new _ _ _
      have HB6 := hide (low_trans (unhide HB5) bW)
      have HX6 := hide (TxAt.low (unhide HX5) bW)
      rw [hW5]
      have d0 := hT.cell 0
      have d1 := hT.cell 1
      have d2 := hT.cell 2
      have d3 := hT.cell 3
      obtain ⟨g, hgg⟩ : ∃ g, w5.heap.size = g := ⟨_, rfl⟩
      rw [hgg] at d0 d1 d2 d3 ⊢
      clear hgg hT bW hW5 HB5 HX5 c0 c1 c2 c3
      have c0 := hc0
      have c1 := hc1
      have c2 := hc2
      have c3 := hc3
      rw [← (unhide HB6).cell hBs] at c0 c1 c2 c3
      go_region_held3 (fun w' => w'.cell? ⟨B, z * 4, none⟩ = some (.int .i64 (t.h : Int)) ∧ w'.cell? ⟨B, z * 4 + 1, none⟩ = some (.int .i64 (t.l : Int)) ∧ w'.cell? ⟨B, z * 4 + 2, none⟩ = some (.int .i64 (t.n : Int)) ∧ w'.cell? ⟨B, z * 4 + 3, none⟩ = some (.int .i64 (t.w : Int)) ∧ w'.cell? ⟨g, 0, none⟩ = some (.int .i64 (t.h : Int)) ∧ w'.cell? ⟨g, 1, none⟩ = some (.int .i64 (t.l : Int)) ∧ w'.cell? ⟨g, 2, none⟩ = some (.int .i64 (t.n : Int)) ∧ w'.cell? ⟨g, 3, none⟩ = some (.int .i64 (t.w : Int)))
        (go_keep)
        ((go_at_call 17; refine (errno_any _ _).mono ?_; rintro e wn ⟨rfl, rfl⟩))
      obtain ⟨W6, hW6⟩ : ∃ W6, W5.drew = W6 := ⟨_, rfl⟩
      have b6 : Below W5.heap.size W5 W6 := by rw [← hW6]; exact ⟨rfl, rfl, rfl, Nat.le_refl _, fun _ _ => rfl⟩
      rw [hW6]
      have HB7 := hide (low_trans (unhide HB6) b6)
      have HX7 := hide (TxAt.low (unhide HX6) b6)
      clear c0 c1 c2 c3 d0 d1 d2 d3 hW6 b6 HB6 HX6
      have hmlen : ((ts.take z).map fun t => ba (tiP h t)).length = z := by rw [List.length_map, List.length_take]; omega
      obtain ⟨pa, pc, hpv, hst⟩ := TxAt.read (unhide HX7)
      subst hpv
      have hnew : P ∉ (ts.take z).map fun t => ba (tiP h t) := by
        have := path_new h1 h8 (unhide HND) (unhide HOK) hzl
        rw [ht, hP] at this
        exact this
      have hS1 : wsum (ts.take (z + 1)) = wsum (ts.take z) + t.w := by
        rw [List.take_add_one, List.getElem?_eq_getElem hzl, ht, wsum_append]
        simp [wsum]
      have hS2 : wsum (ts.take (z + 1)) ≤ 42000 := Nat.le_trans (wsum_take _ _) (by rw [← unhide HSUM]; have := want_le h n 21; omega)
      have hX42 : X ≤ 42000 := by
        have a1 := len_wsum ts (fun t ht => (unhide HOK t ht).w1)
        have a2 := want_le h n 21
        rw [unhide HSUM] at a2
        omega
      obtain ⟨S0, hS0⟩ : ∃ S0, wsum (ts.take z) = S0 := ⟨_, rfl⟩
      obtain ⟨S1, hSS⟩ : ∃ S1, wsum (ts.take (z + 1)) = S1 := ⟨_, rfl⟩
      rw [hS0, hSS] at hS1
      rw [hSS] at hS2
      have eS : (S0 : Int) + (t.w : Int) = (S1 : Int) := by omega
      obtain ⟨W8, hW8⟩ : ∃ W8, W6.alloc (.cells #[.string P] 9) = W8 := ⟨_, rfl⟩
      obtain ⟨v8, w8, happ, htx8, b8⟩ := app_text (t := P) (unhide HX7) (unhide HB7).size (by rw [hmlen]; omega) hW8
      have HX8 : Hid (TxAt w3.heap.size w8 v8 ((ts.take (z + 1)).map fun t => ba (tiP h t))) := hide (by
        rw [List.take_add_one, List.getElem?_eq_getElem hzl, ht, List.map_append]
        show TxAt w3.heap.size w8 v8 ((ts.take z).map (fun t => ba (tiP h t)) ++ [ba (tiP h t)])
        rw [hP]
        exact htx8)
      have HB8 := hide ((unhide HB7).trans b8)
      rw [hmlen] at happ
      have c0 := hc0
      have c1 := hc1
      have c2 := hc2
      have c3 := hc3
      rw [← (unhide HB8).cell hBs] at c0 c1 c2 c3
      obtain ⟨t', ht'm, ht'⟩ := unhide HWID t (by rw [← ht]; exact List.getElem_mem hzl)
      obtain ⟨jm, hjm, hjt⟩ := List.mem_iff_getElem.1 ht'm
      have HM : Hid (∃ j', 0 ≤ j' ∧ ∃ hj : j' < us.length, us[j'].h = t.h ∧ us[j'].l = t.l ∧ us[j'].n = t.n ∧ t.w ≤ us[j'].w) := hide ⟨jm, Nat.zero_le _, hjm, by rw [hjt]; exact ht'⟩
      have HW8 := hide hW8
      have HST := hide hst
      have HNEW := hide hnew
      have HML := hide hmlen
      have HS0 := hide hS0
      have HSS := hide hSS
      have HC := hide (And.intro hc0 (And.intro hc1 (And.intro hc2 hc3)))
      have hz42 : z ≤ 42000 := by omega
      have htw : t.w ≤ 42000 := by omega
      rw [hmlen, hS0]
      clear hst hnew hmlen hS0 hSS hS1 htx8 b8 hW8 ht'm ht' hjm hjt HX7 HB7 hc0 hc1 hc2 hc3 htok
      by_cases hX60 : X < 60
      case' pos =>
        go_wp2_with (go_at_call 44; fail)
        refine (has_not (c := pc) (unhide HML) (by omega) (unhide HST) (unhide HNEW)).mono ?_
        rintro e w7 ⟨rfl, hw⟩
        rw [hw]
        clear hw w7
      all_goals
        go_wp2_with (at_builtin; rw [unhide HW8]; refine Lib.wpList_append_run _ rfl _ _ _ _ rfl _ _ rfl rfl _ _ happ ?_)
        clear happ HW8 HST HNEW c0 c1 c2 c3
        have HAI := hide (And.intro HX8 (And.intro HSS HC))
        obtain ⟨A0, hA0⟩ : ∃ A : Int, (t.h : Int) = A := ⟨_, rfl⟩
        obtain ⟨A1, hA1⟩ : ∃ A : Int, (t.l : Int) = A := ⟨_, rfl⟩
        obtain ⟨A2, hA2⟩ : ∃ A : Int, (t.n : Int) = A := ⟨_, rfl⟩
        obtain ⟨A3, hA3⟩ : ∃ A : Int, (t.w : Int) = A := ⟨_, rfl⟩
        rw [hA0, hA1, hA2, hA3] at HC
        have HA := hide (And.intro hA0 (And.intro hA1 (And.intro hA2 hA3)))
        go_loopw [19, 20] (fun v19 v20 wr => ∃ j : Nat, j ≤ Y ∧ v20 = .int .i64 (j : Int) ∧ (v19 = .bool true ∨ v19 = .bool false ∧ ∃ j', j ≤ j' ∧ ∃ hj : j' < us.length, us[j'].h = t.h ∧ us[j'].l = t.l ∧ us[j'].n = t.n ∧ t.w ≤ us[j'].w) ∧ Below w8.heap.size w8 wr) (fun _ v20 _ => Y - (intOf v20).toNat)
        case atStart => exact ⟨0, Nat.zero_le _, rfl, Or.inr ⟨rfl, unhide HM⟩, Below.refl _ _⟩
        case round =>
          rename World => wy
          obtain ⟨jj, hjj, rfl, hwide, hby⟩ := hrel
          by_cases hjY : jj < Y
          · have hju : jj < us.length := by rw [hY]; exact hjY
            rcases (unhide HYR).els with h0' | ⟨B2, rfl, he2⟩
            · rw [h0'] at hju; simp at hju
            have hce := he2 jj hju
            obtain ⟨u, hu⟩ : ∃ u, us[jj] = u := ⟨_, rfl⟩
            rw [hu] at hce
            obtain ⟨U0, hU0⟩ : ∃ A : Int, (u.h : Int) = A := ⟨_, rfl⟩
            obtain ⟨U1, hU1⟩ : ∃ A : Int, (u.l : Int) = A := ⟨_, rfl⟩
            obtain ⟨U2, hU2⟩ : ∃ A : Int, (u.n : Int) = A := ⟨_, rfl⟩
            obtain ⟨U3, hU3⟩ : ∃ A : Int, (u.w : Int) = A := ⟨_, rfl⟩
            rw [hU0, hU1, hU2, hU3] at hce
            obtain ⟨e0, e1, e2, e3⟩ := hce
            obtain ⟨c0, c1, c2, c3⟩ := unhide HC
            have HBY := hide ((unhide HB8).trans (hby.mono (unhide HB8).size))
            rw [← (unhide HBY).cell hBs] at c0 c1 c2 c3
            rw [← (unhide HBY).cell (lt_of_cell e0)] at e0
            rw [← (unhide HBY).cell (lt_of_cell e1)] at e1
            rw [← (unhide HBY).cell (lt_of_cell e2)] at e2
            rw [← (unhide HBY).cell (lt_of_cell e3)] at e3
            have HBy := hide hby
            have HU := hide (And.intro hU0 (And.intro hU1 (And.intro hU2 hU3)))
            have HUJ := hide hu
            clear he2 hby hu hU0 hU1 hU2 hU3
            rcases hwide with rfl | ⟨rfl, hex⟩
            · clear c0 c1 c2 c3 e0 e1 e2 e3
              go_wp2
              go_quiet (fail)
              go_wp2
              go_roundw
              case rel => exact ⟨jj + 1, hjY, by push_cast; rfl, Or.inl rfl, lowN (unhide HBy) _⟩
              case measure => simp [intOf]; omega
            · have HEX := hide hex
              clear hex
              by_cases q0 : U0 = A0
              · skip
                by_cases q1 : U1 = A1
                · skip
                  by_cases q2 : U2 = A2
                  · skip
                    obtain ⟨bb, g3⟩ : ∃ bb, decide (A3 ≤ U3) = bb := ⟨_, rfl⟩
                    have HQ := hide g3
                    have g0 : (U0 == A0) = true := by simp [q0]
                    have g1 : (U1 == A1) = true := by simp [q1]
                    have g2 : (U2 == A2) = true := by simp [q2]
                    clear q0 q1 q2
                    go_wp2
                    go_quiet (fail)
                    go_wp2
                    go_roundw
                    case rel =>
                      refine ⟨jj + 1, hjY, by push_cast; rfl, ?_, lowN (unhide HBy) _⟩
                      cases bb with
                      | true => exact Or.inl rfl
                      | false =>
                        refine Or.inr ⟨rfl, ?_⟩
                        obtain ⟨j', a1, a2, m0, m1, m2, m3⟩ := unhide HEX
                        refine ⟨j', ?_, a2, m0, m1, m2, m3⟩
                        rcases Nat.lt_or_ge jj j' with hl | hl
                        · exact hl
                        · obtain rfl : j' = jj := by omega
                          exfalso
                          rw [unhide HUJ] at m0 m1 m2 m3
                          obtain ⟨p0, p1, p2, p3⟩ := unhide HU
                          obtain ⟨r0, r1, r2, r3⟩ := unhide HA
                          have := of_decide_eq_false (unhide HQ)
                          omega
                    case measure => simp [intOf]; omega
                  · have HQ := hide q2
                    have g0 : (U0 == A0) = true := by simp [q0]
                    have g1 : (U1 == A1) = true := by simp [q1]
                    have g2 : (U2 == A2) = false := by simp [q2]
                    clear q0 q1 q2
                    go_wp2
                    go_quiet (fail)
                    go_wp2
                    go_roundw
                    case rel => exact ⟨jj + 1, hjY, by push_cast; rfl, Or.inr ⟨rfl, by
                        obtain ⟨j', a1, a2, m0, m1, m2, m3⟩ := unhide HEX
                        refine ⟨j', ?_, a2, m0, m1, m2, m3⟩
                        rcases Nat.lt_or_ge jj j' with hl | hl
                        · exact hl
                        · obtain rfl : j' = jj := by omega
                          exfalso
                          rw [unhide HUJ] at m0 m1 m2 m3
                          obtain ⟨p0, p1, p2, p3⟩ := unhide HU
                          obtain ⟨r0, r1, r2, r3⟩ := unhide HA
                          have := unhide HQ
                          omega⟩, lowN (unhide HBy) _⟩
                    case measure => simp [intOf]; omega
                · have HQ := hide q1
                  have g0 : (U0 == A0) = true := by simp [q0]
                  have g1 : (U1 == A1) = false := by simp [q1]
                  clear q0 q1
                  go_wp2
                  go_quiet (fail)
                  go_wp2
                  go_roundw
                  case rel => exact ⟨jj + 1, hjY, by push_cast; rfl, Or.inr ⟨rfl, by
                      obtain ⟨j', a1, a2, m0, m1, m2, m3⟩ := unhide HEX
                      refine ⟨j', ?_, a2, m0, m1, m2, m3⟩
                      rcases Nat.lt_or_ge jj j' with hl | hl
                      · exact hl
                      · obtain rfl : j' = jj := by omega
                        exfalso
                        rw [unhide HUJ] at m0 m1 m2 m3
                        obtain ⟨p0, p1, p2, p3⟩ := unhide HU
                        obtain ⟨r0, r1, r2, r3⟩ := unhide HA
                        have := unhide HQ
                        omega⟩, lowN (unhide HBy) _⟩
                  case measure => simp [intOf]; omega
              · have HQ := hide q0
                have g0 : (U0 == A0) = false := by simp [q0]
                clear q0
                go_wp2
                go_quiet (fail)
                go_wp2
                go_roundw
                case rel => exact ⟨jj + 1, hjY, by push_cast; rfl, Or.inr ⟨rfl, by
                    obtain ⟨j', a1, a2, m0, m1, m2, m3⟩ := unhide HEX
                    refine ⟨j', ?_, a2, m0, m1, m2, m3⟩
                    rcases Nat.lt_or_ge jj j' with hl | hl
                    · exact hl
                    · obtain rfl : j' = jj := by omega
                      exfalso
                      rw [unhide HUJ] at m0 m1 m2 m3
                      obtain ⟨p0, p1, p2, p3⟩ := unhide HU
                      obtain ⟨r0, r1, r2, r3⟩ := unhide HA
                      have := unhide HQ
                      omega⟩, lowN (unhide HBy) _⟩
                case measure => simp [intOf]; omega
          · have hjn : jj = Y := by omega
            obtain rfl : u19 = .bool true := by
              rcases hwide with h | ⟨_, j', a1, a2, _⟩
              · exact h
              · exfalso
                rw [hY] at a2
                omega
            have hjy : ¬ ((jj : Int) < (Y : Int)) := by omega
            have HBY := hide ((unhide HB8).trans (hby.mono (unhide HB8).size))
            have HXY := hide (TxAt.low (unhide HX8) hby)
            clear hwide hby
            go_wp2
            go_roundw
            case rel => exact ⟨z + 1, hlt, by push_cast; rfl, by rw [unhide HSS], unhide HXY, unhide HBY⟩
            case measure => simp [intOf]; omega
    · have hzX : z = X := by omega
      have hall : ts.take z = ts := List.take_of_length_le (by omega)
      rw [hall]
      have HG9 := hide (unhide HBW)
      have hS42 : wsum ts ≤ 42000 := by rw [← unhide HSUM]; have := want_le h n 21; omega
      obtain ⟨SS, hSS⟩ : ∃ SS, wsum ts = SS := ⟨_, rfl⟩
      have HSS : Hid (wantN h n 21 = SS) := hide (by rw [unhide HSUM]; exact hSS)
      rw [hSS] at hS42 ⊢
      have hznX : ¬ ((z : Int) < (X : Int)) := by omega
      clear hall hSS HTX
      go_wp2
      go_loopw [21, 22, 23] (fun v21 v22 v23 wy => ∃ v : Nat, v ≤ 21 ∧ v23 = .int .i64 (v : Int) ∧ v22 = .int .i64 ((2 ^ v : Nat) : Int) ∧ v21 = .int .i64 ((wantN h n v : Nat) : Int) ∧ Below wr.heap.size wr wy) (fun _ _ v23 _ => 21 - (intOf v23).toNat)
      case atStart => exact ⟨0, Nat.zero_le _, rfl, rfl, rfl, Below.refl _ _⟩
      case round =>
        rename World => wy
        obtain ⟨v, hv, rfl, rfl, rfl, hby⟩ := hrel
        have hp21 : 2 ^ v ≤ 2 ^ 21 := Nat.pow_le_pow_right (by decide) hv
        have hp1 : 1 ≤ 2 ^ v := Nat.one_le_two_pow
        have hw42 := want_le h n v
        have hvn : v * n ≤ 42000 := Nat.le_trans (Nat.mul_le_mul hv (show n ≤ 2000 by omega)) (by decide)
        have hpe : 2 ^ (v + 1) = 2 * 2 ^ v := by rw [Nat.pow_succ, Nat.mul_comm]
        have hwe : wantN h n (v + 1) = if v % h = 0 then wantN h n v + n / 2 ^ v else wantN h n v := rfl
        have HST := hide (fun (q : n < 2 ^ v) => want_stays (h := h) q (21 - v))
        obtain ⟨sz, hsz⟩ : ∃ sz, 2 ^ v = sz := ⟨_, rfl⟩
        obtain ⟨wv, hwv⟩ : ∃ wv, wantN h n v = wv := ⟨_, rfl⟩
        rw [hsz] at hp21 hp1 hpe hwe HST ⊢
        rw [hwv] at hw42 hwe HST ⊢
        have hsz2 : sz ≤ 2097152 := hp21
        have hwv2 : wv ≤ 42000 := by omega
        have e2 : (2 : Int) * (sz : Int) = ((2 * sz : Nat) : Int) := by push_cast; rfl
        obtain ⟨s2', hs2'⟩ : ∃ s2', 2 * sz = s2' := ⟨_, rfl⟩
        rw [hs2'] at e2 hpe
        have HBy := hide hby
        by_cases hlast : v ≤ 20 ∧ sz ≤ n
        · obtain ⟨hv20, hszn⟩ := hlast
          have g1 : decide ((v : Int) ≤ 20) = true := by simp; omega
          have g2 : decide ((sz : Int) ≤ (n : Int)) = true := by simp; omega
          have g2' : decide (sz ≤ n) = true := by simp; omega
          have hh0 : (h : Int) ≠ 0 := by omega
          have hsz0 : (sz : Int) ≠ 0 := by omega
          obtain ⟨md, hmd⟩ : ∃ md, v % h = md := ⟨_, rfl⟩
          have e3 : (v : Int).tmod (h : Int) = (md : Int) := by rw [Int.tmod_eq_emod_of_nonneg (by omega), ← Int.natCast_emod, hmd]
          obtain ⟨qt, hqt⟩ : ∃ qt, n / sz = qt := ⟨_, rfl⟩
          have e4 : (n : Int).tdiv (sz : Int) = (qt : Int) := by rw [Int.tdiv_eq_ediv_of_nonneg (by omega), ← Int.natCast_ediv, hqt]
          have hqn : qt ≤ 2000 := by rw [← hqt]; exact Nat.le_trans (Nat.div_le_self _ _) (by omega)
          rw [hmd, hqt] at hwe
          have HWE := hide hwe
          have HPE := hide hpe
          clear hby hw42 hvn hpe hwe hmd hqt hp21 hsz hwv hs2'
          by_cases hm0 : md = 0
          · subst hm0
            have HW9 : Hid (wantN h n (v + 1) = wv + qt) := hide (by have := unhide HWE; rw [if_pos rfl] at this; exact this)
            obtain ⟨wq, hwq⟩ : ∃ wq, wv + qt = wq := ⟨_, rfl⟩
            have e5 : (wv : Int) + (qt : Int) = (wq : Int) := by omega
            rw [hwq] at HW9
            clear HWE hwq
            go_wp2
            go_roundw
            case rel => exact ⟨v + 1, by omega, by push_cast; rfl, by rw [unhide HPE], by rw [unhide HW9], unhide HBy⟩
            case measure => simp [intOf]; omega
          · have HW9 : Hid (wantN h n (v + 1) = wv) := hide (by have := unhide HWE; rw [if_neg hm0] at this; exact this)
            have hmq : ((md : Int) == 0) = false := by simp; omega
            clear HWE hm0
            go_wp2
            go_roundw
            case rel => exact ⟨v + 1, by omega, by push_cast; rfl, by rw [unhide HPE], by rw [unhide HW9], unhide HBy⟩
            case measure => simp [intOf]; omega
        · have hend : wv = SS := by
            rw [← unhide HSS]
            rcases Nat.lt_or_ge n sz with q | q
            · have := unhide HST q
              rw [← this]
              congr 1
              omega
            · obtain rfl : v = 21 := by
                apply Classical.byContradiction
                intro hc
                exact hlast ⟨by omega, q⟩
              exact hwv.symm
          subst hend
          have HZ : Hid (Below w.heap.size w wy) := hide (low_trans (low_trans (unhide HC3) (unhide HG9)) hby)
          have hss : (wv == wv) = true := by simp
          clear hby hw42 hvn hpe hwe hp21 hsz hwv hs2' HST
          by_cases hv20 : v ≤ 20
          · have g1 : decide ((v : Int) ≤ 20) = true := by simp; omega
            have g2 : decide ((sz : Int) ≤ (n : Int)) = false := by
              simp
              exact Nat.lt_of_not_le (fun q => hlast ⟨hv20, q⟩)
            have g2' : decide (sz ≤ n) = false := by
              simp
              exact Nat.lt_of_not_le (fun q => hlast ⟨hv20, q⟩)
            have g2n : ¬ ((sz : Int) ≤ (n : Int)) := by simpa using g2
            clear hlast hv20
            go_wp2
            go_ret
            exact ⟨by simp, unhide HZ⟩
          · have g1 : decide ((v : Int) ≤ 20) = false := by simp; omega
            have g1n : ¬ ((v : Int) ≤ 20) := by omega
            clear hlast hv20
            go_wp2
            go_ret
            exact ⟨by simp, unhide HZ⟩
end Go.Proofs.YtkpmbbeidcpclaaDoor
