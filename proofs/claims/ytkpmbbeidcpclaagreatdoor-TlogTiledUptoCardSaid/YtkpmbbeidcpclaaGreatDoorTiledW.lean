/-
  Every hash of a whole tree that a log has is found in the tile that is told of it, by the tile's bytes; a tile's path tells the tile.
-/
import Derived.Test.YtkpmbbeidcpclaaGreatDoorTldD
import Derived.Test.YtkpmbbeidcpclaaGreatDoorLogQ
import Derived.Test.YtkpmbbeidcpclaaGreatDoorHshA
import Derived.Test.YtkpmbbeidcpclaaGreatDoorFirst
import Derived.Test.YtkpmbbeidcpclaaGreatDoorSameB
namespace Go.Proofs.YtkpmbbeidcpclaaGreatDoor
open Go.RowKit

theorem mod_at (i : Int) {N : Nat} (hN : 1 ≤ N) : ∃ (r : Int) (s j : Nat), i.tmod (N : Int) = r ∧ r + (N : Int) = (s : Int) ∧ s < 2 * N ∧ (s : Int).tmod (N : Int) = (j : Int) ∧ j < N := by
  have h1 : i.tmod (N : Int) < N := Int.tmod_lt_of_pos i (by omega)
  have h2 : -(N : Int) < i.tmod (N : Int) := Int.lt_tmod_of_pos i (by omega)
  refine ⟨_, (i.tmod (N : Int) + N).toNat, (i.tmod (N : Int) + N).toNat % N, rfl, by omega, by omega, ?_, Nat.mod_lt _ (by omega)⟩
  rw [Int.tmod_eq_emod_of_nonneg (by omega)]
  omega
theorem mod_8 (i : Int) : ∃ (r : Int) (s j : Nat), i.tmod 8 = r ∧ r + 8 = (s : Int) ∧ (s : Int).tmod 8 = (j : Int) ∧ j < 8 ∧ s < 16 := by
  obtain ⟨r, s, j, a, b, c, d, e⟩ := mod_at i (N := 8) (by decide)
  exact ⟨r, s, j, a, b, d, e, c⟩
theorem mod_7 (i : Int) : ∃ (r : Int) (s j : Nat), i.tmod 7 = r ∧ r + 7 = (s : Int) ∧ (s : Int).tmod 7 = (j : Int) ∧ j < 7 ∧ s < 14 := by
  obtain ⟨r, s, j, a, b, c, d, e⟩ := mod_at i (N := 7) (by decide)
  exact ⟨r, s, j, a, b, d, e, c⟩
theorem mod_70 (i : Int) : ∃ (r : Int) (s j : Nat), i.tmod 70 = r ∧ r + 70 = (s : Int) ∧ (s : Int).tmod 70 = (j : Int) ∧ j < 70 ∧ s < 140 := by
  obtain ⟨r, s, j, a, b, c, d, e⟩ := mod_at i (N := 70) (by decide)
  exact ⟨r, s, j, a, b, d, e, c⟩

theorem tree_there {v k n : Nat} (hv : v ≤ 64) (h : treeB (v : Int) (k : Int) (n : Int) = true) : (k + 1) * 2 ^ v ≤ n := by
  unfold treeB at h
  simp only [Bool.and_eq_true, decide_eq_true_eq, Int.toNat_natCast] at h
  have h3 := h.2
  rw [Nat.min_eq_left hv, pow_int, ← Int.natCast_ediv] at h3
  have h4 : k + 1 ≤ n / 2 ^ v := by omega
  rw [Nat.le_div_iff_mul_le (Nat.two_pow_pos v)] at h4
  exact h4

set_option maxRecDepth 100000 in
set_option maxHeartbeats 4000000 in
theorem tiled_law {w : World} (hg : Gd w) {a : Option Addr} {N c : Nat} {hI lI kI : Int} {ps : List Bs} (hn : ps.length = N) (hN : N ≤ 1048576) (hps : ∀ p ∈ ps, p.length ≤ 1048576) (hp : PAt w a ps) :
    Calls Tryz.prog 5 #[.slice a N c, .int .i64 hI, .int .i64 lI, .int .i64 kI] w fun e w' => e = .returned (.bool true) ∧ Below w.heap.size w w' := by
  have HF := hide (first_any hg)
  have HG := hide hg
  have HN := hide hn
  have HPS := hide hps
  have HP := hide hp
  clear hg hn hps hp
  go_enter Tryz.func5, Tryz.ntmps5
  go_wp2_with (go_at_call 6; fail)
  refine (unhide HF).mono ?_
  rintro e w1 ⟨rfl, b1⟩
  have HB1 := hide b1
  have HP1 := hide ((unhide HP).low b1)
  have HG1 := hide ((unhide HG).low b1)
  clear b1 HF HP HG
  go_wp2_with (go_at_call 7; fail)
  refine (few_any (c := c) (unhide HN) hN (fun p hp => Nat.le_trans (unhide HPS p hp) (by omega)) (unhide HP1)).mono ?_
  rintro e w2 ⟨r, rfl, hr, rfl⟩
  cases r with
  | false =>
    clear hr
    go_wp2
    go_ret
    exact ⟨rfl, unhide HB1⟩
  | true =>
    have h70 : N ≤ 70 := hr rfl
    clear hr hN
    by_cases hN0 : N = 0
    · subst hN0
      go_wp2
      go_ret
      exact ⟨rfl, unhide HB1⟩
    · have hq0 : ((N : Int) == 0) = false := by simp; omega
      have HMD := hide (made_any (c := c) (unhide HN) (by omega) (fun p hp => Nat.le_trans (unhide HPS p hp) (by omega)) (unhide HP1))
      go_wp2_with (go_at_call 8; fail)
      refine (unhide HMD).mono ?_
      rintro e w3 ⟨F, v, rfl, hm⟩
      have hlen : (ps.map leafL).length = N := by rw [List.length_map]; exact unhide HN
      have h32 : All32 (ps.map leafL) := fun x hx => by
        obtain ⟨y, _, rfl⟩ := List.mem_map.1 hx
        exact leaf_len y
      obtain ⟨⟨hs, hlog, hinv⟩, _, hlow, _⟩ := hm
      obtain ⟨lv, hlv⟩ : ∃ lv, ps.map leafL = lv := ⟨_, rfl⟩
      rw [hlv] at hlen h32 hinv
      obtain ⟨r1, s1, h0, m1, m2, m3, hh, m4⟩ := mod_8 hI
      obtain ⟨r2, s2, lev, n1, n2, n3, hlev, n4⟩ := mod_7 lI
      obtain ⟨r3, s3, k, o1, o2, o3, hk, o4⟩ := mod_70 kI
      obtain ⟨h, hhe⟩ : ∃ h, h0 + 1 = h := ⟨_, rfl⟩
      have m5 : (h0 : Int) + 1 = (h : Int) := by omega
      have h1 : 1 ≤ h := by omega
      have h8 : h ≤ 8 := by omega
      have HB3 := hide (low_trans (unhide HB1) hlow)
      have HG3 := hide ((unhide HG1).low hlow)
      have HLOG := hide hlog
      have HINV := hide hinv
      have HLEN := hide hlen
      clear hlow hlog hinv hlen hlv HMD HP1 HG1
      cases htr : treeB (lev : Int) (k : Int) (N : Int) with
      | false =>
        have HTO := hide (tileOf_out (h := h) (n := N) h1 h8 (by omega) htr w3)
        have HLH := hide (fun wx (b : Below w3.heap.size w3 wx) => logHash_bad ((unhide HLOG).low b) htr)
        clear htr
        go_wp2_with (go_at_call 10; fail)
        refine (unhide HTO).mono ?_
        rintro e w4 ⟨rfl, b4⟩
        obtain ⟨W4, hW4⟩ : ∃ W4, w4.alloc (.cells #[.int .i64 0, .int .i64 0, .int .i64 0, .int .i64 0] 31) = W4 := ⟨_, rfl⟩
        have c4 : Below w4.heap.size w4 W4 := by rw [← hW4]; exact (Below.refl _ _).alloc (Nat.le_refl _) _
        have HLX := hide (unhide HLH _ (low_trans b4 c4))
        have HZ := hide (low_trans (unhide HB3) (low_trans b4 c4))
        have HW4 := hide hW4
        clear b4 c4 hW4 HTO HLH
        go_wp2_with (go_at_call 25; fail)
        rw [unhide HW4]
        refine (unhide HLX).mono ?_
        rintro e w5 ⟨rfl, hw5⟩
        rw [hw5]
        clear hw5 w5 HLX
        go_wp2_with (go_at_call 21; refine (errno_any _ _).mono ?_; rintro e wn ⟨rfl, hwn⟩; rw [hwn]; clear hwn wn)
        go_ret
        exact ⟨rfl, unhide HZ⟩
      | true =>
        have hkt : (k + 1) * 2 ^ lev ≤ N := tree_there (by omega) htr
        obtain ⟨row, d, s, ad, p, x, q, b, t, W, ab, rr, wi, st, sl, dl, t1, t2, t3, t4, t5, t6, t7, t8, t9, t10, t11, t12, t13, t14, t15, t16, t17, t18, t19, t20, t21, t22, t23, t24, t25, t26, t27, t28, t29, t30⟩ := tile_numbers h1 h8 h70 (show lev ≤ 6 by omega) hkt
        have HTO := hide (tileOf_any h1 h8 (by omega) (by omega) hkt t1 t2 t3 t4 t5 t6 t7 t8 t9 t10 w3)
        rw [t11] at HTO
        have HLH := hide (fun wx (bx : Below w3.heap.size w3 wx) => logHash_ok (v := lev) (j := k) ((unhide HLOG).low bx) (unhide HINV) (unhide HLEN) (by omega) (by omega) hkt)
        have HBY := hide (fun wx (bx : Below w3.heap.size w3 wx) => bytes_log ((unhide HLOG).low bx) (unhide HINV) (unhide HLEN) (by omega) h1 h8 t5 t12 t13 t2 t14 t4 t9 t15 rfl t16)
        have h32t : ∀ y, y < W → (treeH s (lv.drop ((b + y) * 2 ^ s))).length = 32 := fun y hy => by
          have ht2 := (unhide HINV).tree s (b + y) (by
            rw [unhide HLEN]
            refine Nat.le_trans (Nat.mul_le_mul_right _ (show b + y + 1 ≤ ad by omega)) ?_
            rw [← t4]
            exact Nat.div_mul_le_self _ _)
          exact (unhide HLOG).all _ (List.mem_of_getElem? ht2)
        have hbl : (tbL lv s b W).length = dl := by rw [tbL_len W h32t]; exact t27
        have HIT := hide (fun wx cap (B : Nat) (hcap : dl ≤ cap) (hcm : cap ≤ maxLen) (hB : BAt wx (some ⟨B, 0, none⟩) (tbL lv s b W)) => inTile_good (lev := lev) (k := k) h1 h8 t5 t12 t13 (by omega) t18 t1 t19 t21 t22 t23 t24 t25 t26 t27 hbl hcap hcm hB)
        have hsame : wholeL ab (((tbL lv s b W).drop st).take sl) = treeH lev (lv.drop (k * 2 ^ lev)) := by
          rw [t20] at t26 ⊢
          rw [t28, ← t26, tbL_cut (m := W) h32t (by omega), t29, whole_tb d x (fun y hy => by
            rw [← t29, Nat.add_assoc]
            exact h32t _ (by omega)), t3, ← t6]
          congr 1
          rw [Nat.mul_assoc, ← Nat.pow_add, Nat.add_comm d s, t3]
        rw [hsame] at HIT
        have hTl : (treeH lev (lv.drop (k * 2 ^ lev))).length = 32 := (unhide HLOG).all _ (List.mem_of_getElem? ((unhide HINV).tree lev k (by rw [unhide HLEN]; exact hkt)))
        have hpa : b + W ≤ 1048576 / 2 ^ s := Nat.le_trans t15 (by rw [← t4]; exact Nat.div_le_div_right (by omega))
        have hpc : q ≤ 1048576 / 2 ^ s / p := by
          refine Nat.le_trans t16 (Nat.div_le_div_right ?_)
          rw [← t4]
          exact Nat.div_le_div_right (by omega)
        have HPT := hide (fun wx (hgx : Gd wx) => path_good (w := wx) hgx h1 h8 t5 t12 t13 t2 t14 rfl t9 hpa rfl hpc)
        have HPR := hide (fun wx (hgx : Gd wx) => parse_any (w := wx) hgx h1 h8 t5 t12 t13 t2 t14 rfl t9 hpa rfl hpc t17)
        obtain ⟨T, hT⟩ : ∃ T, treeH lev (lv.drop (k * 2 ^ lev)) = T := ⟨_, rfl⟩
        obtain ⟨TB, hTB⟩ : ∃ TB, tbL lv s b W = TB := ⟨_, rfl⟩
        obtain ⟨PL, hPL⟩ : ∃ PL, ba (pathL h row q W p) = PL := ⟨_, rfl⟩
        rw [hT] at HLH HIT hTl
        rw [hTB] at HBY HIT hbl
        rw [hPL] at HPT HPR
        unfold tileV at HBY HIT HPT HPR
        have HTL := hide hTl
        have HBL := hide hbl
        have hdl : dl ≤ 8192 := by
          have : p ≤ 256 := by rw [← t5]; exact Nat.le_trans (Nat.pow_le_pow_right (by decide) h8) (by decide)
          omega
        have hdl1 : 32 ≤ dl := by omega
        have hW256 : W ≤ 256 := by omega
        have hq1000 : q < 1000 := t17
        have hrow6 : row ≤ 6 := by rw [← t1]; exact Nat.le_trans (Nat.div_le_self _ _) (by omega)
        clear htr hkt t1 t2 t3 t4 t5 t6 t7 t8 t9 t10 t11 t12 t13 t14 t15 t16 t17 t18 t19 t20 t21 t22 t23 t24 t25 t26 t27 t28 t29 t30 h32t hbl hsame hTl hpa hpc hT hTB hPL h32
        go_wp2_with (go_at_call 10; fail)
        refine (unhide HTO).mono ?_
        rintro e w4 ⟨rfl, b4⟩
        obtain ⟨W4, hW4⟩ : ∃ W4, w4.alloc (.cells #[.int .i64 (h : Int), .int .i64 (row : Int), .int .i64 (q : Int), .int .i64 (W : Int)] 31) = W4 := ⟨_, rfl⟩
        have c4 : Below w4.heap.size w4 W4 := by rw [← hW4]; exact (Below.refl _ _).alloc (Nat.le_refl _) _
        have k4 : Blk W4 w4.heap.size #[.int .i64 (h : Int), .int .i64 (row : Int), .int .i64 (q : Int), .int .i64 (W : Int)] 31 := by rw [← hW4]; exact Blk.new _ _ _
        obtain ⟨bt, hbt⟩ : ∃ bt, w4.heap.size = bt := ⟨_, rfl⟩
        rw [hbt] at k4
        have HBT := hide hbt
        have HK4 := hide k4
        have HC4 := hide (low_trans b4 c4)
        have HW4 := hide hW4
        clear b4 c4 k4 hbt hW4 HTO
        go_wp2_with (go_at_call 25; fail)
        rw [unhide HW4, unhide HBT]
        refine (unhide HLH _ (unhide HC4)).mono ?_
        rintro e w5 ⟨wa, wc, rfl, o5, b5⟩
        have k5 := (unhide HK4).low b5
        have HK5 := hide k5
        have HO5 := hide o5
        have HC5 := hide (low_trans (unhide HC4) b5)
        have d0 : w5.cell? ⟨bt, 0, none⟩ = some (.int .i64 (h : Int)) := k5.cell 0
        have d1 : w5.cell? ⟨bt, 1, none⟩ = some (.int .i64 (row : Int)) := k5.cell 1
        have d2 : w5.cell? ⟨bt, 2, none⟩ = some (.int .i64 (q : Int)) := k5.cell 2
        have d3 : w5.cell? ⟨bt, 3, none⟩ = some (.int .i64 (W : Int)) := k5.cell 3
        clear o5 b5 k5 HLH HK4 HC4
        go_wp2_with (first | (go_at_call 21; refine (errno_any _ _).mono ?_; rintro e wn ⟨rfl, hwn⟩; rw [hwn]; clear hwn wn) | (go_at_call 12; fail))
        refine (unhide HBY _ (unhide HC5)).mono ?_
        rintro e w6 ⟨v6, rfl, o6, b6⟩
        obtain ⟨a6, c6, hv6, hb6, hc6, hm6⟩ := OwnB.at o6
        rw [unhide HBL] at hv6 hc6
        obtain ⟨B6, rfl⟩ : ∃ B6, a6 = some ⟨B6, 0, none⟩ := by
          rcases o6.2 with ⟨_, e0⟩ | ⟨g, cap, cur, e0, _⟩
          · rw [unhide HBL] at e0; omega
          · rw [hv6] at e0
            exact ⟨g, (Value.slice.inj e0).1⟩
        subst hv6
        have HX6 := hide (unhide HIT w6 c6 B6 hc6 hm6 hb6)
        have k6 := (unhide HK5).low b6
        have HK6 := hide k6
        have HC6 := hide (low_trans (unhide HC5) b6)
        have HO6 := hide (OwnB.low (unhide HO5) b6)
        clear d0 d1 d2 d3
        have d0 : w6.cell? ⟨bt, 0, none⟩ = some (.int .i64 (h : Int)) := k6.cell 0
        have d1 : w6.cell? ⟨bt, 1, none⟩ = some (.int .i64 (row : Int)) := k6.cell 1
        have d2 : w6.cell? ⟨bt, 2, none⟩ = some (.int .i64 (q : Int)) := k6.cell 2
        have d3 : w6.cell? ⟨bt, 3, none⟩ = some (.int .i64 (W : Int)) := k6.cell 3
        clear o6 b6 hb6 hc6 hm6 k6 HBY HIT HC5 HO5 HK5
        go_wp2_with (go_at_call 15; fail)
        refine (unhide HX6).mono ?_
        rintro e w7 ⟨g7, c7, rfl, o7, b7⟩
        have k7 := (unhide HK6).low b7
        have HK7 := hide k7
        have HC7 := hide (low_trans (unhide HC6) b7)
        have HO7 := hide (OwnB.low (unhide HO6) b7)
        have HQ7 := hide o7
        clear d0 d1 d2 d3
        have d0 : w7.cell? ⟨bt, 0, none⟩ = some (.int .i64 (h : Int)) := k7.cell 0
        have d1 : w7.cell? ⟨bt, 1, none⟩ = some (.int .i64 (row : Int)) := k7.cell 1
        have d2 : w7.cell? ⟨bt, 2, none⟩ = some (.int .i64 (q : Int)) := k7.cell 2
        have d3 : w7.cell? ⟨bt, 3, none⟩ = some (.int .i64 (W : Int)) := k7.cell 3
        clear o7 b7 k7 HX6 HC6 HO6 HK6
        go_wp2_with (go_at_call 17; fail)
        refine (unhide HPT _ ((unhide HG3).low (unhide HC7))).mono ?_
        rintro e w8 ⟨rfl, gk, gos, hw8⟩
        have b8 : Below w7.heap.size w7 w8 := Gr.low ⟨gk, gos, hw8⟩
        have HK8 := hide ((unhide HK7).low b8)
        have HC8 := hide (low_trans (unhide HC7) b8)
        have HO8 := hide (OwnB.low (unhide HO7) b8)
        have HQ8 := hide (OwnB.low (unhide HQ7) b8)
        clear d0 d1 d2 d3 hw8 b8 HPT HK7 HC7 HO7 HQ7
        go_wp2_with (go_at_call 19; fail)
        refine (unhide HPR _ ((unhide HG3).low (unhide HC8))).mono ?_
        rintro e w9 ⟨rfl, b9⟩
        obtain ⟨W9, hW9⟩ : ∃ W9, w9.alloc (.cells #[.int .i64 (h : Int), .int .i64 (row : Int), .int .i64 (q : Int), .int .i64 (W : Int)] 31) = W9 := ⟨_, rfl⟩
        have c9 : Below w9.heap.size w9 W9 := by rw [← hW9]; exact (Below.refl _ _).alloc (Nat.le_refl _) _
        have k9 : Blk W9 w9.heap.size #[.int .i64 (h : Int), .int .i64 (row : Int), .int .i64 (q : Int), .int .i64 (W : Int)] 31 := by rw [← hW9]; exact Blk.new _ _ _
        obtain ⟨bu, hbu⟩ : ∃ bu, w9.heap.size = bu := ⟨_, rfl⟩
        rw [hbu] at k9
        have d9 := low_trans b9 c9
        have HK9 := hide ((unhide HK8).low d9)
        have HU9 := hide k9
        have HC9 := hide (low_trans (unhide HC8) d9)
        obtain ⟨x1, y1, hv1, hp1⟩ := OwnB.adr (OwnB.low (unhide HO8) d9) (unhide HTL)
        obtain ⟨x2, y2, hv2, hp2⟩ := OwnB.adr (OwnB.low (unhide HQ8) d9) (unhide HTL)
        obtain ⟨rfl, _, rfl⟩ := Value.slice.inj hv1
        obtain ⟨e1, _, e2⟩ := Value.slice.inj hv2
        rw [← e1] at hp2
        have HSB := hide (sameBytes_any (c := c7) (c2 := wc) (unhide HTL) (unhide HTL) (by omega) (by omega) hp2 hp1)
        have HW9 := hide hW9
        have HBU := hide hbu
        clear b9 c9 k9 hbu hW9 d9 hv1 hv2 hp1 hp2 e1 e2 HPR HK8 HC8 HO8 HQ8
        go_wp2_with (go_at_call 22; fail)
        rw [unhide HW9, unhide HBU]
        refine (unhide HSB).mono ?_
        rintro e w10 ⟨rfl, q10, hw10⟩
        rw [show decide True = true from rfl]
        have b10 : Below W9.heap.size W9 w10 := by rw [hw10]; exact lowN (Below.refl _ _) _
        have kt := (unhide HK9).low b10
        have ku := (unhide HU9).low b10
        have HZ := hide (low_trans (unhide HB3) (low_trans (unhide HC9) b10))
        have d0 : w10.cell? ⟨bt, 0, none⟩ = some (.int .i64 (h : Int)) := kt.cell 0
        have d1 : w10.cell? ⟨bt, 1, none⟩ = some (.int .i64 (row : Int)) := kt.cell 1
        have d2 : w10.cell? ⟨bt, 2, none⟩ = some (.int .i64 (q : Int)) := kt.cell 2
        have d3 : w10.cell? ⟨bt, 3, none⟩ = some (.int .i64 (W : Int)) := kt.cell 3
        have u0 : w10.cell? ⟨bu, 0, none⟩ = some (.int .i64 (h : Int)) := ku.cell 0
        have uu1 : w10.cell? ⟨bu, 1, none⟩ = some (.int .i64 (row : Int)) := ku.cell 1
        have uu2 : w10.cell? ⟨bu, 2, none⟩ = some (.int .i64 (q : Int)) := ku.cell 2
        have uu3 : w10.cell? ⟨bu, 3, none⟩ = some (.int .i64 (W : Int)) := ku.cell 3
        clear hw10 b10 kt ku HSB HK9 HU9 HC9
        go_wp2_with (go_at_call 21; refine (errno_any _ _).mono ?_; rintro e wn ⟨rfl, hwn⟩; rw [hwn]; clear hwn wn)
        go_ret
        exact ⟨rfl, unhide HZ⟩
end Go.Proofs.YtkpmbbeidcpclaaGreatDoor
