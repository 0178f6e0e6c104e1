/-
  A log that grows keeps its hashes, its roots, and its proofs of what it was.
-/
import Derived.Test.YtkpmbbeidcpclaaDoorGrQ
import Derived.Test.YtkpmbbeidcpclaaDoorCkQ
import Derived.Test.YtkpmbbeidcpclaaDoorProvesW
namespace Go.Proofs.YtkpmbbeidcpclaaDoor
open Go.RowKit

theorem hashB_all {ps : List Bs} (h : All32 ps) : hashB ps = true := by
  unfold hashB
  rw [List.all_eq_true]
  intro x hx
  simp [h x hx]

/-- The log's own proof of growth is taken. -/
theorem grow_ok {ls : List Bs} {m n : Nat} (hn : ls.length = n) (h1 : 1 ≤ m) (hm : m ≤ n) (hb : n ≤ 1000) (h32 : All32 ls) : treeE (subP 1000 m ls true) (m : Int) (n : Int) (mth 1000 (ls.take m)) (mth 1000 ls) = 0 := by
  have ht : All32 (ls.take m) := fun x hx => h32 x (List.mem_of_mem_take hx)
  have hg : goesB (subP 1000 m ls true) m n (mth 1000 (ls.take m)) (mth 1000 ls) = true := by
    unfold goesB
    rw [if_neg (by omega)]
    by_cases hmn : m = n
    · rw [if_pos hmn]
      have hs : subP 1000 m ls true = [] := by
        show (if m = ls.length then _ else _) = _
        rw [if_pos (by omega)]; rfl
      rw [hs, List.take_of_length_le (by omega)]
      simp
    · rw [if_neg hmn, hashB_all (subP_32 _ _ _ _ h32), hashB_all (ps := [mth 1000 (ls.take m), mth 1000 ls]) (fun x hx => by
        simp at hx
        rcases hx with rfl | rfl
        · exact mth_len _ _ ht
        · exact mth_len _ _ h32)]
      have := roots_sub 1000 m ls true (mth 1000 (ls.take m)) h1 (by omega) (by omega) (by omega) (fun _ => rfl)
      rw [hn] at this
      rw [this]
      simp
  unfold treeE
  rw [partB_at hm (by omega), if_neg (by decide), Int.toNat_natCast, Int.toNat_natCast, if_pos hg]

theorem mod_in (i : Int) {N : Nat} (hN : 1 ≤ N) : ∃ (r : Int) (s j : Nat), i.tmod (N : Int) = r ∧ r + (N : Int) = (s : Int) ∧ s < 2 * N ∧ (s : Int).tmod (N : Int) = (j : Int) ∧ j < N := by
  have h1 : i.tmod (N : Int) < N := Int.tmod_lt_of_pos i (by omega)
  have h2 : -(N : Int) < i.tmod (N : Int) := Int.lt_tmod_of_pos i (by omega)
  refine ⟨_, (i.tmod (N : Int) + N).toNat, (i.tmod (N : Int) + N).toNat % N, rfl, by omega, by omega, ?_, Nat.mod_lt _ (by omega)⟩
  rw [Int.tmod_eq_emod_of_nonneg (by omega)]
  omega

set_option maxRecDepth 100000 in
set_option maxHeartbeats 4000000 in
theorem grows_law {w : World} (hg : Gd w) (htz : TzAt w) {a b : Option Addr} {N K c d : Nat} {i : Int} {ps qs : List Bs} (hn : ps.length = N) (hN : N ≤ 1048576) (hps : ∀ p ∈ ps, p.length ≤ 1048576) (hp : PAt w a ps) (hk : qs.length = K) (hK : K ≤ 1048576) (hqs : ∀ p ∈ qs, p.length ≤ 1048576) (hq : PAt w b qs) :
    Calls Tryd.prog 7 #[.slice a N c, .slice b K d, .int .i64 i] w fun e w' => e = .returned (.bool true) ∧ Below w.heap.size w w' := by
  have HF := hide (first_any hg)
  have HA := hide (And.intro hn (And.intro hps hp))
  have HB := hide (And.intro hk (And.intro hqs hq))
  have HTZ := hide htz
  clear hg hn hps hp hk hqs hq htz
  go_enter Tryd.func7, Tryd.ntmps7
  go_wp2_with (go_at_call 10; fail)
  refine (unhide HF).mono ?_
  rintro e w1 ⟨rfl, b1⟩
  have HB1 := hide b1
  have HP1 := hide ((unhide HA).2.2.low b1)
  have HQ1 := hide ((unhide HB).2.2.low b1)
  have HTZ1 := hide ((unhide HTZ).low b1)
  clear b1 HF HTZ
  go_wp2_with (go_at_call 11; fail)
  refine (few_any (c := c) (unhide HA).1 hN (fun p hp => Nat.le_trans ((unhide HA).2.1 p hp) (by omega)) (unhide HP1)).mono ?_
  rintro e w2 ⟨r, rfl, hr, rfl⟩
  cases r with
  | false =>
    clear hr
    go_wp2
    go_ret
    exact ⟨rfl, unhide HB1⟩
  | true =>
  have hN70 : N ≤ 70 := hr rfl
  clear hr
  go_wp2_with (go_at_call 11; fail)
  refine (few_any (c := d) (unhide HB).1 hK (fun p hp => Nat.le_trans ((unhide HB).2.1 p hp) (by omega)) (unhide HQ1)).mono ?_
  rintro e w3 ⟨r, rfl, hr, rfl⟩
  cases r with
  | false =>
    clear hr
    go_wp2
    go_ret
    exact ⟨rfl, unhide HB1⟩
  | true =>
  have hK70 : K ≤ 70 := hr rfl
  clear hr hN hK
  obtain ⟨NK, hNK⟩ : ∃ NK, N + K = NK := ⟨_, rfl⟩
  have eNK : (N : Int) + (K : Int) = (NK : Int) := by omega
  by_cases h70 : NK ≤ 70
  · by_cases hN0 : N = 0
    · subst hN0
      clear hNK
      go_wp2
      go_ret
      exact ⟨rfl, unhide HB1⟩
    · have hq0 : ((N : Int) == 0) = false := by simp; omega
      have h1 : 1 ≤ N := by omega
      have HMD := hide (made_any (c := c) (unhide HA).1 (by omega) (fun p hp => Nat.le_trans ((unhide HA).2.1 p hp) (by omega)) (unhide HP1))
      go_wp2_with (go_at_call 12; fail)
      refine (unhide HMD).mono ?_
      rintro e w4 ⟨F, v, rfl, hm⟩
      have hlenA : (ps.map leafL).length = N := by rw [List.length_map]; exact (unhide HA).1
      have hlgA := hm.lg hlenA (by omega) ((unhide HTZ1).low hm.low)
      have hlow4 := hm.low
      clear hm
      obtain ⟨W5, v5, w5, a6, c6, w6, hW5, happ1, happ2, b6, hpj⟩ := join_lists (c := c) (d := d) (unhide HA).1 (unhide HB).1 (by omega) ((unhide HP1).low hlow4) ((unhide HQ1).low hlow4) h1
      rw [hNK] at happ2
      have hlenJ : (ps ++ qs).length = NK := by rw [List.length_append, (unhide HA).1, (unhide HB).1]; exact hNK
      have HMJ := hide (made_any (c := c6) hlenJ (by omega) (fun p hp => by
        rcases List.mem_append.1 hp with h | h
        · exact Nat.le_trans ((unhide HA).2.1 p h) (by omega)
        · exact Nat.le_trans ((unhide HB).2.1 p h) (by omega)) hpj)
      have HW5 := hide hW5
      have HLGA := hide (hlgA.low b6)
      have HTZ6 := hide (((unhide HTZ1).low hlow4).low b6)
      have HB6 := hide (low_trans (low_trans (unhide HB1) hlow4) b6)
      have HNK := hide hNK
      have HLJ := hide hlenJ
      have HLA := hide hlenA
      clear hlenA hlgA hlow4 hW5 b6 hpj hlenJ hNK HMD HP1 HQ1 HTZ1
      go_wp2_with (first | (at_builtin; first | (rw [unhide HW5]; refine Lib.wpList_append_run _ rfl (.tmp 60) (.tmp 61) _ _ rfl _ _ rfl rfl _ _ happ1 ?_) | refine Lib.wpList_append_run _ rfl (.tmp 62) (.tmp 63) _ _ rfl _ _ rfl rfl _ _ happ2 ?_) | (go_at_call 12; fail))
      refine (unhide HMJ).mono ?_
      rintro e w7 ⟨F2, v7, rfl, hm7⟩
      have hlenB : ((ps ++ qs).map leafL).length = NK := by rw [List.length_map]; exact unhide HLJ
      have hlgB := hm7.lg hlenB (by omega) ((unhide HTZ6).low hm7.low)
      have htk : ((ps ++ qs).map leafL).take N = ps.map leafL := by
        rw [List.map_append, List.take_left' (unhide HLA)]
      have hfull : ((ps ++ qs).map leafL).take NK = (ps ++ qs).map leafL := List.take_of_length_le (by omega)
      have hA32 : All32 (ps.map leafL) := fun x hx => by
        obtain ⟨y, _, rfl⟩ := List.mem_map.1 hx
        exact leaf_len y
      have hB32 : All32 ((ps ++ qs).map leafL) := fun x hx => by
        obtain ⟨y, _, rfl⟩ := List.mem_map.1 hx
        exact leaf_len y
      have hAfull : (ps.map leafL).take N = ps.map leafL := List.take_of_length_le (by rw [unhide HLA]; exact Nat.le_refl _)
      have hNK1 : N ≤ NK := by have := unhide HNK; omega
      have hgo := grow_ok (m := N) hlenB h1 hNK1 (by omega) hB32
      rw [htk] at hgo
      obtain ⟨lb, hlb⟩ : ∃ lb, (ps ++ qs).map leafL = lb := ⟨_, rfl⟩
      obtain ⟨la, hla⟩ : ∃ la, ps.map leafL = la := ⟨_, rfl⟩
      have hlgA := (unhide HLGA).low hm7.low
      have HB7 := hide (low_trans (unhide HB6) hm7.low)
      rw [hlb] at hlgB htk hfull hB32 hgo
      rw [hla] at htk hA32 hAfull hgo hlgA
      clear hm7 hlenB hlb hla HMJ HLGA HTZ6 HB6 happ1 happ2
      obtain ⟨r, s, j, m1, m2, m3, m4, m5⟩ := mod_in i h1
      have hNz : (N : Int) ≠ 0 := by omega
      have HRA := hide (logRoot_in hlgA (Nat.le_refl N))
      have HRB := hide (fun wx (hb : Below w7.heap.size w7 wx) => logRoot_in (hlgB.low hb) hNK1)
      have HPA := hide (fun wx (hb : Below w7.heap.size w7 wx) => logProve_in (hlgA.low hb) (Nat.le_refl N) m5)
      have HPB := hide (fun wx (hb : Below w7.heap.size w7 wx) => logProve_in (hlgB.low hb) hNK1 m5)
      have HTB := hide (fun wx (hb : Below w7.heap.size w7 wx) => logTree_in (i := N) (hlgB.low hb) (Nat.le_refl NK) hNK1)
      have HRR := hide (fun wx (hb : Below w7.heap.size w7 wx) => logRoot_in (hlgB.low hb) (Nat.le_refl NK))
      rw [hAfull] at HRA HPA
      rw [htk] at HRB HPB
      rw [hfull] at HRR HTB
      simp only [if_neg hN0] at HTB
      obtain ⟨X, hX⟩ : ∃ X, mth 1000 la = X := ⟨_, rfl⟩
      obtain ⟨Y, hY⟩ : ∃ Y, mth 1000 lb = Y := ⟨_, rfl⟩
      obtain ⟨PP, hPP⟩ : ∃ PP, pathP 1000 j la = PP := ⟨_, rfl⟩
      obtain ⟨TT, hTT⟩ : ∃ TT, subP 1000 N lb true = TT := ⟨_, rfl⟩
      have hP32 : All32 PP := by rw [← hPP]; exact pathP_32 _ _ _ hA32
      have hT32 : All32 TT := by rw [← hTT]; exact subP_32 _ _ _ _ hB32
      have hPl : PP.length ≤ 1000 := by rw [← hPP]; exact pathP_len _ _ _
      have hTl : TT.length ≤ 1000 := by rw [← hTT]; exact subP_len _ _ _ _
      rw [hX] at HRA HRB hgo
      rw [hPP] at HPA HPB
      rw [hTT] at HTB hgo
      rw [hY] at HRR hgo
      have HGO := hide hgo
      have HP32 := hide hP32
      have HT32 := hide hT32
      have HPl := hide hPl
      have HTl := hide hTl
      have hsN : (s : Int) < 140 := by omega
      have r1 : r < 70 := by omega
      have r2 : -70 ≤ r := by omega
      clear hlgA hlgB htk hfull hA32 hB32 hAfull hgo hX hY hPP hTT hP32 hT32 hPl hTl
      go_wp2_with (go_at_call 14; fail)
      refine (unhide HRA).mono ?_
      rintro e w8 ⟨xa, xc, rfl, hx32, o8, b8⟩
      have HO8 := hide (And.intro hx32 o8)
      have HB8 := hide b8
      clear hx32 o8 b8 HRA
      go_wp2_with (go_at_call 14; fail)
      refine (unhide HRB _ (unhide HB8)).mono ?_
      rintro e w9 ⟨ya, yc, rfl, hy32, o9, b9⟩
      have HO9 := hide o9
      have HB9 := hide b9
      have HC9 := hide (low_trans (unhide HB8) b9)
      clear hy32 o9 b9 HRB
      go_wp2_with (go_at_call 15; fail)
      refine (unhide HPA _ (unhide HC9)).mono ?_
      rintro e w10 ⟨vp, rfl, l10, b10⟩
      obtain ⟨pa, pc, rfl, _, _⟩ := l10.pat
      have HL10 := hide l10
      have HB10 := hide b10
      have HC10 := hide (low_trans (unhide HC9) b10)
      clear l10 b10 HPA
      go_wp2_with (go_at_call 15; fail)
      refine (unhide HPB _ (unhide HC10)).mono ?_
      rintro e w11 ⟨vq, rfl, l11, b11⟩
      obtain ⟨qa, qc, rfl, _, _⟩ := l11.pat
      have HL11 := hide l11
      have HC11 := hide (low_trans (unhide HC10) b11)
      have b9_11 := low_trans (unhide HB10) b11
      have b8_11 := low_trans (unhide HB9) b9_11
      obtain ⟨g8, d8, hv8, hb8⟩ := OwnB.adr (OwnB.low (unhide HO8).2 b8_11) (unhide HO8).1
      obtain ⟨g9, d9, hv9, hb9⟩ := OwnB.adr (OwnB.low (unhide HO9) b9_11) (unhide HO8).1
      obtain ⟨rfl, _, rfl⟩ := Value.slice.inj hv8
      obtain ⟨rfl, _, rfl⟩ := Value.slice.inj hv9
      have HSB := hide (sameBytes_any (c := xc) (c2 := yc) (unhide HO8).1 (unhide HO8).1 (by omega) (by omega) hb8 hb9)
      have HX11 := hide hb8
      have HB11 := hide b11
      clear l11 b11 b9_11 b8_11 hv8 hv9 hb8 hb9 HPB HO9
      go_wp2_with (go_at_call 20; fail)
      refine (unhide HSB).mono ?_
      rintro e w12 ⟨rfl, q12, hw12⟩
      rw [show decide True = true from rfl]
      have b12 : Below w11.heap.size w11 w12 := by rw [hw12]; exact lowN (Below.refl _ _) _
      have HSL := hide (sameLists_same (c := pc) (d := qc) rfl (by have := unhide HPl; omega) (all_short (unhide HP32)) ((unhide HL10).low (low_trans (unhide HB11) b12)).patAt ((unhide HL11).low b12).patAt)
      have HB12 := hide b12
      clear hw12 b12 HSB
      go_wp2_with (go_at_call 22; fail)
      refine (unhide HSL).mono ?_
      rintro e w13 ⟨rfl, q13, hw13⟩
      have b13 : Below w12.heap.size w12 w13 := by rw [hw13]; exact lowN (Below.refl _ _) _
      have b11_13 := low_trans (unhide HB12) b13
      have HX13 := hide ((unhide HX11).low b11_13)
      have HC13 := hide (low_trans (unhide HC11) b11_13)
      clear hw13 b13 b11_13 HSL HX11 HB11 HB12 HL10 HL11
      go_wp2_with (go_at_call 16; fail)
      refine (unhide HTB _ (unhide HC13)).mono ?_
      rintro e w14 ⟨vt, rfl, l14, b14⟩
      obtain ⟨ta, tc, rfl, htc, _⟩ := l14.pat
      have HL14 := hide l14
      have HB14 := hide b14
      have HC14 := hide (low_trans (unhide HC13) b14)
      clear l14 b14 HTB
      go_wp2_with (go_at_call 14; fail)
      refine (unhide HRR _ (unhide HC14)).mono ?_
      rintro e w15 ⟨za, zc, rfl, hz32, o15, b15⟩
      obtain ⟨g15, d15, hv15, hb15⟩ := OwnB.adr o15 hz32
      obtain ⟨rfl, _, rfl⟩ := Value.slice.inj hv15
      have HCK := hide (checkTree_any (m := (N : Int)) (n := (NK : Int)) (c := tc) (lc := xc) (rc := zc) rfl (by have := unhide HTl; omega) htc (fun p hp => by rw [unhide HT32 p hp]; decide) (unhide HO8).1 (by omega) hz32 (by omega) ((unhide HL14).low b15).patAt (((unhide HX13).low (unhide HB14)).low b15) hb15)
      rw [unhide HGO] at HCK
      have HC15 := hide (low_trans (unhide HC14) b15)
      obtain ⟨tl, htl⟩ : ∃ tl, TT.length = tl := ⟨_, rfl⟩
      rw [htl] at HCK ⊢
      clear hz32 o15 b15 hv15 hb15 HRR HL14 HX13 htl htc
      go_wp2_with (first | (go_at_call 17; refine (errno_any _ _).mono ?_; rintro e wn ⟨rfl, rfl⟩) | (go_at_call 35; fail))
      refine (unhide HCK).mono ?_
      rintro e w16 ⟨rfl, b16⟩
      have HZ : Hid (Below w.heap.size w w16) := hide (low_trans (low_trans (unhide HB7) (unhide HC15)) b16)
      clear b16 HCK
      go_wp2_with (go_at_call 17; (refine (errno_any _ _).mono ?_; rintro e wn ⟨rfl, rfl⟩))
      go_ret
      exact ⟨by simp, unhide HZ⟩
  · have hbig : ¬ ((NK : Int) ≤ 70) := by omega
    clear hNK
    go_wp2
    go_ret
    exact ⟨rfl, unhide HB1⟩

end Go.Proofs.YtkpmbbeidcpclaaDoor
