/-
  Proofs by a function that reads are the log's own; its error goes up.
-/
import Derived.Test.YtkpmbbeidcpclaaDoorRdsQ
namespace Go.Proofs.YtkpmbbeidcpclaaDoor
open Go.RowKit

theorem mod_5 (i : Int) : ∃ (r : Int) (s j : Nat), i.tmod 5 = r ∧ r + 5 = (s : Int) ∧ (s : Int).tmod 5 = (j : Int) ∧ j < 5 ∧ s < 10 := by
  have h1 : i.tmod 5 < 5 := Int.tmod_lt_of_pos i (by omega)
  have h2 : -5 < i.tmod 5 := Int.lt_tmod_of_pos i (by omega)
  refine ⟨_, (i.tmod 5 + 5).toNat, (i.tmod 5 + 5).toNat % 5, rfl, by omega, ?_, Nat.mod_lt _ (by omega), by omega⟩
  rw [Int.tmod_eq_emod_of_nonneg (by omega)]
  omega

theorem same_hash {w : World} {b1 b2 : Nat} {x y : Option Addr} {c d : Nat} {b : Bs} (h : b.length = 32) (o1 : OwnB b1 w (.slice x 32 c) b) (o2 : OwnB b2 w (.slice y 32 d) b) :
    Calls Tryd.prog 20 #[.slice x 32 c, .slice y 32 d] w fun e w' => e = .returned (.bool true) ∧ ∃ q, w' = w.drewN q := by
  obtain ⟨g1, d1, e1, p1⟩ := OwnB.adr o1 h
  obtain ⟨g2, d2, e2, p2⟩ := OwnB.adr o2 h
  obtain ⟨rfl, _, rfl⟩ := Value.slice.inj e1
  obtain ⟨rfl, _, rfl⟩ := Value.slice.inj e2
  refine (sameBytes_any (c := c) (c2 := d) h h (by omega) (by omega) p1 p2).mono ?_
  rintro e w' ⟨rfl, hq⟩
  exact ⟨by rw [decide_eq_true rfl], hq⟩
theorem same_proof {w : World} {b1 b2 np : Nat} {x y : Option Addr} {c d : Nat} {ps : List Bs} (hn : ps.length = np) (hp : np ≤ 1000) (h : All32 ps) (o1 : LvAt b1 w (.slice x np c) ps) (o2 : LvAt b2 w (.slice y np d) ps) :
    Calls Tryd.prog 22 #[.slice x np c, .slice y np d] w fun e w' => e = .returned (.bool true) ∧ ∃ q, w' = w.drewN q :=
  sameLists_same (c := c) (d := d) hn (by omega) (all_short h) o1.patAt o2.patAt

set_option maxRecDepth 100000 in
set_option maxHeartbeats 8000000 in
theorem reads_law {w : World} (hg : Gd w) (htz : TzAt w) {a : Option Addr} {N c : Nat} {i m fails : Int} {ps : List Bs} (hn : ps.length = N) (hN : N ≤ 1048576) (hps : ∀ p ∈ ps, p.length ≤ 1048576) (hp : PAt w a ps) :
    Calls Tryd.prog 6 #[.slice a N c, .int .i64 i, .int .i64 m, .int .i64 fails] w fun e w' => e = .returned (.bool true) ∧ Below w.heap.size w w' := by
  have HF := hide (first_any hg)
  have HN := hide hn
  have HPS := hide hps
  have HP := hide hp
  have HTZ := hide htz
  clear hg hn hps hp htz
  go_enter Tryd.func6, Tryd.ntmps6
  go_wp2_with (go_at_call 10; fail)
  refine (unhide HF).mono ?_
  rintro e w1 ⟨rfl, b1⟩
  have HB1 := hide b1
  have HP1 := hide ((unhide HP).low b1)
  have HTZ1 := hide ((unhide HTZ).low b1)
  clear b1 HF HP HTZ
  go_wp2_with (go_at_call 11; fail)
  refine (few_any (c := c) (unhide HN) hN (fun p hp => Nat.le_trans (unhide HPS p hp) (by omega)) (unhide HP1)).mono ?_
  rintro e w2 ⟨r, rfl, hr, rfl⟩
  cases r with
  | false =>
    clear hr
    go_wp2
    go_ret
    exact ⟨rfl, unhide HB1⟩
  | true =>
    have h70 : N ≤ 70 := hr rfl
    have HMD := hide (made_any (c := c) (unhide HN) (by omega) (fun p hp => Nat.le_trans (unhide HPS p hp) (by omega)) (unhide HP1))
    clear hr hN
    go_wp2_with (go_at_call 12; fail)
    refine (unhide HMD).mono ?_
    rintro e w3 ⟨F, v, rfl, hm⟩
    have hlen : (ps.map leafL).length = N := by rw [List.length_map]; exact unhide HN
    have hlg := hm.lg hlen (by omega) ((unhide HTZ1).low hm.low)
    have HB3 := hide (low_trans (unhide HB1) hm.low)
    have h32 : All32 (ps.map leafL) := fun x hx => by
      obtain ⟨y, _, rfl⟩ := List.mem_map.1 hx
      exact leaf_len y
    obtain ⟨lv, hlv⟩ : ∃ lv, ps.map leafL = lv := ⟨_, rfl⟩
    rw [hlv] at hlg h32 hlen
    have hfull : lv.take N = lv := List.take_of_length_le (by omega)
    obtain ⟨PP, PE, np, hPE, hPn, hnp, hP32, HPL, HPR⟩ := prove_alike i (by omega) hlen h32
    obtain ⟨TT, TE, nt, hTE, hTn, hnt, hT32, HTL, HTR⟩ := tree_alike m (by omega) hlen h32
    have hRL : ∀ wx, Lg wx F N lv → Calls Tryd.prog 14 #[.pointer (some ⟨F, 0, none⟩), .int .i64 (N : Int)] wx (HashOk wx (mth 1000 lv)) := fun wx h => by
      have := logRoot_in h (Nat.le_refl N)
      rw [hfull] at this
      exact this
    have hRR : ∀ wx x, RdG x wx → x.lv = lv → x.n = N → Calls Tryd.prog 37 #[.int .i64 (N : Int), rfV x] wx (RootF x wx (mth 1000 lv)) := fun wx x h e1 e2 => by
      have := rootF_in (m := N) h (by omega) (by omega)
      rw [e1, hfull] at this
      exact this
    obtain ⟨X, hX⟩ : ∃ X, mth 1000 lv = X := ⟨_, rfl⟩
    rw [hX] at hRL hRR
    have HLG := hide hlg
    have HRL := hide hRL
    have HRR := hide hRR
    have HPL' := hide HPL
    have HPR' := hide HPR
    have HTL' := hide HTL
    have HTR' := hide HTR
    have HPI := hide (And.intro hPn (And.intro hnp hP32))
    have HTI := hide (And.intro hTn (And.intro hnt hT32))
    have HPE := hide hPE
    have HTE := hide hTE
    obtain ⟨r, s, j, m1, m2, m3, m4, m5⟩ := mod_5 fails
    have m6 : (j : Int) + 1 = ((j + 1 : Nat) : Int) := by push_cast; rfl
    have m7 : j + 1 ≤ 5 := by omega
    obtain ⟨fl, hfl⟩ : ∃ fl, j + 1 = fl := ⟨_, rfl⟩
    rw [hfl] at m6 m7
    have hfl0 : (fl : Int) ≠ 0 := by omega
    have HFL := hide hfl0
    have HRD := hide (fun (wx : World) (f e : Int) (h : Lg wx F N lv) (hfe : f ≠ 0 → e ≠ 0) => reads_any (fl := f) (er := e) h hfe)
    clear hm hlg h32 hlen hlv hfull hPE hPn hnp hP32 HPL HPR hTE hTn hnt hT32 HTL HTR hRL hRR hX hfl hfl0
    go_wp2_with (go_at_call 38; fail)
    refine (unhide HRD _ 0 0 (unhide HLG) (fun h => absurd rfl h)).mono ?_
    rintro e w4 ⟨x4, e1, e2, e3, e4, hk1, hk2, rfl, hr, b4⟩
    have HC := hide (unhide HRR _ _ hr e1 e2)
    have HK := hide (And.intro b4 (And.intro hk1 (And.intro e3 e4)))
    obtain ⟨FV, hFV⟩ : ∃ FV, rfV x4 = FV := ⟨_, rfl⟩
    rw [hFV] at HC ⊢
    clear e1 e2 e3 e4 hk1 hk2 hr b4 hFV
    go_wp2_with (go_at_call 37; fail)
    refine (unhide HC).mono ?_
    rintro e w5 h
    have h := ownR_of h (unhide HK).1 (unhide HK).2.1 (unhide HK).2.2.1 (unhide HK).2.2.2
    obtain ⟨b5, h⟩ := h
    have HB5 := hide b5
    have HLG5 := hide ((unhide HLG).low b5)
    clear HC HK b5
    obtain ⟨xa, xc, rfl, hx32, o5⟩ : ∃ a q, e = .returned (.tuple #[.slice a 32 q, .int .i64 0]) ∧ X.length = 32 ∧ OwnB w3.heap.size w5 (.slice a 32 q) X := by
      rcases h with h | ⟨h, _⟩
      · exact h
      · exact absurd rfl h
    have HX32 := hide hx32
    have HO1 := hide o5
    clear h hx32 o5
    go_wp2_with (go_at_call 14; fail)
    refine (unhide HRL _ (unhide HLG5)).mono ?_
    rintro e w6 ⟨ya, yc, rfl, _, o6, b6⟩
    have HO1 := hide (OwnB.low (unhide HO1) b6)
    have HO2 := hide o6
    have HB6 := hide (low_trans (unhide HB5) b6)
    have HLG6 := hide ((unhide HLG5).low b6)
    clear o6 b6 HLG HLG5 HB5
    go_wp2_with (go_at_call 38; fail)
    refine (unhide HRD _ 0 0 (unhide HLG6) (fun h => absurd rfl h)).mono ?_
    rintro e w7 ⟨x7, e1, e2, e3, e4, hk1, hk2, rfl, hr, b7⟩
    have HC := hide (unhide HPR' _ _ hr e1 e2)
    have HK := hide (And.intro b7 (And.intro hk1 (And.intro e3 e4)))
    obtain ⟨FV, hFV⟩ : ∃ FV, rfV x7 = FV := ⟨_, rfl⟩
    rw [hFV] at HC ⊢
    clear e1 e2 e3 e4 hk1 hk2 hr b7 hFV
    go_wp2_with (go_at_call 39; fail)
    refine (unhide HC).mono ?_
    rintro e w8 h
    have h := ownP_of h (unhide HK).1 (unhide HK).2.1 (unhide HK).2.2.1 (unhide HK).2.2.2
    obtain ⟨b8, h⟩ := h
    have HB8 := hide b8
    have HLG8 := hide ((unhide HLG6).low b8)
    clear HC HK b8
    obtain ⟨pa, pc, rfl, l8⟩ : ∃ a q, e = .returned (.tuple #[.slice a np q, .int .i64 PE]) ∧ LvAt w6.heap.size w8 (.slice a np q) PP := by
      rcases h with h | ⟨h, _⟩
      · exact h
      · exact absurd rfl h
    have HL1 := hide l8
    have HO1 := hide (OwnB.low (unhide HO1) (unhide HB8))
    have HO2 := hide (OwnB.low (unhide HO2) (unhide HB8))
    have HB8 := hide (low_trans (unhide HB6) (unhide HB8))
    clear h l8 HB6
    go_wp2_with (go_at_call 15; fail)
    refine (unhide HPL' _ _ (unhide HLG8)).mono ?_
    rintro e w9 ⟨qa, qc, rfl, l9, b9⟩
    have HO1 := hide (OwnB.low (unhide HO1) b9)
    have HO2 := hide (OwnB.low (unhide HO2) b9)
    have HL1 := hide (LvAt.low (unhide HL1) b9)
    have HL2 := hide l9
    have HB9 := hide (low_trans (unhide HB8) b9)
    have HLG9 := hide ((unhide HLG8).low b9)
    clear l9 b9 HLG6 HLG8 HB8
    go_wp2_with (go_at_call 38; fail)
    refine (unhide HRD _ 0 0 (unhide HLG9) (fun h => absurd rfl h)).mono ?_
    rintro e w10 ⟨x10, e1, e2, e3, e4, hk1, hk2, rfl, hr, b10⟩
    have HC := hide (unhide HTR' _ _ hr e1 e2)
    have HK := hide (And.intro b10 (And.intro hk1 (And.intro e3 e4)))
    obtain ⟨FV, hFV⟩ : ∃ FV, rfV x10 = FV := ⟨_, rfl⟩
    rw [hFV] at HC ⊢
    clear e1 e2 e3 e4 hk1 hk2 hr b10 hFV
    go_wp2_with (go_at_call 40; fail)
    refine (unhide HC).mono ?_
    rintro e w11 h
    have h := ownP_of h (unhide HK).1 (unhide HK).2.1 (unhide HK).2.2.1 (unhide HK).2.2.2
    obtain ⟨b11, h⟩ := h
    have HB11 := hide b11
    have HLG11 := hide ((unhide HLG9).low b11)
    clear HC HK b11
    obtain ⟨ta, tc, rfl, l11⟩ : ∃ a q, e = .returned (.tuple #[.slice a nt q, .int .i64 TE]) ∧ LvAt w9.heap.size w11 (.slice a nt q) TT := by
      rcases h with h | ⟨h, _⟩
      · exact h
      · exact absurd rfl h
    have HT1 := hide l11
    have HO1 := hide (OwnB.low (unhide HO1) (unhide HB11))
    have HO2 := hide (OwnB.low (unhide HO2) (unhide HB11))
    have HL1 := hide (LvAt.low (unhide HL1) (unhide HB11))
    have HL2 := hide (LvAt.low (unhide HL2) (unhide HB11))
    have HB11 := hide (low_trans (unhide HB9) (unhide HB11))
    clear h l11 HB9
    go_wp2_with (go_at_call 16; fail)
    refine (unhide HTL' _ _ (unhide HLG11)).mono ?_
    rintro e w12 ⟨ua, uc, rfl, l12, b12⟩
    have HO1 := hide (OwnB.low (unhide HO1) b12)
    have HO2 := hide (OwnB.low (unhide HO2) b12)
    have HL1 := hide (LvAt.low (unhide HL1) b12)
    have HL2 := hide (LvAt.low (unhide HL2) b12)
    have HT1 := hide (LvAt.low (unhide HT1) b12)
    have HT2 := hide l12
    have HB12 := hide (low_trans (unhide HB11) b12)
    have HLG12 := hide ((unhide HLG11).low b12)
    have HB12 := hide (low_trans (unhide HB3) (unhide HB12))
    clear l12 b12 HLG9 HLG11 HB11 HB3
    have hEP : (PE == PE) = true := by simp
    have hET : (TE == TE) = true := by simp
    go_wp2_with (go_at_call 20; fail)
    refine (same_hash (unhide HX32) (unhide HO1) (unhide HO2)).mono ?_
    rintro e w13 ⟨rfl, q, hq⟩
    have b13 : Below w12.heap.size w12 w13 := by rw [hq]; exact lowN (Below.refl _ _) _
    have HO2 := hide (OwnB.low (unhide HO2) b13)
    have HL1 := hide (LvAt.low (unhide HL1) b13)
    have HL2 := hide (LvAt.low (unhide HL2) b13)
    have HT1 := hide (LvAt.low (unhide HT1) b13)
    have HT2 := hide (LvAt.low (unhide HT2) b13)
    have HLG13 := hide ((unhide HLG12).low b13)
    have HB13 := hide (low_trans (unhide HB12) b13)
    clear hq b13 HO1 HLG12 HB12
    go_wp2_with (go_at_call 22; fail)
    refine (same_proof (unhide HPI).1 (unhide HPI).2.1 (unhide HPI).2.2 (unhide HL1) (unhide HL2)).mono ?_
    rintro e w14 ⟨rfl, q, hq⟩
    have b14 : Below w13.heap.size w13 w14 := by rw [hq]; exact lowN (Below.refl _ _) _
    have HO2 := hide (OwnB.low (unhide HO2) b14)
    have HL2 := hide (LvAt.low (unhide HL2) b14)
    have HT1 := hide (LvAt.low (unhide HT1) b14)
    have HT2 := hide (LvAt.low (unhide HT2) b14)
    have HLG14 := hide ((unhide HLG13).low b14)
    have HB14 := hide (low_trans (unhide HB13) b14)
    clear hq b14 HL1 HLG13 HB13
    go_wp2_with (go_at_call 22; fail)
    refine (same_proof (unhide HTI).1 (unhide HTI).2.1 (unhide HTI).2.2 (unhide HT1) (unhide HT2)).mono ?_
    rintro e w15 ⟨rfl, q, hq⟩
    have b15 : Below w14.heap.size w14 w15 := by rw [hq]; exact lowN (Below.refl _ _) _
    have HO2 := hide (OwnB.low (unhide HO2) b15)
    have HL2 := hide (LvAt.low (unhide HL2) b15)
    have HT2 := hide (LvAt.low (unhide HT2) b15)
    have HLG15 := hide ((unhide HLG14).low b15)
    have HB15 := hide (low_trans (unhide HB14) b15)
    clear hq b15 HT1 HLG14 HB14
    have hP26 : ((26 : Int) == PE) = false := by rcases unhide HPE with h | h <;> rw [h] <;> rfl
    have hT27 : ((27 : Int) == TE) = false := by rcases unhide HTE with h | h <;> rw [h] <;> rfl
    go_wp2_with (go_at_call 38; fail)
    refine (unhide HRD _ (fl : Int) 25 (unhide HLG15) (fun _ => by decide)).mono ?_
    rintro e w16 ⟨x16, e1, e2, e3, e4, hk1, hk2, rfl, hr, b16⟩
    have HC := hide (unhide HRR _ _ hr e1 e2)
    have HK := hide (And.intro b16 (And.intro hk1 (And.intro e3 e4)))
    obtain ⟨FV, hFV⟩ : ∃ FV, rfV x16 = FV := ⟨_, rfl⟩
    rw [hFV] at HC ⊢
    clear e1 e2 e3 e4 hk1 hk2 hr b16 hFV
    go_wp2_with (go_at_call 37; fail)
    refine (unhide HC).mono ?_
    rintro e w17 h
    have h := ownR_of h (unhide HK).1 (unhide HK).2.1 (unhide HK).2.2.1 (unhide HK).2.2.2
    obtain ⟨b17, h⟩ := h
    have HB17 := hide b17
    have HLG17 := hide ((unhide HLG15).low b17)
    clear HC HK b17
    have HO2 := hide (OwnB.low (unhide HO2) (unhide HB17))
    have HL2 := hide (LvAt.low (unhide HL2) (unhide HB17))
    have HT2 := hide (LvAt.low (unhide HT2) (unhide HB17))
    have HB17 := hide (low_trans (unhide HB15) (unhide HB17))
    clear HLG15 HB15
    rcases h with ⟨ca, cc, rfl, _, oc⟩ | ⟨_, rfl⟩
    · have HOC := hide oc
      clear oc
      go_wp2_with (go_at_call 38; fail)
      refine (unhide HRD _ (fl : Int) 26 (unhide HLG17) (fun _ => by decide)).mono ?_
      rintro e w18 ⟨x18, e1, e2, e3, e4, hk1, hk2, rfl, hr, b18⟩
      have HC := hide (unhide HPR' _ _ hr e1 e2)
      have HK := hide (And.intro b18 (And.intro hk1 (And.intro e3 e4)))
      obtain ⟨FV, hFV⟩ : ∃ FV, rfV x18 = FV := ⟨_, rfl⟩
      rw [hFV] at HC ⊢
      clear e1 e2 e3 e4 hk1 hk2 hr b18 hFV
      go_wp2_with (go_at_call 39; fail)
      refine (unhide HC).mono ?_
      rintro e w19 h
      have h := ownP_of h (unhide HK).1 (unhide HK).2.1 (unhide HK).2.2.1 (unhide HK).2.2.2
      obtain ⟨b19, h⟩ := h
      have HB19 := hide b19
      have HLG19 := hide ((unhide HLG17).low b19)
      clear HC HK b19
      have HO2 := hide (OwnB.low (unhide HO2) (unhide HB19))
      have HL2 := hide (LvAt.low (unhide HL2) (unhide HB19))
      have HT2 := hide (LvAt.low (unhide HT2) (unhide HB19))
      have HOC := hide (OwnB.low (unhide HOC) (unhide HB19))
      have HB19 := hide (low_trans (unhide HB17) (unhide HB19))
      clear HLG17 HB17
      rcases h with ⟨da, dc, rfl, ld⟩ | ⟨_, rfl⟩
      · have HLD := hide ld
        clear ld
        go_wp2_with (go_at_call 38; fail)
        refine (unhide HRD _ (fl : Int) 27 (unhide HLG19) (fun _ => by decide)).mono ?_
        rintro e w20 ⟨x20, e1, e2, e3, e4, hk1, hk2, rfl, hr, b20⟩
        have HC := hide (unhide HTR' _ _ hr e1 e2)
        have HK := hide (And.intro b20 (And.intro hk1 (And.intro e3 e4)))
        obtain ⟨FV, hFV⟩ : ∃ FV, rfV x20 = FV := ⟨_, rfl⟩
        rw [hFV] at HC ⊢
        clear e1 e2 e3 e4 hk1 hk2 hr b20 hFV
        go_wp2_with (go_at_call 40; fail)
        refine (unhide HC).mono ?_
        rintro e w21 h
        have h := ownP_of h (unhide HK).1 (unhide HK).2.1 (unhide HK).2.2.1 (unhide HK).2.2.2
        obtain ⟨b21, h⟩ := h
        have HB21 := hide b21
        have HLG21 := hide ((unhide HLG19).low b21)
        clear HC HK b21
        have HO2 := hide (OwnB.low (unhide HO2) (unhide HB21))
        have HL2 := hide (LvAt.low (unhide HL2) (unhide HB21))
        have HT2 := hide (LvAt.low (unhide HT2) (unhide HB21))
        have HOC := hide (OwnB.low (unhide HOC) (unhide HB21))
        have HLD := hide (LvAt.low (unhide HLD) (unhide HB21))
        have HB21 := hide (low_trans (unhide HB19) (unhide HB21))
        clear HLG19 HB19 HLG21
        rcases h with ⟨za, zc, rfl, lz⟩ | ⟨_, rfl⟩
        · have HLZ := hide lz
          clear lz
          go_wp2_with (first | (go_at_call 17; refine (errno_any _ _).mono ?_; rintro e wn ⟨rfl, hwn⟩; rw [hwn]; clear hwn wn) | (go_at_call 20; fail))
          refine (same_hash (unhide HX32) (unhide HOC) (unhide HO2)).mono ?_
          rintro e w22 ⟨rfl, q, hq⟩
          have b22 : Below w21.heap.size w21 w22 := by rw [hq]; exact lowN (Below.refl _ _) _
          have HL2 := hide (LvAt.low (unhide HL2) b22)
          have HT2 := hide (LvAt.low (unhide HT2) b22)
          have HLD := hide (LvAt.low (unhide HLD) b22)
          have HLZ := hide (LvAt.low (unhide HLZ) b22)
          have HB22 := hide (low_trans (unhide HB21) b22)
          clear hq b22 HOC HO2 HB21
          go_wp2_with (first | (go_at_call 17; refine (errno_any _ _).mono ?_; rintro e wn ⟨rfl, hwn⟩; rw [hwn]; clear hwn wn) | (go_at_call 22; fail))
          refine (same_proof (unhide HPI).1 (unhide HPI).2.1 (unhide HPI).2.2 (unhide HLD) (unhide HL2)).mono ?_
          rintro e w23 ⟨rfl, q, hq⟩
          have b23 : Below w22.heap.size w22 w23 := by rw [hq]; exact lowN (Below.refl _ _) _
          have HT2 := hide (LvAt.low (unhide HT2) b23)
          have HLZ := hide (LvAt.low (unhide HLZ) b23)
          have HB23 := hide (low_trans (unhide HB22) b23)
          clear hq b23 HLD HL2 HB22
          go_wp2_with (first | (go_at_call 17; refine (errno_any _ _).mono ?_; rintro e wn ⟨rfl, hwn⟩; rw [hwn]; clear hwn wn) | (go_at_call 22; fail))
          refine (same_proof (unhide HTI).1 (unhide HTI).2.1 (unhide HTI).2.2 (unhide HLZ) (unhide HT2)).mono ?_
          rintro e w24 ⟨rfl, q, hq⟩
          have b24 : Below w23.heap.size w23 w24 := by rw [hq]; exact lowN (Below.refl _ _) _
          have HB24 := hide (low_trans (unhide HB23) b24)
          clear hq b24 HLZ HT2 HB23
          go_wp2_with (go_at_call 17; refine (errno_any _ _).mono ?_; rintro e wn ⟨rfl, hwn⟩; rw [hwn]; clear hwn wn)
          go_ret
          exact ⟨rfl, unhide HB24⟩
        · skip
          go_wp2_with (first | (go_at_call 17; refine (errno_any _ _).mono ?_; rintro e wn ⟨rfl, hwn⟩; rw [hwn]; clear hwn wn) | (go_at_call 20; fail))
          refine (same_hash (unhide HX32) (unhide HOC) (unhide HO2)).mono ?_
          rintro e w22 ⟨rfl, q, hq⟩
          have b22 : Below w21.heap.size w21 w22 := by rw [hq]; exact lowN (Below.refl _ _) _
          have HL2 := hide (LvAt.low (unhide HL2) b22)
          have HT2 := hide (LvAt.low (unhide HT2) b22)
          have HLD := hide (LvAt.low (unhide HLD) b22)
          have HB22 := hide (low_trans (unhide HB21) b22)
          clear hq b22 HOC HO2 HB21
          go_wp2_with (first | (go_at_call 17; refine (errno_any _ _).mono ?_; rintro e wn ⟨rfl, hwn⟩; rw [hwn]; clear hwn wn) | (go_at_call 22; fail))
          refine (same_proof (unhide HPI).1 (unhide HPI).2.1 (unhide HPI).2.2 (unhide HLD) (unhide HL2)).mono ?_
          rintro e w23 ⟨rfl, q, hq⟩
          have b23 : Below w22.heap.size w22 w23 := by rw [hq]; exact lowN (Below.refl _ _) _
          have HT2 := hide (LvAt.low (unhide HT2) b23)
          have HB23 := hide (low_trans (unhide HB22) b23)
          clear hq b23 HLD HL2 HB22
          go_wp2_with (go_at_call 17; refine (errno_any _ _).mono ?_; rintro e wn ⟨rfl, hwn⟩; rw [hwn]; clear hwn wn)
          go_ret
          exact ⟨rfl, unhide HB23⟩
      · skip
        go_wp2_with (go_at_call 38; fail)
        refine (unhide HRD _ (fl : Int) 27 (unhide HLG19) (fun _ => by decide)).mono ?_
        rintro e w20 ⟨x20, e1, e2, e3, e4, hk1, hk2, rfl, hr, b20⟩
        have HC := hide (unhide HTR' _ _ hr e1 e2)
        have HK := hide (And.intro b20 (And.intro hk1 (And.intro e3 e4)))
        obtain ⟨FV, hFV⟩ : ∃ FV, rfV x20 = FV := ⟨_, rfl⟩
        rw [hFV] at HC ⊢
        clear e1 e2 e3 e4 hk1 hk2 hr b20 hFV
        go_wp2_with (go_at_call 40; fail)
        refine (unhide HC).mono ?_
        rintro e w21 h
        have h := ownP_of h (unhide HK).1 (unhide HK).2.1 (unhide HK).2.2.1 (unhide HK).2.2.2
        obtain ⟨b21, h⟩ := h
        have HB21 := hide b21
        have HLG21 := hide ((unhide HLG19).low b21)
        clear HC HK b21
        have HO2 := hide (OwnB.low (unhide HO2) (unhide HB21))
        have HL2 := hide (LvAt.low (unhide HL2) (unhide HB21))
        have HT2 := hide (LvAt.low (unhide HT2) (unhide HB21))
        have HOC := hide (OwnB.low (unhide HOC) (unhide HB21))
        have HB21 := hide (low_trans (unhide HB19) (unhide HB21))
        clear HLG19 HB19 HLG21
        rcases h with ⟨za, zc, rfl, lz⟩ | ⟨_, rfl⟩
        · have HLZ := hide lz
          clear lz
          go_wp2_with (first | (go_at_call 17; refine (errno_any _ _).mono ?_; rintro e wn ⟨rfl, hwn⟩; rw [hwn]; clear hwn wn) | (go_at_call 20; fail))
          refine (same_hash (unhide HX32) (unhide HOC) (unhide HO2)).mono ?_
          rintro e w22 ⟨rfl, q, hq⟩
          have b22 : Below w21.heap.size w21 w22 := by rw [hq]; exact lowN (Below.refl _ _) _
          have HL2 := hide (LvAt.low (unhide HL2) b22)
          have HT2 := hide (LvAt.low (unhide HT2) b22)
          have HLZ := hide (LvAt.low (unhide HLZ) b22)
          have HB22 := hide (low_trans (unhide HB21) b22)
          clear hq b22 HOC HO2 HB21
          go_wp2_with (first | (go_at_call 17; refine (errno_any _ _).mono ?_; rintro e wn ⟨rfl, hwn⟩; rw [hwn]; clear hwn wn) | (go_at_call 22; fail))
          refine (same_proof (unhide HTI).1 (unhide HTI).2.1 (unhide HTI).2.2 (unhide HLZ) (unhide HT2)).mono ?_
          rintro e w23 ⟨rfl, q, hq⟩
          have b23 : Below w22.heap.size w22 w23 := by rw [hq]; exact lowN (Below.refl _ _) _
          have HL2 := hide (LvAt.low (unhide HL2) b23)
          have HB23 := hide (low_trans (unhide HB22) b23)
          clear hq b23 HLZ HT2 HB22
          go_wp2_with (go_at_call 17; refine (errno_any _ _).mono ?_; rintro e wn ⟨rfl, hwn⟩; rw [hwn]; clear hwn wn)
          go_ret
          exact ⟨rfl, unhide HB23⟩
        · skip
          go_wp2_with (first | (go_at_call 17; refine (errno_any _ _).mono ?_; rintro e wn ⟨rfl, hwn⟩; rw [hwn]; clear hwn wn) | (go_at_call 20; fail))
          refine (same_hash (unhide HX32) (unhide HOC) (unhide HO2)).mono ?_
          rintro e w22 ⟨rfl, q, hq⟩
          have b22 : Below w21.heap.size w21 w22 := by rw [hq]; exact lowN (Below.refl _ _) _
          have HL2 := hide (LvAt.low (unhide HL2) b22)
          have HT2 := hide (LvAt.low (unhide HT2) b22)
          have HB22 := hide (low_trans (unhide HB21) b22)
          clear hq b22 HOC HO2 HB21
          go_wp2_with (go_at_call 17; refine (errno_any _ _).mono ?_; rintro e wn ⟨rfl, hwn⟩; rw [hwn]; clear hwn wn)
          go_ret
          exact ⟨rfl, unhide HB22⟩
    · skip
      go_wp2_with (go_at_call 38; fail)
      refine (unhide HRD _ (fl : Int) 26 (unhide HLG17) (fun _ => by decide)).mono ?_
      rintro e w18 ⟨x18, e1, e2, e3, e4, hk1, hk2, rfl, hr, b18⟩
      have HC := hide (unhide HPR' _ _ hr e1 e2)
      have HK := hide (And.intro b18 (And.intro hk1 (And.intro e3 e4)))
      obtain ⟨FV, hFV⟩ : ∃ FV, rfV x18 = FV := ⟨_, rfl⟩
      rw [hFV] at HC ⊢
      clear e1 e2 e3 e4 hk1 hk2 hr b18 hFV
      go_wp2_with (go_at_call 39; fail)
      refine (unhide HC).mono ?_
      rintro e w19 h
      have h := ownP_of h (unhide HK).1 (unhide HK).2.1 (unhide HK).2.2.1 (unhide HK).2.2.2
      obtain ⟨b19, h⟩ := h
      have HB19 := hide b19
      have HLG19 := hide ((unhide HLG17).low b19)
      clear HC HK b19
      have HO2 := hide (OwnB.low (unhide HO2) (unhide HB19))
      have HL2 := hide (LvAt.low (unhide HL2) (unhide HB19))
      have HT2 := hide (LvAt.low (unhide HT2) (unhide HB19))
      have HB19 := hide (low_trans (unhide HB17) (unhide HB19))
      clear HLG17 HB17
      rcases h with ⟨da, dc, rfl, ld⟩ | ⟨_, rfl⟩
      · have HLD := hide ld
        clear ld
        go_wp2_with (go_at_call 38; fail)
        refine (unhide HRD _ (fl : Int) 27 (unhide HLG19) (fun _ => by decide)).mono ?_
        rintro e w20 ⟨x20, e1, e2, e3, e4, hk1, hk2, rfl, hr, b20⟩
        have HC := hide (unhide HTR' _ _ hr e1 e2)
        have HK := hide (And.intro b20 (And.intro hk1 (And.intro e3 e4)))
        obtain ⟨FV, hFV⟩ : ∃ FV, rfV x20 = FV := ⟨_, rfl⟩
        rw [hFV] at HC ⊢
        clear e1 e2 e3 e4 hk1 hk2 hr b20 hFV
        go_wp2_with (go_at_call 40; fail)
        refine (unhide HC).mono ?_
        rintro e w21 h
        have h := ownP_of h (unhide HK).1 (unhide HK).2.1 (unhide HK).2.2.1 (unhide HK).2.2.2
        obtain ⟨b21, h⟩ := h
        have HB21 := hide b21
        have HLG21 := hide ((unhide HLG19).low b21)
        clear HC HK b21
        have HO2 := hide (OwnB.low (unhide HO2) (unhide HB21))
        have HL2 := hide (LvAt.low (unhide HL2) (unhide HB21))
        have HT2 := hide (LvAt.low (unhide HT2) (unhide HB21))
        have HLD := hide (LvAt.low (unhide HLD) (unhide HB21))
        have HB21 := hide (low_trans (unhide HB19) (unhide HB21))
        clear HLG19 HB19 HLG21
        rcases h with ⟨za, zc, rfl, lz⟩ | ⟨_, rfl⟩
        · have HLZ := hide lz
          clear lz
          go_wp2_with (first | (go_at_call 17; refine (errno_any _ _).mono ?_; rintro e wn ⟨rfl, hwn⟩; rw [hwn]; clear hwn wn) | (go_at_call 22; fail))
          refine (same_proof (unhide HPI).1 (unhide HPI).2.1 (unhide HPI).2.2 (unhide HLD) (unhide HL2)).mono ?_
          rintro e w22 ⟨rfl, q, hq⟩
          have b22 : Below w21.heap.size w21 w22 := by rw [hq]; exact lowN (Below.refl _ _) _
          have HO2 := hide (OwnB.low (unhide HO2) b22)
          have HT2 := hide (LvAt.low (unhide HT2) b22)
          have HLZ := hide (LvAt.low (unhide HLZ) b22)
          have HB22 := hide (low_trans (unhide HB21) b22)
          clear hq b22 HLD HL2 HB21
          go_wp2_with (first | (go_at_call 17; refine (errno_any _ _).mono ?_; rintro e wn ⟨rfl, hwn⟩; rw [hwn]; clear hwn wn) | (go_at_call 22; fail))
          refine (same_proof (unhide HTI).1 (unhide HTI).2.1 (unhide HTI).2.2 (unhide HLZ) (unhide HT2)).mono ?_
          rintro e w23 ⟨rfl, q, hq⟩
          have b23 : Below w22.heap.size w22 w23 := by rw [hq]; exact lowN (Below.refl _ _) _
          have HO2 := hide (OwnB.low (unhide HO2) b23)
          have HB23 := hide (low_trans (unhide HB22) b23)
          clear hq b23 HLZ HT2 HB22
          go_wp2_with (go_at_call 17; refine (errno_any _ _).mono ?_; rintro e wn ⟨rfl, hwn⟩; rw [hwn]; clear hwn wn)
          go_ret
          exact ⟨rfl, unhide HB23⟩
        · skip
          go_wp2_with (first | (go_at_call 17; refine (errno_any _ _).mono ?_; rintro e wn ⟨rfl, hwn⟩; rw [hwn]; clear hwn wn) | (go_at_call 22; fail))
          refine (same_proof (unhide HPI).1 (unhide HPI).2.1 (unhide HPI).2.2 (unhide HLD) (unhide HL2)).mono ?_
          rintro e w22 ⟨rfl, q, hq⟩
          have b22 : Below w21.heap.size w21 w22 := by rw [hq]; exact lowN (Below.refl _ _) _
          have HO2 := hide (OwnB.low (unhide HO2) b22)
          have HT2 := hide (LvAt.low (unhide HT2) b22)
          have HB22 := hide (low_trans (unhide HB21) b22)
          clear hq b22 HLD HL2 HB21
          go_wp2_with (go_at_call 17; refine (errno_any _ _).mono ?_; rintro e wn ⟨rfl, hwn⟩; rw [hwn]; clear hwn wn)
          go_ret
          exact ⟨rfl, unhide HB22⟩
      · skip
        go_wp2_with (go_at_call 38; fail)
        refine (unhide HRD _ (fl : Int) 27 (unhide HLG19) (fun _ => by decide)).mono ?_
        rintro e w20 ⟨x20, e1, e2, e3, e4, hk1, hk2, rfl, hr, b20⟩
        have HC := hide (unhide HTR' _ _ hr e1 e2)
        have HK := hide (And.intro b20 (And.intro hk1 (And.intro e3 e4)))
        obtain ⟨FV, hFV⟩ : ∃ FV, rfV x20 = FV := ⟨_, rfl⟩
        rw [hFV] at HC ⊢
        clear e1 e2 e3 e4 hk1 hk2 hr b20 hFV
        go_wp2_with (go_at_call 40; fail)
        refine (unhide HC).mono ?_
        rintro e w21 h
        have h := ownP_of h (unhide HK).1 (unhide HK).2.1 (unhide HK).2.2.1 (unhide HK).2.2.2
        obtain ⟨b21, h⟩ := h
        have HB21 := hide b21
        have HLG21 := hide ((unhide HLG19).low b21)
        clear HC HK b21
        have HO2 := hide (OwnB.low (unhide HO2) (unhide HB21))
        have HL2 := hide (LvAt.low (unhide HL2) (unhide HB21))
        have HT2 := hide (LvAt.low (unhide HT2) (unhide HB21))
        have HB21 := hide (low_trans (unhide HB19) (unhide HB21))
        clear HLG19 HB19 HLG21
        rcases h with ⟨za, zc, rfl, lz⟩ | ⟨_, rfl⟩
        · have HLZ := hide lz
          clear lz
          go_wp2_with (first | (go_at_call 17; refine (errno_any _ _).mono ?_; rintro e wn ⟨rfl, hwn⟩; rw [hwn]; clear hwn wn) | (go_at_call 22; fail))
          refine (same_proof (unhide HTI).1 (unhide HTI).2.1 (unhide HTI).2.2 (unhide HLZ) (unhide HT2)).mono ?_
          rintro e w22 ⟨rfl, q, hq⟩
          have b22 : Below w21.heap.size w21 w22 := by rw [hq]; exact lowN (Below.refl _ _) _
          have HO2 := hide (OwnB.low (unhide HO2) b22)
          have HL2 := hide (LvAt.low (unhide HL2) b22)
          have HB22 := hide (low_trans (unhide HB21) b22)
          clear hq b22 HLZ HT2 HB21
          go_wp2_with (go_at_call 17; refine (errno_any _ _).mono ?_; rintro e wn ⟨rfl, hwn⟩; rw [hwn]; clear hwn wn)
          go_ret
          exact ⟨rfl, unhide HB22⟩
        · skip
          go_wp2_with (go_at_call 17; refine (errno_any _ _).mono ?_; rintro e wn ⟨rfl, hwn⟩; rw [hwn]; clear hwn wn)
          go_ret
          exact ⟨rfl, unhide HB21⟩

end Go.Proofs.YtkpmbbeidcpclaaDoor
