/-
  A log's hash, and both kinds of proofs, at any sizes, are the reference's.
-/
import Derived.Test.YtkpmbbeidcpclaaDoorPrvQ
import Derived.Test.YtkpmbbeidcpclaaDoorPrvA
namespace Go.Proofs.YtkpmbbeidcpclaaDoor
open Go.RowKit

/-- What made leaves, as a log and its leaves. -/
theorem Made.lg {w0 w : World} {base F n : Nat} {v : Value} {ls : List Bs} (h : Made base w0 w F n v ls) (hl : ls.length = n) (hn : n ≤ 1000) (ht : TzAt w) : Lg w F n ls := by
  obtain ⟨hs, h1, h2⟩ := h.log
  exact ⟨⟨base, hs, h1, h2⟩, hl, hn, ht⟩

theorem LvAt.patAt {base : Nat} {w : World} {a : Option Addr} {n c : Nat} {ps : List Bs} (h : LvAt base w (.slice a n c) ps) : PAt w a ps := by
  obtain ⟨a', c', hv, _, hp⟩ := h.pat
  rw [(Value.slice.inj hv).1]
  exact hp
theorem all_short {ps : List Bs} (h : All32 ps) : ∀ p ∈ ps, p.length ≤ 1073741824 := fun p hp => by rw [h p hp]; decide

set_option maxRecDepth 100000 in
set_option maxHeartbeats 4000000 in
theorem proves_law {w : World} (hg : Gd w) (htz : TzAt w) {a : Option Addr} {N c : Nat} {i m n : Int} {ps : List Bs} (hn : ps.length = N) (hN : N ≤ 1048576) (hps : ∀ p ∈ ps, p.length ≤ 1048576) (hp : PAt w a ps) :
    Calls Tryd.prog 3 #[.slice a N c, .int .i64 i, .int .i64 m, .int .i64 n] w fun e w' => e = .returned (.bool true) ∧ Below w.heap.size w w' := by
  have HF := hide (first_any hg)
  have HN := hide hn
  have HPS := hide hps
  have HP := hide hp
  have HTZ := hide htz
  clear hg hn hps hp htz
  go_enter Tryd.func3, Tryd.ntmps3
  go_wp2_with (go_at_call 10; fail)
  refine (unhide HF).mono ?_
  rintro e w1 ⟨rfl, b1⟩
  have HB1 := hide b1
  have HP1 := hide ((unhide HP).low b1)
  have HTZ1 := hide ((unhide HTZ).low b1)
  clear b1 HF HP HTZ
  go_wp2_with (go_at_call 11; fail)
  refine (few_any (c := c) (unhide HN) hN (fun p hp => Nat.le_trans (unhide HPS p hp) (by omega)) (unhide HP1)).mono ?_
  rintro e w2 ⟨r, rfl, hr, rfl⟩
  cases r with
  | false =>
    clear hr
    go_wp2
    go_ret
    exact ⟨rfl, unhide HB1⟩
  | true =>
    have h70 : N ≤ 70 := hr rfl
    have HMD := hide (made_any (c := c) (unhide HN) (by omega) (fun p hp => Nat.le_trans (unhide HPS p hp) (by omega)) (unhide HP1))
    clear hr hN
    go_wp2_with (go_at_call 12; fail)
    refine (unhide HMD).mono ?_
    rintro e w3 ⟨F, v, rfl, hm⟩
    have hlen : (ps.map leafL).length = N := by rw [List.length_map]; exact unhide HN
    have hlg := hm.lg hlen (by omega) ((unhide HTZ1).low hm.low)
    obtain ⟨_, hlv, hlow, hfar⟩ := hm
    obtain ⟨la, lc, rfl, hlc, hpat⟩ := hlv.pat
    obtain ⟨_, _, hve, _, hlcm⟩ := hlv.len
    have hlcm' : lc ≤ maxLen := by
      have := (Value.slice.inj hve).2.2
      rw [this]; exact hlcm
    rw [hlen] at hlc ⊢
    have h32 : All32 (ps.map leafL) := fun x hx => by
      obtain ⟨y, _, rfl⟩ := List.mem_map.1 hx
      exact leaf_len y
    obtain ⟨ls, hls⟩ : ∃ ls, ps.map leafL = ls := ⟨_, rfl⟩
    rw [hls] at hpat h32 hlen hlg
    have HB3 := hide (low_trans (unhide HB1) hlow)
    have HLG := hide hlg
    have HSZ := hide (logSize_any hlg)
    have hlcm2 : lc ≤ 9223372036854775807 := hlcm'
    clear hve hlcm hlow hlv hls HMD hlg HB1 HP1 HTZ1
    go_wp2_with (go_at_call 13; fail)
    refine (unhide HSZ).mono ?_
    rintro e w4 ⟨rfl, rfl⟩
    by_cases hout : n < 0 ∨ (N : Int) < n
    · have HR := hide (logRoot_out (unhide HLG) hout)
      have HPV := hide (fun wx (hb : Below w4.heap.size w4 wx) => logProve_out (i := i) (m := n) ((unhide HLG).low hb) (by
        rcases hout with h | h
        · right; unfold recB sizeB; rw [decide_eq_false (show ¬ 0 ≤ n by omega)]; rfl
        · exact Or.inl h))
      have HTR := hide (fun wx (hb : Below w4.heap.size w4 wx) => logTree_out (i := m) (m := n) ((unhide HLG).low hb) (by
        rcases hout with h | h
        · right; unfold partB sizeB; rw [decide_eq_false (show ¬ 0 ≤ n by omega)]; rfl
        · exact Or.inl h))
      clear hpat h32 hlen HLG HSZ
      by_cases hneg : n < 0
      · clear hout
        go_wp2_with (go_at_call 14; fail)
        refine (unhide HR).mono ?_
        rintro e w5 ⟨rfl, b5⟩
        have HB5 := hide b5
        clear b5
        go_wp2_with (go_at_call 15; fail)
        refine (unhide HPV _ (unhide HB5)).mono ?_
        rintro e w6 ⟨rfl, b6⟩
        have HB6 := hide (low_trans (unhide HB5) b6)
        clear b6
        go_wp2_with (go_at_call 16; fail)
        refine (unhide HTR _ (unhide HB6)).mono ?_
        rintro e w7 ⟨rfl, b7⟩
        have HB7 := hide (low_trans (unhide HB6) b7)
        clear b7
        go_wp2_with (go_at_call 17; (refine (errno_any _ _).mono ?_; rintro e wn ⟨rfl, rfl⟩))
        go_ret
        exact ⟨by simp, low_trans (unhide HB3) (unhide HB7)⟩
      · have hbig : ¬ (n ≤ (N : Int)) := by omega
        have hpos : 0 ≤ n := by omega
        have hbig2 : decide (n ≤ (N : Int)) = false := decide_eq_false hbig
        have hpos2 : decide (0 ≤ n) = true := decide_eq_true hpos
        clear hout hneg
        go_wp2_with (go_at_call 14; fail)
        refine (unhide HR).mono ?_
        rintro e w5 ⟨rfl, b5⟩
        have HB5 := hide b5
        clear b5
        go_wp2_with (go_at_call 15; fail)
        refine (unhide HPV _ (unhide HB5)).mono ?_
        rintro e w6 ⟨rfl, b6⟩
        have HB6 := hide (low_trans (unhide HB5) b6)
        clear b6
        go_wp2_with (go_at_call 16; fail)
        refine (unhide HTR _ (unhide HB6)).mono ?_
        rintro e w7 ⟨rfl, b7⟩
        have HB7 := hide (low_trans (unhide HB6) b7)
        clear b7
        go_wp2_with (go_at_call 17; (refine (errno_any _ _).mono ?_; rintro e wn ⟨rfl, rfl⟩))
        go_ret
        exact ⟨by simp, low_trans (unhide HB3) (unhide HB7)⟩
    · obtain ⟨M, rfl⟩ : ∃ M : Nat, n = M := ⟨n.toNat, by omega⟩
      have hMN : M ≤ N := by omega
      have hMi : (M : Int) ≤ (N : Int) := by omega
      clear hout
      obtain ⟨pp, PE, np, hpl, hpb, hp32, HPV, HRP⟩ := prove_both i hMN (by omega) hlen h32
      obtain ⟨qq, QE, nq, hql, hqb, hq32, HTR, HRT⟩ := tree_both m hMN (by omega) hlen h32
      have hl2 : (ls.take M).length = M := by rw [List.length_take]; omega
      have ha2 : All32 (ls.take M) := fun x hx => h32 x (List.mem_of_mem_take hx)
      have HRT' := hide HRT
      have HRP' := hide HRP
      have HPV' := hide HPV
      have HTR' := hide HTR
      have HPAT := hide hpat
      have HRO := hide (logRoot_in (unhide HLG) hMN)
      have HRH := hide (fun wx (hb : Below w4.heap.size w4 wx) => refHash_any 1000 (c := lc) hl2 (by omega) (by omega) (by omega) hlcm' ha2 ((hpat.low hb).front M))
      have HT32 := hide (mth_len 1000 _ ha2)
      obtain ⟨T, hT⟩ : ∃ T, mth 1000 (ls.take M) = T := ⟨_, rfl⟩
      rw [hT] at HRO HRH HT32
      have HPL := hide hpl
      have HQL := hide hql
      have HP32 := hide hp32
      have HQ32 := hide hq32
      have hMlc : M ≤ lc := by omega
      have hMlci : (M : Int) ≤ (lc : Int) := by omega
      clear HPV HRP HTR HRT hpat h32 hlen hl2 ha2 hT hpl hql hp32 hq32 HSZ
      go_wp2_with (go_at_call 14; fail)
      refine (unhide HRO).mono ?_
      rintro e w5 ⟨ra, rc, rfl, _, o5, b5⟩
      have HO5 := hide o5
      have HB5 := hide b5
      clear o5 b5 HRO
      go_wp2_with (go_at_call 15; fail)
      refine (unhide HPV' w5 F ((unhide HLG).low (unhide HB5))).mono ?_
      rintro e w6 ⟨pa, pc, rfl, l6, b6⟩
      have HL6 := hide l6
      have HB6 := hide b6
      clear l6 b6
      go_wp2_with (go_at_call 16; fail)
      refine (unhide HTR' w6 F ((unhide HLG).low (low_trans (unhide HB5) (unhide HB6)))).mono ?_
      rintro e w7 ⟨qa, qc, rfl, l7, b7⟩
      have HL7 := hide l7
      have HB7 := hide b7
      have HB47 := hide (low_trans (low_trans (unhide HB5) (unhide HB6)) b7)
      clear l7 b7
      go_wp2_with (go_at_call 18; fail)
      refine (unhide HRP' w7 la lc ((unhide HPAT).low (unhide HB47)) hMlc hlcm').mono ?_
      rintro e w8 ⟨xa, xc, rfl, l8, b8⟩
      have HL8 := hide l8
      have HB8 := hide b8
      have HB48 := hide (low_trans (unhide HB47) b8)
      clear l8 b8
      go_wp2_with (go_at_call 19; fail)
      refine (unhide HRT' w8 la lc ((unhide HPAT).low (unhide HB48)) hMlc hlcm').mono ?_
      rintro e w9 ⟨ya, yc, rfl, l9, b9⟩
      have HL9 := hide l9
      have HB9 := hide b9
      have HB49 := hide (low_trans (unhide HB48) b9)
      clear l9 b9
      go_wp2_with (go_at_call 21; fail)
      refine (unhide HRH _ (unhide HB49)).mono ?_
      rintro e w10 ⟨v10, rfl, o10, b10⟩
      obtain ⟨g10, c10, rfl, hb10⟩ := OwnB.adr o10 (unhide HT32)
      have b59 := low_trans (low_trans (low_trans (low_trans (unhide HB6) (unhide HB7)) (unhide HB8)) (unhide HB9)) b10
      obtain ⟨g5, c5, hv5, hb5⟩ := OwnB.adr (OwnB.low (unhide HO5) b59) (unhide HT32)
      obtain ⟨rfl, _, rfl⟩ := Value.slice.inj hv5
      have HSB := hide (sameBytes_any (c := rc) (c2 := c10) (unhide HT32) (unhide HT32) (by omega) (by omega) hb5 hb10)
      have HB10 := hide b10
      clear o10 hb10 b10 b59 hv5 hb5 HO5
      go_wp2_with (go_at_call 20; fail)
      refine (unhide HSB).mono ?_
      rintro e w11 ⟨rfl, q11, hw11⟩
      rw [show decide True = true from rfl]
      have b11 : Below w10.heap.size w10 w11 := by rw [hw11]; exact lowN (Below.refl _ _) _
      have b9_11 := low_trans (unhide HB10) b11
      have b8_11 := low_trans (unhide HB9) b9_11
      have b7_11 := low_trans (unhide HB8) b8_11
      have b6_11 := low_trans (unhide HB7) b7_11
      have HS1 := hide (sameLists_same (c := pc) (d := xc) (unhide HPL) (by omega) (all_short (unhide HP32)) ((unhide HL6).low b6_11).patAt ((unhide HL8).low b8_11).patAt)
      have HB11 := hide (And.intro b6_11 (And.intro b7_11 (And.intro b8_11 b9_11)))
      clear hw11 b11 b9_11 b8_11 b7_11 b6_11 HSB
      go_wp2_with (go_at_call 22; fail)
      refine (unhide HS1).mono ?_
      rintro e w12 ⟨rfl, q12, hw12⟩
      have b12 : Below w11.heap.size w11 w12 := by rw [hw12]; exact lowN (Below.refl _ _) _
      have HS2 := hide (sameLists_same (c := qc) (d := yc) (unhide HQL) (by omega) (all_short (unhide HQ32)) ((unhide HL7).low (low_trans (unhide HB11).2.1 b12)).patAt ((unhide HL9).low (low_trans (unhide HB11).2.2.2 b12)).patAt)
      have HB12 := hide b12
      clear hw12 b12 HS1
      go_wp2_with (go_at_call 22; fail)
      refine (unhide HS2).mono ?_
      rintro e w13 ⟨rfl, q13, hw13⟩
      have b13 : Below w12.heap.size w12 w13 := by rw [hw13]; exact lowN (Below.refl _ _) _
      have b11_13 := low_trans (unhide HB12) b13
      have b6_13 := low_trans (unhide HB11).1 b11_13
      have b7_13 := low_trans (unhide HB11).2.1 b11_13
      have b8_13 := low_trans (unhide HB11).2.2.1 b11_13
      have HOV := hide (overL_any (w := w13) (unhide HL6) (unhide HP32) (fun k _ hk => b6_13.block k hk) (by rw [unhide HPL]; omega))
      have HB13 := hide (And.intro b6_13 (And.intro b7_13 b8_13))
      clear hw13 b13 b11_13 b6_13 b7_13 b8_13 HS2 HB11 HB12
      go_wp2_with (go_at_call 23; fail)
      refine (unhide HOV).mono ?_
      rintro e w14 ⟨rfl, m14⟩
      have HOV2 := hide (overL_any (w := w14) (unhide HL7) (unhide HQ32) (fun k hk1 hk2 => (m14.block k (Or.inr hk1)).trans ((unhide HB13).2.1.block k hk2)) (by rw [unhide HQL]; omega))
      have HM14 := hide m14
      clear m14 HOV
      go_wp2_with (go_at_call 23; fail)
      refine (unhide HOV2).mono ?_
      rintro e w15 ⟨rfl, m15⟩
      have m14 := unhide HM14
      have s5 := (unhide HB5).size
      have s6 := (unhide HB6).size
      have s7 := (unhide HB7).size
      have b4_13 := low_trans (low_trans (unhide HB5) (unhide HB6)) (unhide HB13).1
      have b4_15 : Below w4.heap.size w4 w15 := (b4_13.trans (m14.low.mono s5)).trans (m15.low.mono (Nat.le_trans s5 s6))
      have lx15 : LvAt w7.heap.size w15 (.slice xa np xc) pp := (((unhide HL8).low (unhide HB13).2.2).mid m14 s7).mid m15 (Nat.le_refl _)
      have HL15 := hide lx15
      have HB15 := hide b4_15
      clear m14 m15 s5 s6 s7 b4_13 b4_15 lx15 HOV2 HM14 HB13
      go_wp2_with (go_at_call 15; fail)
      refine (unhide HPV' w15 F ((unhide HLG).low (unhide HB15))).mono ?_
      rintro e w16 ⟨aa, ac, rfl, l16, b16⟩
      have HS3 := hide (sameLists_same (c := ac) (d := xc) (unhide HPL) (by omega) (all_short (unhide HP32)) l16.patAt ((unhide HL15).low b16).patAt)
      have HB16 := hide (low_trans (unhide HB15) b16)
      clear l16 b16
      go_wp2_with (first | (go_at_call 17; refine (errno_any _ _).mono ?_; rintro e wn ⟨rfl, rfl⟩) | (go_at_call 22; fail))
      refine (unhide HS3).mono ?_
      rintro e w17 ⟨rfl, q17, hw17⟩
      have HB17 : Hid (Below w.heap.size w w17) := hide (by rw [hw17]; exact lowN (low_trans (unhide HB3) (unhide HB16)) _)
      clear hw17 HS3
      go_wp2
      go_ret
      exact ⟨by simp, unhide HB17⟩

end Go.Proofs.YtkpmbbeidcpclaaDoor
