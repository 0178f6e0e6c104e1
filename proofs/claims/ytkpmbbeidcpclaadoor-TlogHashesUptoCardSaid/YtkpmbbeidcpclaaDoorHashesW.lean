/-
  The hash of each whole tree of a log is the one of its records; nothing is told of others.
-/
import Derived.Test.YtkpmbbeidcpclaaDoorHshE
namespace Go.Proofs.YtkpmbbeidcpclaaDoor
open Go.RowKit

set_option maxRecDepth 100000 in
set_option maxHeartbeats 4000000 in
theorem hashes_law {w : World} (hg : Gd w) {a : Option Addr} {n c : Nat} {level k index : Int} {ps : List Bs} (hn : ps.length = n) (hN : n ≤ 1048576) (hps : ∀ p ∈ ps, p.length ≤ 1048576) (hp : PAt w a ps) :
    Calls Tryd.prog 4 #[.slice a n c, .int .i64 level, .int .i64 k, .int .i64 index] w fun e w' => e = .returned (.bool true) ∧ Below w.heap.size w w' := by
  have HF := hide (first_any hg)
  have HN := hide hn
  have HPS := hide hps
  have HP := hide hp
  clear hg hn hps hp
  obtain ⟨IA, IE, HI1, HI2⟩ := index_both level k
  obtain ⟨CA, CE, HC1, HC2⟩ := count_both index
  go_enter Tryd.func4, Tryd.ntmps4
  go_wp2_with (go_at_call 10; fail)
  refine (unhide HF).mono ?_
  rintro e w1 ⟨rfl, b1⟩
  have HB1 := hide b1
  have HP1 := hide ((unhide HP).low b1)
  clear b1 HF
  go_wp2_with (go_at_call 11; fail)
  refine (few_any (c := c) (unhide HN) hN (fun p hp => Nat.le_trans (unhide HPS p hp) (by omega)) (unhide HP1)).mono ?_
  rintro e w2 ⟨r, rfl, hr, rfl⟩
  cases r with
  | false =>
    clear hr
    go_wp2
    go_ret
    exact ⟨rfl, unhide HB1⟩
  | true =>
    have h70 : n ≤ 70 := hr rfl
    have HMD := hide (made_any (c := c) (unhide HN) (by omega) (fun p hp => Nat.le_trans (unhide HPS p hp) (by omega)) (unhide HP1))
    clear hr hN
    go_wp2_with (go_at_call 12; fail)
    refine (unhide HMD).mono ?_
    rintro e w3 ⟨F, v, rfl, hm⟩
    obtain ⟨⟨hs, hlog, hinv⟩, hlv, hlow, hfar⟩ := hm
    have hlen : (ps.map leafL).length = n := by rw [List.length_map]; exact unhide HN
    obtain ⟨la, lc, rfl, hlc, hpat⟩ := hlv.pat
    obtain ⟨_, _, hve, _, hlcm⟩ := hlv.len
    have hlcm' : lc ≤ maxLen := by
      have := (Value.slice.inj hve).2.2
      rw [this]; exact hlcm
    rw [hlen] at hlc ⊢
    have h32 : All32 (ps.map leafL) := fun x hx => by
      obtain ⟨y, _, rfl⟩ := List.mem_map.1 hx
      exact leaf_len y
    obtain ⟨ls, hls⟩ : ∃ ls, ps.map leafL = ls := ⟨_, rfl⟩
    rw [hls] at hinv hpat h32 hlen
    have HB3 := hide (low_trans (unhide HB1) hlow)
    have HTH := hide (fun wx => there_any (level := level) (k := k) (n := n) (by omega) wx)
    clear hve hlcm hlow hlv hls HMD
    cases hb : treeB level k n with
    | false =>
      have HH := hide (logHash_bad hlog hb)
      rw [hb] at HTH
      have HBX := HB3
      clear hb hlog hinv hpat h32 hlen
      go_wp2_with (go_at_call 24; fail)
      refine (unhide HH).mono ?_
      rintro e w4 ⟨rfl, rfl⟩
      go_wp2_with (go_at_call 17; fail)
      refine (errno_any _ _).mono ?_
      rintro e w5 ⟨rfl, rfl⟩
      go_wp2_with (go_at_call 25; fail)
      refine (unhide HTH _).mono ?_
      rintro e w6 ⟨rfl, rfl⟩
      go_wp2_with (go_at_call 27; fail)
      refine (HI1 _).mono ?_
      rintro e wi1 ⟨rfl, rfl⟩
      go_wp2_with (go_at_call 28; fail)
      refine (HI2 _).mono ?_
      rintro e wi2 ⟨rfl, rfl⟩
      go_wp2_with (go_at_call 29; fail)
      refine (split_both index _).mono ?_
      rintro e ws1 ⟨SA, SB, SE, rfl, bs1, HS2⟩
      have HBs1 := hide bs1
      have HSS := hide HS2
      clear bs1 HS2
      go_wp2_with (go_at_call 30; fail)
      refine (unhide HSS _).mono ?_
      rintro e ws2 ⟨rfl, bs2⟩
      have HBs2 := hide (low_trans (unhide HBs1) bs2)
      clear bs2 HSS
      go_wp2_with (go_at_call 31; fail)
      refine (HC1 _).mono ?_
      rintro e wc1 ⟨rfl, rfl⟩
      go_wp2_with (go_at_call 32; fail)
      refine (HC2 _).mono ?_
      rintro e wc2 ⟨rfl, rfl⟩
      go_wp2_with (go_at_call 17; (refine (errno_any _ _).mono ?_; rintro e wn ⟨rfl, rfl⟩))
      go_ret
      exact ⟨by simp, low_trans (unhide HBX) (unhide HBs2)⟩
    | true =>
      rw [hb] at HTH
      obtain ⟨v, j, rfl, rfl, hv, hj⟩ := tree_in (by omega) hb
      have HH := hide (logHash_ok hlog hinv hlen (by omega) hv hj)
      obtain ⟨P, hP⟩ : ∃ P, 2 ^ v = P := ⟨_, rfl⟩
      have HPW := hide (fun wx => power_any (n := v) (q := P) (by omega) hP wx)
      have hP1 : 1 ≤ P := by rw [← hP]; exact Nat.one_le_two_pow
      rw [hP] at hj HH
      obtain ⟨s, hs'⟩ : ∃ s, j * P = s := ⟨_, rfl⟩
      rw [hs'] at HH
      obtain ⟨t, ht⟩ : ∃ t, s + P = t := ⟨_, rfl⟩
      have htn : t ≤ n := by rw [Nat.succ_mul, hs'] at hj; omega
      have e1 : (j : Int) * (P : Int) = (s : Int) := by rw [← hs']; push_cast; rfl
      have e2 : (s : Int) + (P : Int) = (t : Int) := by omega
      have e3 : s < t := by omega
      have e4 : (s : Int) ≤ (t : Int) := by omega
      have e5 : (t : Int) ≤ (lc : Int) := by omega
      have e6 : t ≤ lc := by omega
      have e7 : ¬ (lc = s) := by omega
      have e8 : s ≤ t := by omega
      obtain ⟨B, O, rfl⟩ : ∃ B O, la = some ⟨B, O, none⟩ := by
        rcases hpat.els with h0 | ⟨B, O, e, _⟩
        · rw [h0] at hlen; simp at hlen; omega
        · exact ⟨B, O, e⟩
      obtain ⟨c2, hc2⟩ : ∃ c2, lc - s = c2 := ⟨_, rfl⟩
      have hp2 : t - s = P := by omega
      have hjb : j ≤ 70 := by
        have : (j + 1) * 1 ≤ (j + 1) * P := Nat.mul_le_mul_left _ hP1
        omega
      have hl2 : ((ls.drop s).take P).length = P := by rw [List.length_take, List.length_drop]; omega
      have ha2 : All32 ((ls.drop s).take P) := fun x hx => h32 x (List.mem_of_mem_drop (List.mem_of_mem_take hx))
      have hpt := (hpat.back s).front P
      have hmt : mth 1000 ((ls.drop s).take P) = treeH v (ls.drop s) := by
        rw [mth_tree v 1000 _ hv (by rw [hl2, hP]) (by omega)]
        conv => rhs; rw [← List.take_append_drop P (ls.drop s)]
        rw [treeH_app v _ _ (by rw [hl2, hP]; exact Nat.le_refl _)]
      have HRH := hide (fun wx (hb : Below w3.heap.size w3 wx) => refHash_any 1000 (c := c2) hl2 (by omega) (by omega) (by omega) (by omega) ha2 (hpt.low hb))
      rw [hmt] at HRH
      obtain ⟨T, hT⟩ : ∃ T, treeH v (ls.drop s) = T := ⟨_, rfl⟩
      have hT32 : T.length = 32 := by
        rw [← hT, ← hmt]; exact mth_len _ _ ha2
      rw [hT] at HRH HH
      have HT32 := hide hT32
      clear hb hlog hinv hpat h32 hlen hP hs' ht hl2 ha2 hpt hmt hT hT32 hj
      go_wp2_with (go_at_call 24; fail)
      refine (unhide HH).mono ?_
      rintro e w4 ⟨ha, hc, rfl, ho4, b4⟩
      have HO4 := hide ho4
      have HB4 := hide b4
      clear ho4 b4
      go_wp2_with (go_at_call 17; fail)
      refine (errno_any _ _).mono ?_
      rintro e w5 ⟨rfl, rfl⟩
      go_wp2_with (go_at_call 25; fail)
      refine (unhide HTH _).mono ?_
      rintro e w6 ⟨rfl, rfl⟩
      go_wp2_with (go_at_call 26; fail)
      refine (unhide HPW _).mono ?_
      rintro e w7 ⟨rfl, rfl⟩
      go_wp2_with (go_at_call 17; fail)
      refine (errno_any _ _).mono ?_
      rintro e w8 ⟨rfl, rfl⟩
      go_wp2_with (go_at_call 21; fail)
      refine (unhide HRH _ (unhide HB4)).mono ?_
      rintro e w9 ⟨v9, rfl, o9, b9⟩
      obtain ⟨g9, c9, rfl, hb9⟩ := OwnB.adr o9 (unhide HT32)
      obtain ⟨ga, ca, hve4, hb4'⟩ := OwnB.adr (unhide HO4) (unhide HT32)
      obtain ⟨rfl, _, rfl⟩ := Value.slice.inj hve4
      have HSB := hide (sameBytes_any (c := hc) (c2 := c9) (unhide HT32) (unhide HT32) (by omega) (by omega) (hb4'.low b9) hb9)
      have HB9 := hide (low_trans (low_trans (unhide HB3) (unhide HB4)) b9)
      clear o9 b9 hb9 hve4 hb4' HO4 HB4
      go_wp2_with (go_at_call 20; fail)
      refine (unhide HSB).mono ?_
      rintro e w10 ⟨rfl, q, hw10⟩
      rw [show decide True = true from rfl]
      have HBX : Hid (Below w.heap.size w w10) := hide (by rw [hw10]; exact lowN (unhide HB9) _)
      clear hw10 HB9 HSB
      go_wp2_with (go_at_call 27; fail)
      refine (HI1 _).mono ?_
      rintro e wi1 ⟨rfl, rfl⟩
      go_wp2_with (go_at_call 28; fail)
      refine (HI2 _).mono ?_
      rintro e wi2 ⟨rfl, rfl⟩
      go_wp2_with (go_at_call 29; fail)
      refine (split_both index _).mono ?_
      rintro e ws1 ⟨SA, SB, SE, rfl, bs1, HS2⟩
      have HBs1 := hide bs1
      have HSS := hide HS2
      clear bs1 HS2
      go_wp2_with (go_at_call 30; fail)
      refine (unhide HSS _).mono ?_
      rintro e ws2 ⟨rfl, bs2⟩
      have HBs2 := hide (low_trans (unhide HBs1) bs2)
      clear bs2 HSS
      go_wp2_with (go_at_call 31; fail)
      refine (HC1 _).mono ?_
      rintro e wc1 ⟨rfl, rfl⟩
      go_wp2_with (go_at_call 32; fail)
      refine (HC2 _).mono ?_
      rintro e wc2 ⟨rfl, rfl⟩
      go_wp2_with (go_at_call 17; (refine (errno_any _ _).mono ?_; rintro e wn ⟨rfl, rfl⟩))
      go_ret
      exact ⟨by simp, low_trans (unhide HBX) (unhide HBs2)⟩

end Go.Proofs.YtkpmbbeidcpclaaDoor
