/-
  Archives and base64 there and back: the law's walk.
-/
import Derived.Test.YtkablmjkffdloaaGreatDoorOneW
import Derived.Test.YtkablmjkffdloaaGreatDoorB64Y
namespace Go.Proofs.YtkablmjkffdloaaGreatDoor
open Go.RowKit

theorem b64_ge : ∀ t : Bs, t.length ≤ (b64 t).length
  | [] => by simp
  | [a] => by rw [show (b64 [a]).length = 4 from grp_len [a] (by simp) (by simp)]; simp
  | [a, b] => by rw [show (b64 [a, b]).length = 4 from grp_len [a, b] (by simp) (by simp)]; simp
  | a :: b :: c :: r => by
    have h := b64_ge r
    have e : b64 (a :: b :: c :: r) = grp [a, b, c] ++ b64 r := rfl
    rw [e, List.length_append, grp_len [a, b, c] (by simp) (by simp)]
    simp
    omega
theorem sfp_n (l : List Nd) : (l.map sfP).map sfN = l := by
  rw [List.map_map]
  conv => rhs; rw [← List.map_id l]
  exact List.map_congr_left fun p _ => rfl
theorem chk_back : ∀ (l : List Nd) (seen : List Bs), chkE seen (l.map sfP) = nmE seen (l.map Prod.fst)
  | [], _ => rfl
  | p :: r, seen => by
    simp only [List.map_cons, chkE, nmE, chk_back r]
    show (if nameF p.1 = false then (1 : Int) else if lowL p.1 ∈ seen then 12 else if (crcL p.2).toNat ≠ (crcL p.2).toNat then 16 else _) = _
    rw [if_neg (c := (crcL p.2).toNat ≠ (crcL p.2).toNat) (fun h => h rfl)]
    rfl
theorem unp_of_arc {l : List Nd} (hok : ∀ p ∈ l, ndOk p) (hl : l.length ≤ 100) (hn : nmE [] (l.map Prod.fst) = 0) (hs : Stp l) (hz : 22 + sizesL l ≤ 1048576) {E : Int} (h : UnpS (arcL l) E) : E = 0 := by
  rcases h with ⟨h1, _⟩ | ⟨_, h1, _⟩ | ⟨L, _, hL, h⟩
  · rw [arc_len] at h1
    omega
  · rw [arc_back hok] at h1
    cases h1
  · rw [arc_back hok] at hL
    obtain rfl := Option.some.inj hL
    rcases h with ⟨h1, _⟩ | ⟨_, h2⟩
    · rw [List.length_map] at h1
      omega
    · rcases h2 with ⟨h3, _⟩ | ⟨_, h4⟩
      · rw [chk_back] at h3
        exact absurd hn h3
      · rcases h4 with ⟨h5, _⟩ | ⟨_, h5⟩
        · exact absurd ⟨l, by rw [sfp_n], hs, rfl, hz⟩ h5
        · exact h5
/-- What packs to b, sorted. -/
theorem pack_again {L : List Sf} {b : Bs} {xs ys : List Fl} {dat : Fl → Bs} (hd : xs.map (ndF dat) = L.map sfN) (hn : nmE [] (L.map Sf.nm) = 0) (hp : ys.Perm xs) (hr : Rising ys) (hk : Packs L b) : arcL (ys.map (ndF dat)) = b := by
  by_cases h : arcL (ys.map (ndF dat)) = b
  · exact h
  · exact absurd hk (packs_no hd hn hp hr h)
theorem nm_of {L : List Sf} {xs : List Fl} {dat : Fl → Bs} (hd : xs.map (ndF dat) = L.map sfN) : xs.map Fl.nm = L.map Sf.nm := by
  have := congrArg (List.map Prod.fst) hd
  rw [List.map_map, List.map_map] at this
  exact this
theorem good_of {L : List Sf} {b : Bs} {xs : List Fl} {dat : Fl → Bs} (hd : xs.map (ndF dat) = L.map sfN) (hl : L.length ≤ 100) (hn : nmE [] (L.map Sf.nm) = 0) (hk : Packs L b) : Good dat xs := by
  have e := congrArg List.length hd
  rw [List.length_map, List.length_map] at e
  obtain ⟨zs, h1, _, _, h4⟩ := hk
  exact ⟨by omega, by rw [nm_of hd]; exact hn, by rw [hd, ← sizes_perm h1]; exact h4⟩
theorem low_L {b : Bs} {L : List Sf} (hk : Packs L b) : ∀ p ∈ L.map sfN, p.2.length ≤ 1048576 := fun p hp => by
  obtain ⟨qs, h1, _, _, h4⟩ := hk
  have := sizes_mem (h1.mem_iff.2 hp)
  omega
theorem names_L {L : List Sf} (hc : chkE [] L = 0) : ∀ p ∈ L.map sfN, p.1.length ≤ 100000 := fun p hp => by
  obtain ⟨s, hs, rfl⟩ := List.mem_map.1 hp
  have := name_len ((chk_nm L [] hc).2 s hs)
  show s.nm.length ≤ 100000
  omega
theorem oks {dat : Fl → Bs} {w : World} {xs ys : List Fl} (hd : DatG w xs dat) (hp : ys.Perm xs) (hn : nmE [] (xs.map Fl.nm) = 0) : ∀ p ∈ ys.map (ndF dat), ndOk p := fun p hp2 => by
  obtain ⟨y, hy, rfl⟩ := List.mem_map.1 hp2
  have hx := hp.mem_iff.1 hy
  have h1 := hd.len y hx
  have h2 := hd.few y hx
  have h3 := name_len (((nmE_iff _ _).1 hn).1 y.nm (List.mem_map_of_mem hx))
  exact ⟨by show y.nm.length < 65536; omega, by show (dat y).length < 4294967296; omega⟩

set_option maxRecDepth 100000 in
set_option maxHeartbeats 8000000 in
theorem back_law {w : World} {a a1 : Option Addr} {n c m c1 : Nat} {xs : List Fl} {dx : Fl → Bs} {b s : Bs} (hg : Ml w) (hx : xs.length = n) (hn : n ≤ 9223372036854775807) (hc : n ≤ c) (ha : (a = none ∧ n = 0 ∧ c = 0) ∨ ∃ B O, a = some ⟨B, O, none⟩) (hX : FAt w a xs) (hDX : DatW w xs dx) (hm : b.length = m) (hmc : m ≤ c1) (hcm : c1 ≤ 9223372036854775807) (hf : a1 = none ∨ ∃ B O, a1 = some ⟨B, O, none⟩) (hb : BAt w a1 b) :
    Calls Tryz.prog 3 #[.slice a n c, .slice a1 m c1, .string (ba s)] w fun e w' => e = .returned (.bool true) ∧ Below w.heap.size w w' := by
  have HG := hide hg
  have HXN := hide hx
  have HA := hide ha
  have HX := hide hX
  have HDX := hide hDX
  have HM := hide hm
  have HF := hide hf
  have HBB := hide hb
  obtain ⟨z, hz⟩ : ∃ z, s.length = z := ⟨_, rfl⟩
  have hsz : (ba s).size = z := by rw [ba_size]; exact hz
  have HZL := hide hz
  clear hg hx ha hX hDX hm hf hb hz
  go_enter Tryz.func3, Tryz.ntmps3
  go_wp2_with (go_at_call 16; fail)
  refine (first_any w).mono ?_
  rintro e w2 ⟨rfl, b2⟩
  have HB2 := hide b2
  clear b2
  have K1 := hide (fewF_any (c := c) (unhide HXN) hn ((unhide HX).low (unhide HB2)))
  go_wp2_with (go_at_call 17; fail)
  refine (unhide K1).mono ?_
  rintro e wn ⟨⟨f1, rfl, hf1⟩, hwn⟩
  rw [hwn]
  clear hwn wn K1
  have HF1 := hide hf1
  clear hf1
  cases f1 with
  | false =>
    go_wp2
    go_ret
    exact ⟨rfl, unhide HB2⟩
  | true =>
    by_cases g1 : 110 < n
    · have t1 : (110 : Int) < (n : Int) := by omega
      go_wp2
      go_ret
      exact ⟨rfl, unhide HB2⟩
    have t1 : ¬ (110 : Int) < (n : Int) := by omega
    by_cases g2 : 20000 < m
    · have t2 : (20000 : Int) < (m : Int) := by omega
      go_wp2
      go_ret
      exact ⟨rfl, unhide HB2⟩
    have t2 : ¬ (20000 : Int) < (m : Int) := by omega
    by_cases g3 : 4000 < z
    · have t3 : (4000 : Int) < (z : Int) := by omega
      go_wp2
      go_ret
      exact ⟨rfl, unhide HB2⟩
    have t3 : ¬ (4000 : Int) < (z : Int) := by omega
    have hn110 : n ≤ 110 := by omega
    have hm20 : m ≤ 20000 := by omega
    have hz40 : z ≤ 4000 := by omega
    have hsx := unhide HF1 (by first | trivial | rfl)
    have HGX := hide (((unhide HDX).small hsx).low (unhide HB2))
    have HX2 := hide ((unhide HX).low (unhide HB2))
    have HG2 := hide ((unhide HG).low (unhide HB2))
    have HBB2 := hide ((unhide HBB).low (unhide HB2))
    clear hsx HF1 HX HG HDX hn g1 g2 g3 HBB
    have KP1 := hide (pack_all (unhide HG2) (unhide HXN) (unhide HA) hc (unhide HX2) (unhide HGX))
    go_wp2_with (go_at_call 18; fail)
    refine (unhide KP1).mono ?_
    rintro e w5 ⟨hp1, b5⟩
    have HB5 := hide b5
    clear b5 KP1
    rcases hp1 with ⟨-, E1, hE1, rfl⟩ | ⟨hgood, v1, ys, rfl, hper, hris, hown⟩
    · have n1 : (E1 == 0) = false := by simpa using hE1
      clear hE1
      have KU := hide (unpack_any (w := w5) (c := c1) ((unhide HG2).low (unhide HB5)) (unhide HM) hmc hcm (unhide HF) ((unhide HBB2).low (unhide HB5)))
      go_wp2_with (first | (go_at_call 19; refine (errno_any _ _).mono ?_; rintro e wn ⟨rfl, hwn⟩; rw [hwn]; clear hwn wn) | (go_at_call 20; fail))
      refine (unhide KU).mono ?_
      rintro e u1 ⟨⟨F, hus, hcase⟩, d1⟩
      have HD1 := hide (low_trans (unhide HB5) d1)
      clear d1 KU
      rcases hcase with ⟨hne, rfl⟩ | ⟨hF0, A2, L2, hL2, rfl, hfd2⟩
      · have n2 : (F == 0) = false := by simpa using hne
        clear hus hne
        have K25 := hide (base64_any (w := u1) (c := c1) (unhide HM) (by omega) hmc ((unhide HBB2).low (unhide HD1)))
        go_wp2_with (first | (go_at_call 19; refine (errno_any _ _).mono ?_; rintro e wn ⟨rfl, hwn⟩; rw [hwn]; clear hwn wn) | (go_at_call 25; fail))
        refine (unhide K25).mono ?_
        rintro e y1 ⟨rfl, c1'⟩
        have HY1 := hide (low_trans (unhide HD1) c1')
        have K24 := hide (fromB64_any (w := y1) (s := b64 b) (by
          have h1 := b64_len ((m + 2) / 3) b (by rw [unhide HM]; omega)
          omega))
        have e24 : fromE (b64 b) = 0 := by unfold fromE; rw [from_b64]; rfl
        have v24 : fromV (b64 b) = b := by unfold fromV; rw [from_b64]; rfl
        rw [e24, v24] at K24
        clear c1' K25 e24 v24
        go_wp2_with (go_at_call 24; fail)
        refine (unhide K24).mono ?_
        rintro e y2 ⟨x2, rfl, o2', c2'⟩
        have HY2 := hide (low_trans (unhide HY1) c2')
        obtain ⟨xa, xc, rfl, hxat, -, -⟩ := OwnB.at o2'
        rw [unhide HM]
        have HXA := hide hxat
        clear hxat o2' c2' K24
        have K24' := hide (fromB64_any (w := y2) (s := s) (by have := unhide HZL; omega))
        obtain ⟨FE, hFE⟩ : ∃ FE, fromE s = FE := ⟨_, rfl⟩
        rw [hFE] at K24'
        have HFE := hide hFE
        clear hFE
        go_wp2_with (go_at_call 24; fail)
        refine (unhide K24').mono ?_
        rintro e y3 ⟨x3, rfl, o3, c3'⟩
        have HY3 := hide (low_trans (unhide HY2) c3')
        have HO3 := hide o3
        have KS9 := hide (sameBytes_any (w := y3) (c := xc) (c2 := c1) (unhide HM) (unhide HM) (by omega) (by omega) ((unhide HXA).low c3') ((unhide HBB2).low (unhide HY3)))
        rw [decide_eq_true rfl] at KS9
        clear o3 c3' K24'
        go_wp2_with (go_at_call 23; fail)
        refine (unhide KS9).mono ?_
        rintro e y4 ⟨rfl, q4, hy4⟩
        have b34 : Below y3.heap.size y3 y4 := by rw [hy4]; exact low_q _
        have HY4 := hide (low_trans (unhide HY3) b34)
        have HO4 := hide (OwnB.low (unhide HO3) b34)
        clear hy4 b34 KS9
        cases hfl : fromL s with
        | none =>
          have hFE1 : FE = 15 := by
            rw [← unhide HFE]
            unfold fromE
            rw [hfl]
            rfl
          subst hFE1
          have HZ : Hid (Below w.heap.size w y4) := hide (low_trans (unhide HB2) (unhide HY4))
          clear hfl
          go_wp2_with (go_at_call 19; refine (errno_any _ _).mono ?_; rintro e wn ⟨rfl, hwn⟩; rw [hwn]; clear hwn wn)
          go_ret
          exact ⟨rfl, unhide HZ⟩
        | some t =>
          have hFE0 : FE = 0 := by
            rw [← unhide HFE]
            unfold fromE
            rw [hfl]
            rfl
          subst hFE0
          have hfv : fromV s = t := by unfold fromV; rw [hfl]; rfl
          have ho := unhide HO4
          rw [hfv] at ho
          have hts := from_some hfl
          obtain ⟨ta, tc, rfl, htat, htc, -⟩ := OwnB.at ho
          have htl : t.length ≤ 268435456 := by
            have h1 := b64_len4 t
            have h2 := congrArg List.length hts
            have h3 := unhide HZL
            have h4 := b64_ge t
            omega
          have K9 := hide (base64_any (w := y4) (c := tc) rfl htl htc htat)
          rw [hts] at K9
          obtain ⟨tl, htll⟩ : ∃ tl, t.length = tl := ⟨_, rfl⟩
          rw [htll] at K9
          rw [htll]
          have ss : ((ba s).toList == (ba s).toList) = true := by simp
          have ss3 : (s == (ba s).toList) = true := by rw [baL_list]; simp
          clear hfl hfv ho hts htat htc htl htll
          go_wp2_with (first | (go_at_call 19; refine (errno_any _ _).mono ?_; rintro e wn ⟨rfl, hwn⟩; rw [hwn]; clear hwn wn) | (go_at_call 25; fail))
          refine (unhide K9).mono ?_
          rintro e y5 ⟨rfl, c5'⟩
          have HZ : Hid (Below w.heap.size w y5) := hide (low_trans (unhide HB2) (low_trans (unhide HY4) c5'))
          clear c5' K9
          go_wp2
          go_ret
          exact ⟨rfl, unhide HZ⟩
      · subst hF0
        obtain ⟨hl100, hpk, hck, -⟩ := unp_ok hus hL2
        obtain ⟨zs, dz, hzn, hzat, hzd, hze⟩ := hfd2.datg (low_L hpk) (names_L hck)
        have hn0 := (chk_nm L2 [] hck).1
        have hgd := good_of hze hl100 hn0 hpk
        rw [List.length_map] at hzn
        have KP2 := hide (pack_all (w := u1) (c := L2.length) (dat := dz) ((unhide HG2).low (unhide HD1)) hzn (Or.inr ⟨_, _, rfl⟩) (Nat.le_refl _) hzat hzd)
        have HAG : Hid (∀ ws : List Fl, ws.Perm zs → Rising ws → arcL (ws.map (ndF dz)) = b) := hide (fun ws h1 h2 => pack_again hze hn0 h1 h2 hpk)
        have HGD2 := hide hgd
        obtain ⟨kl, hkl⟩ : ∃ kl, L2.length = kl := ⟨_, rfl⟩
        rw [hkl] at KP2
        rw [hkl]
        clear hus hL2 hfd2 hl100 hpk hck hzn hzat hzd hze hn0 hgd hkl
        go_wp2_with (first | (go_at_call 19; refine (errno_any _ _).mono ?_; rintro e wn ⟨rfl, hwn⟩; rw [hwn]; clear hwn wn) | (go_at_call 18; fail))
        refine (unhide KP2).mono ?_
        rintro e u2 ⟨hp2, d2⟩
        have HD2 := hide (low_trans (unhide HD1) d2)
        clear d2 KP2
        rcases hp2 with ⟨hbad, -⟩ | ⟨-, v2, ws, rfl, hwp, hwr, how⟩
        · exact absurd (unhide HGD2) hbad
        · rw [unhide HAG ws hwp hwr] at how
          obtain ⟨o1, o2, rfl, hoat, -, -⟩ := OwnB.at how
          rw [unhide HM]
          have KS := hide (sameBytes_any (w := u2) (c := o2) (c2 := c1) (unhide HM) (unhide HM) (by omega) (by omega) hoat ((unhide HBB2).low (unhide HD2)))
          rw [decide_eq_true rfl] at KS
          clear hwp hwr how hoat HAG HGD2
          go_wp2_with (first | (go_at_call 19; refine (errno_any _ _).mono ?_; rintro e wn ⟨rfl, hwn⟩; rw [hwn]; clear hwn wn) | (go_at_call 23; fail))
          refine (unhide KS).mono ?_
          rintro e u3 ⟨rfl, q3, hu3⟩
          have HD3 := hide (low_trans (unhide HD2) (by rw [hu3]; exact low_q _ : Below u2.heap.size u2 u3))
          clear hu3 KS
          have K25 := hide (base64_any (w := u3) (c := c1) (unhide HM) (by omega) hmc ((unhide HBB2).low (unhide HD3)))
          go_wp2_with (first | (go_at_call 19; refine (errno_any _ _).mono ?_; rintro e wn ⟨rfl, hwn⟩; rw [hwn]; clear hwn wn) | (go_at_call 25; fail))
          refine (unhide K25).mono ?_
          rintro e y1 ⟨rfl, c1'⟩
          have HY1 := hide (low_trans (unhide HD3) c1')
          have K24 := hide (fromB64_any (w := y1) (s := b64 b) (by
            have h1 := b64_len ((m + 2) / 3) b (by rw [unhide HM]; omega)
            omega))
          have e24 : fromE (b64 b) = 0 := by unfold fromE; rw [from_b64]; rfl
          have v24 : fromV (b64 b) = b := by unfold fromV; rw [from_b64]; rfl
          rw [e24, v24] at K24
          clear c1' K25 e24 v24
          go_wp2_with (go_at_call 24; fail)
          refine (unhide K24).mono ?_
          rintro e y2 ⟨x2, rfl, o2', c2'⟩
          have HY2 := hide (low_trans (unhide HY1) c2')
          obtain ⟨xa, xc, rfl, hxat, -, -⟩ := OwnB.at o2'
          rw [unhide HM]
          have HXA := hide hxat
          clear hxat o2' c2' K24
          have K24' := hide (fromB64_any (w := y2) (s := s) (by have := unhide HZL; omega))
          obtain ⟨FE, hFE⟩ : ∃ FE, fromE s = FE := ⟨_, rfl⟩
          rw [hFE] at K24'
          have HFE := hide hFE
          clear hFE
          go_wp2_with (go_at_call 24; fail)
          refine (unhide K24').mono ?_
          rintro e y3 ⟨x3, rfl, o3, c3'⟩
          have HY3 := hide (low_trans (unhide HY2) c3')
          have HO3 := hide o3
          have KS9 := hide (sameBytes_any (w := y3) (c := xc) (c2 := c1) (unhide HM) (unhide HM) (by omega) (by omega) ((unhide HXA).low c3') ((unhide HBB2).low (unhide HY3)))
          rw [decide_eq_true rfl] at KS9
          clear o3 c3' K24'
          go_wp2_with (go_at_call 23; fail)
          refine (unhide KS9).mono ?_
          rintro e y4 ⟨rfl, q4, hy4⟩
          have b34 : Below y3.heap.size y3 y4 := by rw [hy4]; exact low_q _
          have HY4 := hide (low_trans (unhide HY3) b34)
          have HO4 := hide (OwnB.low (unhide HO3) b34)
          clear hy4 b34 KS9
          cases hfl : fromL s with
          | none =>
            have hFE1 : FE = 15 := by
              rw [← unhide HFE]
              unfold fromE
              rw [hfl]
              rfl
            subst hFE1
            have HZ : Hid (Below w.heap.size w y4) := hide (low_trans (unhide HB2) (unhide HY4))
            clear hfl
            go_wp2_with (go_at_call 19; refine (errno_any _ _).mono ?_; rintro e wn ⟨rfl, hwn⟩; rw [hwn]; clear hwn wn)
            go_ret
            exact ⟨rfl, unhide HZ⟩
          | some t =>
            have hFE0 : FE = 0 := by
              rw [← unhide HFE]
              unfold fromE
              rw [hfl]
              rfl
            subst hFE0
            have hfv : fromV s = t := by unfold fromV; rw [hfl]; rfl
            have ho := unhide HO4
            rw [hfv] at ho
            have hts := from_some hfl
            obtain ⟨ta, tc, rfl, htat, htc, -⟩ := OwnB.at ho
            have htl : t.length ≤ 268435456 := by
              have h1 := b64_len4 t
              have h2 := congrArg List.length hts
              have h3 := unhide HZL
              have h4 := b64_ge t
              omega
            have K9 := hide (base64_any (w := y4) (c := tc) rfl htl htc htat)
            rw [hts] at K9
            obtain ⟨tl, htll⟩ : ∃ tl, t.length = tl := ⟨_, rfl⟩
            rw [htll] at K9
            rw [htll]
            have ss : ((ba s).toList == (ba s).toList) = true := by simp
            have ss3 : (s == (ba s).toList) = true := by rw [baL_list]; simp
            clear hfl hfv ho hts htat htc htl htll
            go_wp2_with (first | (go_at_call 19; refine (errno_any _ _).mono ?_; rintro e wn ⟨rfl, hwn⟩; rw [hwn]; clear hwn wn) | (go_at_call 25; fail))
            refine (unhide K9).mono ?_
            rintro e y5 ⟨rfl, c5'⟩
            have HZ : Hid (Below w.heap.size w y5) := hide (low_trans (unhide HB2) (low_trans (unhide HY4) c5'))
            clear c5' K9
            go_wp2
            go_ret
            exact ⟨rfl, unhide HZ⟩
    · obtain ⟨g1, k1, rfl, -, hg1, hzc, hkm, -, -⟩ := OwnB.val hown (by have := arc_pos (ys.map (ndF dx)); omega)
      obtain ⟨Z, hZ⟩ : ∃ Z, arcL (ys.map (ndF dx)) = Z := ⟨_, rfl⟩
      have hz1 : BAt w5 (some ⟨g1, 0, none⟩) (arcL (ys.map (ndF dx))) := by
        obtain ⟨a', c', hv, hat, -, -⟩ := OwnB.at hown
        injection hv with q1 q2 q3
        rw [q1]
        exact hat
      rw [hZ] at hzc hz1
      rw [hZ]
      have HPZ : Hid (∀ E, UnpS Z E → E = 0) := hide (fun E h => by
        rw [← hZ] at h
        exact unp_of_arc (oks (unhide HGX) hper hgood.2.1) (by rw [List.length_map, hper.length_eq]; exact hgood.1) (by
          rw [List.map_map]
          exact (nmE_perm (hper.map Fl.nm)).2 hgood.2.1) (stp_of hris ((hper.map Fl.nm).nodup_iff.2 (nmE_nodup _ _ hgood.2.1).1)) (by rw [sizes_perm (hper.map (ndF dx))]; exact hgood.2.2) h)
      have HPL : Hid (headsR Z = some ((ys.map (ndF dx)).map sfP)) := hide (by rw [← hZ]; exact arc_back (oks (unhide HGX) hper hgood.2.1))
      obtain ⟨zl, hzl⟩ : ∃ zl, Z.length = zl := ⟨_, rfl⟩
      rw [hzl] at hzc
      rw [hzl]
      have HGD := hide (And.intro hgood (And.intro hper hris))
      have KU1 := hide (unpack_any (w := w5) (c := k1) ((unhide HG2).low (unhide HB5)) hzl hzc (by unfold maxLen at hkm; omega) (Or.inr ⟨_, _, rfl⟩) hz1)
      clear hgood hper hris hown hz1 hZ hzl
      go_wp2_with (first | (go_at_call 19; refine (errno_any _ _).mono ?_; rintro e wn ⟨rfl, hwn⟩; rw [hwn]; clear hwn wn) | (go_at_call 20; fail))
      refine (unhide KU1).mono ?_
      rintro e w6 ⟨⟨E, hus, hcase⟩, b6⟩
      obtain rfl := unhide HPZ E hus
      rcases hcase with ⟨hne, -⟩ | ⟨-, A, L, hL, rfl, hfd⟩
      · exact absurd rfl hne
      rw [unhide HPL] at hL
      obtain rfl := Option.some.inj hL
      rw [sfp_n] at hfd
      have hyl : ys.length = n := by rw [(unhide HGD).2.1.length_eq]; exact unhide HXN
      rw [List.length_map, List.length_map, hyl]
      have HYL := hide hyl
      have HFD := hide hfd.at
      have HB6 := hide (low_trans (unhide HB5) b6)
      have KB := hide (refByName_any (c := c) (unhide HXN) (by omega) ((unhide HX2).low (unhide HB6)))
      clear hus hfd b6 KU1 hL hyl HPZ HPL
      go_wp2_with (first | (go_at_call 19; refine (errno_any _ _).mono ?_; rintro e wn ⟨rfl, hwn⟩; rw [hwn]; clear hwn wn) | (go_at_call 22; fail))
      refine (unhide KB).mono ?_
      rintro e w7 ⟨v7, ys3, rfl, hr7, hp3, hi3, b7⟩
      obtain ⟨a3, c3, rfl, hat3, -⟩ := FRow.at hr7
      have hl3 : ys3.length = n := by rw [hp3.length_eq]; exact unhide HXN
      rw [hl3]
      have hd3 := ((unhide HGX).low (low_trans (unhide HB6) b7)).perm hp3
      have hsame : ys.map (ndF dx) = ys3.map (ndF dx) := arcs_same (unhide HGD).1.2.1 (unhide HGD).2.1 hp3 (unhide HGD).2.2 hi3
      have hbnd : ∀ x ∈ ys3.map (ndF dx), x.2.length ≤ 1073741824 := fun x hx => by
        obtain ⟨y, hy, rfl⟩ := List.mem_map.1 hx
        have h1 := hd3.len y hy
        have h2 := hd3.few y hy
        show (dx y).length ≤ 1073741824
        omega
      have KF := hide (sameFd_any (w := w7) (c := n) (c2 := c3) (by rw [List.length_map]; exact unhide HYL : (ys.map (ndF dx)).length = n) (by rw [List.length_map]; exact hl3 : (ys3.map (ndF dx)).length = n) (by omega) (by omega) (by rw [hsame]; exact hbnd) hbnd ((unhide HFD).low b7) (fd_of hat3 hd3))
      rw [decide_eq_true hsame] at KF
      have HB7 := hide (low_trans (unhide HB6) b7)
      clear hr7 hp3 hi3 b7 hat3 hl3 hd3 hsame hbnd KB
      go_wp2_with (go_at_call 21; fail)
      refine (unhide KF).mono ?_
      rintro e w8 ⟨rfl, q8, hw8⟩
      have HB8 := hide (low_trans (unhide HB7) (by rw [hw8]; exact low_q _ : Below w7.heap.size w7 w8))
      clear hw8 KF
      have KU := hide (unpack_any (w := w8) (c := c1) ((unhide HG2).low (unhide HB8)) (unhide HM) hmc hcm (unhide HF) ((unhide HBB2).low (unhide HB8)))
      go_wp2_with (first | (go_at_call 19; refine (errno_any _ _).mono ?_; rintro e wn ⟨rfl, hwn⟩; rw [hwn]; clear hwn wn) | (go_at_call 20; fail))
      refine (unhide KU).mono ?_
      rintro e u1 ⟨⟨F, hus, hcase⟩, d1⟩
      have HD1 := hide (low_trans (unhide HB8) d1)
      clear d1 KU
      rcases hcase with ⟨hne, rfl⟩ | ⟨hF0, A2, L2, hL2, rfl, hfd2⟩
      · have n2 : (F == 0) = false := by simpa using hne
        clear hus hne
        have K25 := hide (base64_any (w := u1) (c := c1) (unhide HM) (by omega) hmc ((unhide HBB2).low (unhide HD1)))
        go_wp2_with (first | (go_at_call 19; refine (errno_any _ _).mono ?_; rintro e wn ⟨rfl, hwn⟩; rw [hwn]; clear hwn wn) | (go_at_call 25; fail))
        refine (unhide K25).mono ?_
        rintro e y1 ⟨rfl, c1'⟩
        have HY1 := hide (low_trans (unhide HD1) c1')
        have K24 := hide (fromB64_any (w := y1) (s := b64 b) (by
          have h1 := b64_len ((m + 2) / 3) b (by rw [unhide HM]; omega)
          omega))
        have e24 : fromE (b64 b) = 0 := by unfold fromE; rw [from_b64]; rfl
        have v24 : fromV (b64 b) = b := by unfold fromV; rw [from_b64]; rfl
        rw [e24, v24] at K24
        clear c1' K25 e24 v24
        go_wp2_with (go_at_call 24; fail)
        refine (unhide K24).mono ?_
        rintro e y2 ⟨x2, rfl, o2', c2'⟩
        have HY2 := hide (low_trans (unhide HY1) c2')
        obtain ⟨xa, xc, rfl, hxat, -, -⟩ := OwnB.at o2'
        rw [unhide HM]
        have HXA := hide hxat
        clear hxat o2' c2' K24
        have K24' := hide (fromB64_any (w := y2) (s := s) (by have := unhide HZL; omega))
        obtain ⟨FE, hFE⟩ : ∃ FE, fromE s = FE := ⟨_, rfl⟩
        rw [hFE] at K24'
        have HFE := hide hFE
        clear hFE
        go_wp2_with (go_at_call 24; fail)
        refine (unhide K24').mono ?_
        rintro e y3 ⟨x3, rfl, o3, c3'⟩
        have HY3 := hide (low_trans (unhide HY2) c3')
        have HO3 := hide o3
        have KS9 := hide (sameBytes_any (w := y3) (c := xc) (c2 := c1) (unhide HM) (unhide HM) (by omega) (by omega) ((unhide HXA).low c3') ((unhide HBB2).low (unhide HY3)))
        rw [decide_eq_true rfl] at KS9
        clear o3 c3' K24'
        go_wp2_with (go_at_call 23; fail)
        refine (unhide KS9).mono ?_
        rintro e y4 ⟨rfl, q4, hy4⟩
        have b34 : Below y3.heap.size y3 y4 := by rw [hy4]; exact low_q _
        have HY4 := hide (low_trans (unhide HY3) b34)
        have HO4 := hide (OwnB.low (unhide HO3) b34)
        clear hy4 b34 KS9
        cases hfl : fromL s with
        | none =>
          have hFE1 : FE = 15 := by
            rw [← unhide HFE]
            unfold fromE
            rw [hfl]
            rfl
          subst hFE1
          have HZ : Hid (Below w.heap.size w y4) := hide (low_trans (unhide HB2) (unhide HY4))
          clear hfl
          go_wp2_with (go_at_call 19; refine (errno_any _ _).mono ?_; rintro e wn ⟨rfl, hwn⟩; rw [hwn]; clear hwn wn)
          go_ret
          exact ⟨rfl, unhide HZ⟩
        | some t =>
          have hFE0 : FE = 0 := by
            rw [← unhide HFE]
            unfold fromE
            rw [hfl]
            rfl
          subst hFE0
          have hfv : fromV s = t := by unfold fromV; rw [hfl]; rfl
          have ho := unhide HO4
          rw [hfv] at ho
          have hts := from_some hfl
          obtain ⟨ta, tc, rfl, htat, htc, -⟩ := OwnB.at ho
          have htl : t.length ≤ 268435456 := by
            have h1 := b64_len4 t
            have h2 := congrArg List.length hts
            have h3 := unhide HZL
            have h4 := b64_ge t
            omega
          have K9 := hide (base64_any (w := y4) (c := tc) rfl htl htc htat)
          rw [hts] at K9
          obtain ⟨tl, htll⟩ : ∃ tl, t.length = tl := ⟨_, rfl⟩
          rw [htll] at K9
          rw [htll]
          have ss : ((ba s).toList == (ba s).toList) = true := by simp
          have ss3 : (s == (ba s).toList) = true := by rw [baL_list]; simp
          clear hfl hfv ho hts htat htc htl htll
          go_wp2_with (first | (go_at_call 19; refine (errno_any _ _).mono ?_; rintro e wn ⟨rfl, hwn⟩; rw [hwn]; clear hwn wn) | (go_at_call 25; fail))
          refine (unhide K9).mono ?_
          rintro e y5 ⟨rfl, c5'⟩
          have HZ : Hid (Below w.heap.size w y5) := hide (low_trans (unhide HB2) (low_trans (unhide HY4) c5'))
          clear c5' K9
          go_wp2
          go_ret
          exact ⟨rfl, unhide HZ⟩
      · subst hF0
        obtain ⟨hl100, hpk, hck, -⟩ := unp_ok hus hL2
        obtain ⟨zs, dz, hzn, hzat, hzd, hze⟩ := hfd2.datg (low_L hpk) (names_L hck)
        have hn0 := (chk_nm L2 [] hck).1
        have hgd := good_of hze hl100 hn0 hpk
        rw [List.length_map] at hzn
        have KP2 := hide (pack_all (w := u1) (c := L2.length) (dat := dz) ((unhide HG2).low (unhide HD1)) hzn (Or.inr ⟨_, _, rfl⟩) (Nat.le_refl _) hzat hzd)
        have HAG : Hid (∀ ws : List Fl, ws.Perm zs → Rising ws → arcL (ws.map (ndF dz)) = b) := hide (fun ws h1 h2 => pack_again hze hn0 h1 h2 hpk)
        have HGD2 := hide hgd
        obtain ⟨kl, hkl⟩ : ∃ kl, L2.length = kl := ⟨_, rfl⟩
        rw [hkl] at KP2
        rw [hkl]
        clear hus hL2 hfd2 hl100 hpk hck hzn hzat hzd hze hn0 hgd hkl
        go_wp2_with (first | (go_at_call 19; refine (errno_any _ _).mono ?_; rintro e wn ⟨rfl, hwn⟩; rw [hwn]; clear hwn wn) | (go_at_call 18; fail))
        refine (unhide KP2).mono ?_
        rintro e u2 ⟨hp2, d2⟩
        have HD2 := hide (low_trans (unhide HD1) d2)
        clear d2 KP2
        rcases hp2 with ⟨hbad, -⟩ | ⟨-, v2, ws, rfl, hwp, hwr, how⟩
        · exact absurd (unhide HGD2) hbad
        · rw [unhide HAG ws hwp hwr] at how
          obtain ⟨o1, o2, rfl, hoat, -, -⟩ := OwnB.at how
          rw [unhide HM]
          have KS := hide (sameBytes_any (w := u2) (c := o2) (c2 := c1) (unhide HM) (unhide HM) (by omega) (by omega) hoat ((unhide HBB2).low (unhide HD2)))
          rw [decide_eq_true rfl] at KS
          clear hwp hwr how hoat HAG HGD2
          go_wp2_with (first | (go_at_call 19; refine (errno_any _ _).mono ?_; rintro e wn ⟨rfl, hwn⟩; rw [hwn]; clear hwn wn) | (go_at_call 23; fail))
          refine (unhide KS).mono ?_
          rintro e u3 ⟨rfl, q3, hu3⟩
          have HD3 := hide (low_trans (unhide HD2) (by rw [hu3]; exact low_q _ : Below u2.heap.size u2 u3))
          clear hu3 KS
          have K25 := hide (base64_any (w := u3) (c := c1) (unhide HM) (by omega) hmc ((unhide HBB2).low (unhide HD3)))
          go_wp2_with (first | (go_at_call 19; refine (errno_any _ _).mono ?_; rintro e wn ⟨rfl, hwn⟩; rw [hwn]; clear hwn wn) | (go_at_call 25; fail))
          refine (unhide K25).mono ?_
          rintro e y1 ⟨rfl, c1'⟩
          have HY1 := hide (low_trans (unhide HD3) c1')
          have K24 := hide (fromB64_any (w := y1) (s := b64 b) (by
            have h1 := b64_len ((m + 2) / 3) b (by rw [unhide HM]; omega)
            omega))
          have e24 : fromE (b64 b) = 0 := by unfold fromE; rw [from_b64]; rfl
          have v24 : fromV (b64 b) = b := by unfold fromV; rw [from_b64]; rfl
          rw [e24, v24] at K24
          clear c1' K25 e24 v24
          go_wp2_with (go_at_call 24; fail)
          refine (unhide K24).mono ?_
          rintro e y2 ⟨x2, rfl, o2', c2'⟩
          have HY2 := hide (low_trans (unhide HY1) c2')
          obtain ⟨xa, xc, rfl, hxat, -, -⟩ := OwnB.at o2'
          rw [unhide HM]
          have HXA := hide hxat
          clear hxat o2' c2' K24
          have K24' := hide (fromB64_any (w := y2) (s := s) (by have := unhide HZL; omega))
          obtain ⟨FE, hFE⟩ : ∃ FE, fromE s = FE := ⟨_, rfl⟩
          rw [hFE] at K24'
          have HFE := hide hFE
          clear hFE
          go_wp2_with (go_at_call 24; fail)
          refine (unhide K24').mono ?_
          rintro e y3 ⟨x3, rfl, o3, c3'⟩
          have HY3 := hide (low_trans (unhide HY2) c3')
          have HO3 := hide o3
          have KS9 := hide (sameBytes_any (w := y3) (c := xc) (c2 := c1) (unhide HM) (unhide HM) (by omega) (by omega) ((unhide HXA).low c3') ((unhide HBB2).low (unhide HY3)))
          rw [decide_eq_true rfl] at KS9
          clear o3 c3' K24'
          go_wp2_with (go_at_call 23; fail)
          refine (unhide KS9).mono ?_
          rintro e y4 ⟨rfl, q4, hy4⟩
          have b34 : Below y3.heap.size y3 y4 := by rw [hy4]; exact low_q _
          have HY4 := hide (low_trans (unhide HY3) b34)
          have HO4 := hide (OwnB.low (unhide HO3) b34)
          clear hy4 b34 KS9
          cases hfl : fromL s with
          | none =>
            have hFE1 : FE = 15 := by
              rw [← unhide HFE]
              unfold fromE
              rw [hfl]
              rfl
            subst hFE1
            have HZ : Hid (Below w.heap.size w y4) := hide (low_trans (unhide HB2) (unhide HY4))
            clear hfl
            go_wp2_with (go_at_call 19; refine (errno_any _ _).mono ?_; rintro e wn ⟨rfl, hwn⟩; rw [hwn]; clear hwn wn)
            go_ret
            exact ⟨rfl, unhide HZ⟩
          | some t =>
            have hFE0 : FE = 0 := by
              rw [← unhide HFE]
              unfold fromE
              rw [hfl]
              rfl
            subst hFE0
            have hfv : fromV s = t := by unfold fromV; rw [hfl]; rfl
            have ho := unhide HO4
            rw [hfv] at ho
            have hts := from_some hfl
            obtain ⟨ta, tc, rfl, htat, htc, -⟩ := OwnB.at ho
            have htl : t.length ≤ 268435456 := by
              have h1 := b64_len4 t
              have h2 := congrArg List.length hts
              have h3 := unhide HZL
              have h4 := b64_ge t
              omega
            have K9 := hide (base64_any (w := y4) (c := tc) rfl htl htc htat)
            rw [hts] at K9
            obtain ⟨tl, htll⟩ : ∃ tl, t.length = tl := ⟨_, rfl⟩
            rw [htll] at K9
            rw [htll]
            have ss : ((ba s).toList == (ba s).toList) = true := by simp
            have ss3 : (s == (ba s).toList) = true := by rw [baL_list]; simp
            clear hfl hfv ho hts htat htc htl htll
            go_wp2_with (first | (go_at_call 19; refine (errno_any _ _).mono ?_; rintro e wn ⟨rfl, hwn⟩; rw [hwn]; clear hwn wn) | (go_at_call 25; fail))
            refine (unhide K9).mono ?_
            rintro e y5 ⟨rfl, c5'⟩
            have HZ : Hid (Below w.heap.size w y5) := hide (low_trans (unhide HB2) (low_trans (unhide HY4) c5'))
            clear c5' K9
            go_wp2
            go_ret
            exact ⟨rfl, unhide HZ⟩
end Go.Proofs.YtkablmjkffdloaaGreatDoor
