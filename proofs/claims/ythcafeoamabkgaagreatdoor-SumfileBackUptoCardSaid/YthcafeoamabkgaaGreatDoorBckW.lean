/-
  SumfileBack: the law's walk.
-/
import Derived.Test.YthcafeoamabkgaaGreatDoorVfX
import Derived.Test.YthcafeoamabkgaaGreatDoorSmlA
import Derived.Test.YthcafeoamabkgaaGreatDoorMgd
import Derived.Deep.RegionHeld3
namespace Go.Proofs.YthcafeoamabkgaaGreatDoor
open Go.RowKit

theorem vends_text {w : World} {zs : List VE} (hk : ∀ z ∈ zs, VdIn w z 1048576) (hl : zs.length ≤ 60) (hp : ∀ z ∈ zs, z.1.pk.length ≤ 60) : (vtextL (zs.map Prod.fst)).length ≤ 4000000000 := by
  have one : ∀ z ∈ zs, (vdT z.1).length ≤ 66000000 := fun z hz => by
    obtain ⟨_, _, _, h4, _, h6⟩ := hk z hz
    have h7 := hp z hz
    have key : ∀ l : List Str, (∀ p ∈ l, p.length ≤ 1048576) → (frontL l).length ≤ l.length * 1048577 := by
      intro l
      induction l with
      | nil => intro _; exact Nat.le_refl _
      | cons p l ih =>
        intro h
        have e : frontL (p :: l) = (p ++ [10]) ++ frontL l := by simp [frontL]
        have h1 := h p (by simp)
        have h2 := ih fun q hq => h q (List.mem_cons_of_mem _ hq)
        have e2 : (frontL (p :: l)).length = p.length + 1 + (frontL l).length := by rw [e]; simp; omega
        rw [e2, List.length_cons]
        omega
    have h8 := key z.1.pk h6
    have e : (vdT z.1).length = (headT z.1.m).length + 1 + (frontL (if z.1.x = true then [explL] else [])).length + (frontL z.1.pk).length := by
      have e1 : vdT z.1 = (headT z.1.m ++ [10]) ++ (frontL (if z.1.x = true then [explL] else []) ++ frontL z.1.pk) := by
        unfold vdT vdLs
        rw [← frontL_append]
        simp [frontL]
      rw [e1]
      simp
      omega
    have h9 : (frontL (if z.1.x = true then [explL] else [])).length ≤ 12 := by split <;> decide
    have h10 : (headT z.1.m).length = 3 + z.1.m.1.length + z.1.m.2.length := by unfold headT; simp; omega
    omega
  have all : ∀ l : List VE, (∀ z ∈ l, (vdT z.1).length ≤ 66000000) → (vtextL (l.map Prod.fst)).length ≤ l.length * 66000000 := by
    intro l
    induction l with
    | nil => intro _; exact Nat.le_refl _
    | cons z l ih =>
      intro h
      have h1 := h z (by simp)
      have h2 := ih fun q hq => h q (List.mem_cons_of_mem _ hq)
      rw [List.map_cons, vtext_cons, List.length_append, List.length_cons]
      omega
  have := all zs one
  omega

/-- What the law knows of its arguments. -/
structure BIn (w : World) (a : Option Addr) (n : Nat) (xs : List Ln) (b : Option Addr) (m : Nat) (zs : List VE) : Prop where
  g : Gd w
  n : xs.length = n
  l : LRow w a xs
  p : PlainA a
  s : Shorts xs
  m : zs.length = m
  v : RowV w b zs
  q : PlainA b
  k : ∀ z ∈ zs, VdIn w z 1048576

theorem VdIn.packs {w w' : World} {zs : List VE} (h : ∀ z ∈ zs, VdIn w z 1048576) (hp : ∀ z ∈ zs, z.1.pk.length ≤ 60) (hb : Below w.heap.size w w') : PacksR w' zs := fun z hz => by
  obtain ⟨h1, h2, h3, _, h5, _⟩ := h z hz
  have := hp z hz
  exact ⟨h1, by omega, h2, h3.low hb⟩

set_option maxRecDepth 100000 in
set_option maxHeartbeats 40000000 in
theorem back_law {w : World} {a : Option Addr} {n c : Nat} {xs : List Ln} {b : Option Addr} {m d : Nat} {zs : List VE} {t r : Str} (h : BIn w a n xs b m zs) (ht6 : t.length ≤ 1048576) (hr6 : r.length ≤ 1048576) :
    Calls Tryz.prog 3 #[.string (ba t), .slice a n c, .string (ba r), .slice b m d] w fun e w' => e = .returned (.bool true) ∧ Below w.heap.size w w' := by
  have H := hide h
  have htz := ba_size t
  have hrz := ba_size r
  clear h
  go_enter Tryz.func3, Tryz.ntmps3
  go_wp2_with (go_at_call 11; fail)
  refine (first_any (unhide H).g).mono ?_
  rintro e w1 ⟨rfl, b1⟩
  have B1 := hide b1
  have F1 := hide (fewL_any (c := c) (unhide H).n ((unhide H).l.low b1))
  clear b1
  go_wp2_with (go_at_call 12; fail)
  refine (unhide F1).mono ?_
  rintro e w2 ⟨⟨r1, rfl, hr1⟩, q, hw⟩
  rw [hw]; clear hw w2 F1
  cases r1 with
  | false =>
    clear hr1
    go_wp2
    go_ret
    exact ⟨rfl, low_drewN (unhide B1) q⟩
  | true =>
  have hn100 := hr1 rfl
  clear hr1
  have S1 := hide (small_any (w := w1.drewN q) (c := d) (N := 1048576) (unhide H).m ((unhide H).v.low (low_drewN (unhide B1) q)) (fun z hz => by
    obtain ⟨h1, h2, h3, h4⟩ := (unhide H).k z hz
    exact ⟨h1, h2, h3.low (low_drewN (unhide B1) q), h4⟩) (Nat.le_refl _))
  go_wp2_with (go_at_call 13; fail)
  refine (unhide S1).mono ?_
  rintro e w2 ⟨⟨r1, rfl, hr1⟩, q2, hw⟩
  rw [hw]; clear hw w2 S1
  cases r1 with
  | false =>
    clear hr1
    go_wp2
    go_ret
    exact ⟨rfl, low_drewN (unhide B1) (q + q2)⟩
  | true =>
  obtain ⟨hm60, hpk⟩ := hr1 rfl
  have HPK := hide hpk
  clear hr1 hpk
  obtain ⟨W, hW⟩ : ∃ W, (w1.drewN q).drewN q2 = W := ⟨_, rfl⟩
  have BW : Hid (Below w.heap.size w W) := hide (by rw [← hW]; exact low_drewN (low_drewN (unhide B1) q) q2)
  rw [hW]
  clear hW
  rcases Nat.lt_or_ge 8000 t.length with h8 | h8
  · have g1 : (8000 : Int) < (t.length : Int) := by omega
    go_wp2
    go_ret
    exact ⟨rfl, unhide BW⟩
  have g1 : ¬ (8000 : Int) < (t.length : Int) := by omega
  rcases Nat.lt_or_ge 8000 r.length with k8 | k8
  · have g2 : (8000 : Int) < (r.length : Int) := by omega
    go_wp2
    go_ret
    exact ⟨rfl, unhide BW⟩
  have g2 : ¬ (8000 : Int) < (r.length : Int) := by omega
  have FA := hide (format_any (c := c) ((unhide H).g.low (unhide BW)) (unhide H).n (by omega) (unhide H).p ((unhide H).l.low (unhide BW)) (unhide H).s)
  go_wp2_with (go_at_call 14; fail)
  refine (unhide FA).mono ?_
  rintro e wa ⟨sa, ea, rfl, oa, ba1⟩
  have OA := hide oa
  have BA := hide (low_trans (unhide BW) ba1)
  clear oa ba1 FA
  go_wp2_with (go_at_call 15; fail)
  refine (num_any ea _).mono ?_
  rintro e wx ⟨rfl, hw⟩
  rw [hw]; clear hw wx
  by_cases ha0 : ea = 0
  · subst ha0
    have PA := hide (parse_list (t := sa) ((unhide H).g.low (unhide BA)) (unhide OA).short)
    go_wp2_with (go_at_call 16; fail)
    refine (unhide PA).mono ?_
    rintro e wb ⟨ab, cb, yb, nb, eb, rfl, ob, pb, lb, bb⟩
    obtain ⟨e1, e2, hpm, hap, hfo⟩ := print_back (unhide OA) ob
    subst e1 e2
    have HPM := hide hpm
    have HAP := hide hap
    have HFO := hide hfo
    have HPB := hide pb
    have HLB := hide lb
    have BB := hide (low_trans (unhide BA) bb)
    have hyn : yb.length = n := by rw [hpm.length_eq]; exact (unhide H).n
    rw [hyn]
    have HYN := hide hyn
    clear ob pb lb bb hpm hap hfo hyn PA
    have FB := hide (format_any (c := cb) ((unhide H).g.low (unhide BB)) (unhide HYN) (by omega) (unhide HPB) (unhide HLB) (fun y hy => (unhide H).s y ((unhide HPM).mem_iff.1 hy)))
    go_wp2_with (go_at_call 14; fail)
    refine (unhide FB).mono ?_
    rintro e wc ⟨sc, ec, rfl, oc, bc⟩
    obtain ⟨e1, e2⟩ := unhide HFO _ _ oc
    subst e1 e2
    have HLC := hide ((unhide HLB).low bc)
    have BC := hide (low_trans (unhide BB) bc)
    clear oc bc FB
    go_wp2_with (go_at_call 15; fail)
    refine (num_any 0 _).mono ?_
    rintro e wx ⟨rfl, hw⟩
    rw [hw]; clear hw wx
    go_wp2_with (go_at_call 15; fail)
    refine (num_any 0 _).mono ?_
    rintro e wx ⟨rfl, hw⟩
    rw [hw]; clear hw wx
    go_wp2
    go_loopw [18, 19, 20] (fun v18 _ _ wr => ∃ i : Nat, i ≤ n ∧ v18 = .int .i64 i ∧ Below wc.heap.size wc wr) (fun v18 _ _ _ => n - (intOf v18).toNat)
    case atStart => exact ⟨0, Nat.zero_le _, rfl, Below.refl _ _⟩
    case round =>
      rename World => wr
      obtain ⟨i, hi, rfl, hlow⟩ := hrel
      have HW := hide hlow
      clear hlow
      by_cases hlt : i < n
      · have hit : i < xs.length := by rw [(unhide H).n]; exact hlt
        obtain ⟨B, O, rfl, he⟩ : ∃ B O, a = some ⟨B, O, none⟩ ∧ ∀ k (hk : k < xs.length), LnAt wr B (O + k * 4) xs[k] := by
          rcases ((unhide H).l.low (low_trans (unhide BC) (unhide HW))).els with h | h
          · rw [h] at hit; simp at hit
          · exact h
        obtain ⟨m1, m2, m3, m4⟩ := he i hit
        have hf := find_of (unhide HPM) (unhide HAP) (List.getElem_mem hit)
        obtain ⟨x, hx⟩ : ∃ x, xs[i] = x := ⟨_, rfl⟩
        rw [hx] at m1 m2 m3 m4 hf
        have FI := hide (fun W (hW : Below wc.heap.size wc W) => find_is (c := cb) (unhide HYN) (by omega) ((unhide HLC).low hW) hf)
        have H1 : HeldL wc B O i x wr := ⟨m1, m2, m3, m4, unhide HW⟩
        obtain ⟨p, v, k, s⟩ := x
        simp only at m1 m2 m3 m4
        clear he hx hf
        go_wp2
        go_region_held3 (fun w' => w'.cell? ⟨B, O + i * 4, none⟩ = some (.string (ba p)) ∧ w'.cell? ⟨B, O + i * 4 + 1, none⟩ = some (.string (ba v)) ∧ w'.cell? ⟨B, O + i * 4 + 2, none⟩ = some (.int .i64 k) ∧ w'.cell? ⟨B, O + i * 4 + 3, none⟩ = some (.string (ba s)) ∧ Below wc.heap.size wc w')
          (first | assumption | exact HeldL.drew (by assumption) | exact H1 | exact HeldL.drew H1)
          (first | (go_at_call 17; refine (find_held (B := B) (O := O) (i := i) (x := ⟨p, v, k, s⟩) (unhide FI) (by assumption)).mono ?_; rintro e w' ⟨rfl, kh⟩))
        have kz : HeldL wc B O i ⟨p, v, k, s⟩ w' := kh
        have HB8 := hide kz.2.2.2.2
        obtain ⟨r1, r2, r3, r4, _⟩ := id kz
        clear kz
        go_wp2
        go_roundw
        case rel => exact ⟨i + 1, hlt, by simp, unhide HB8⟩
        case measure => simp [intOf]; omega
      · have BX := hide (low_trans (unhide BC) (unhide HW))
        clear HW HPM HAP HFO HPB HLB HYN HLC BB BC
        have PA2 := hide (parse_list (t := t) ((unhide H).g.low (unhide BX)) (by omega))
        go_wp2_with (go_at_call 16; fail)
        refine (unhide PA2).mono ?_
        rintro e wd ⟨ad, cd, yd, nd, ed, rfl, od, pd, ld, bd⟩
        have OD := hide od
        have HPD := hide pd
        have HLD := hide ld
        have BD := hide (low_trans (unhide BX) bd)
        clear od pd ld bd PA2
        obtain ⟨ND, hND⟩ : ∃ ND, yd.length = ND := ⟨_, rfl⟩
        rw [hND]
        have HND := hide hND
        clear hND
        go_wp2_with (go_at_call 15; fail)
        refine (num_any ed _).mono ?_
        rintro e wx ⟨rfl, hw⟩
        rw [hw]; clear hw wx
        by_cases hd0 : ed = 0
        · subst hd0
          have hfew := lock_few (unhide OD)
          rw [unhide HND] at hfew
          have hnd : ND ≤ 10000 := by omega
          have FD := hide (format_any (c := cd) ((unhide H).g.low (unhide BD)) (unhide HND) hnd (unhide HPD) (unhide HLD) (fun y hy => by have := hfew.2 y hy; omega))
          clear hfew
          go_wp2_with (go_at_call 14; fail)
          refine (unhide FD).mono ?_
          rintro e we ⟨se, ee, rfl, oe, be⟩
          obtain ⟨e1, hlen, hback⟩ := read_back (unhide OD) oe
          subst e1
          have HBACK := hide hback
          have HLE := hide ((unhide HLD).low be)
          have BE := hide (low_trans (unhide BD) be)
          have hsz := ba_size se
          rw [hlen] at hsz
          have PA3 := hide (parse_list (t := se) ((unhide H).g.low (unhide BE)) (by omega))
          clear oe be FD hback
          go_wp2_with (go_at_call 16; fail)
          refine (unhide PA3).mono ?_
          rintro e wf ⟨af, cf, yf, nf, ef, rfl, of, pf, lf, bf⟩
          obtain ⟨e1, e2⟩ := unhide HBACK _ _ _ of
          subst e1 e2
          rw [unhide HND]
          have HLE2 := hide ((unhide HLE).low bf)
          have HLF := hide lf
          have BF := hide (low_trans (unhide BE) bf)
          have AL := hide (alike_same (ac := cd) (bc := cf) (unhide HND) (by omega) (unhide HLE2) (unhide HLF))
          clear of pf lf bf PA3 hlen
          go_wp2_with (go_at_call 15; fail)
          refine (num_any 0 _).mono ?_
          rintro e wx ⟨rfl, hw⟩
          rw [hw]; clear hw wx
          go_wp2_with (go_at_call 15; fail)
          refine (num_any 0 _).mono ?_
          rintro e wx ⟨rfl, hw⟩
          rw [hw]; clear hw wx
          go_wp2_with (go_at_call 18; fail)
          refine (unhide AL).mono ?_
          rintro e wg ⟨rfl, bg⟩
          have BG := hide (low_trans (unhide BF) bg)
          clear bg AL HBACK HLE HLE2 HLF HND HPD HLD OD BD BE BF
          have FV := hide (formatV_any (c := d) ((unhide H).g.low (unhide BG)) (unhide H).m (by omega) (unhide H).q ((unhide H).v.low (unhide BG)) (VdIn.packs (unhide H).k (unhide HPK) (unhide BG)) (vends_text (unhide H).k (by rw [(unhide H).m]; exact hm60) (unhide HPK)))
          go_wp2_with (go_at_call 19; fail)
          refine (unhide FV).mono ?_
          rintro e wh ⟨sh, eh, rfl, oh, bh⟩
          have OH := hide oh
          have BH := hide (low_trans (unhide BG) bh)
          clear oh bh FV
          go_wp2_with (go_at_call 15; fail)
          refine (num_any eh _).mono ?_
          rintro e wx ⟨rfl, hw⟩
          rw [hw]; clear hw wx
          by_cases hh0 : eh = 0
          · subst hh0
            have PV := hide (parseV_list (t := sh) ((unhide H).g.low (unhide BH)) (unhide OH).short)
            unfold PVSaid at PV
            go_wp2_with (go_at_call 20; fail)
            refine (unhide PV).mono ?_
            rintro e wi ⟨ai, ci, vi, rfl, si, pi, ri, ki, li, bi⟩
            obtain ⟨e1, e2, e3, hfo⟩ := vprint_back (unhide OH) si
            rw [e1, e2]
            have htx := vsort_text e2 si
            have hsh := (unhide OH).short
            rw [List.length_map, List.length_map, (unhide H).m] at e3
            rw [e3]
            have HFO := hide hfo
            have BI := hide (low_trans (unhide BH) bi)
            have FV2 := hide (formatV_any (c := ci) ((unhide H).g.low (unhide BI)) e3 (by omega) pi ri ki (by omega))
            clear si pi ri ki li bi e1 e2 e3 hfo htx hsh PV
            go_wp2_with (go_at_call 19; fail)
            refine (unhide FV2).mono ?_
            rintro e wj ⟨sj, ej, rfl, oj, bj⟩
            obtain ⟨e1, e2⟩ := unhide HFO _ _ oj
            subst e1 e2
            have BJ := hide (low_trans (unhide BI) bj)
            clear oj bj FV2 HFO
            go_wp2_with (go_at_call 15; fail)
            refine (num_any 0 _).mono ?_
            rintro e wx ⟨rfl, hw⟩
            rw [hw]; clear hw wx
            go_wp2_with (go_at_call 15; fail)
            refine (num_any 0 _).mono ?_
            rintro e wx ⟨rfl, hw⟩
            rw [hw]; clear hw wx
            clear BI BH OH
            have PX := hide (parseV_list (t := r) ((unhide H).g.low (unhide BJ)) (by omega))
            unfold PVSaid at PX
            go_wp2_with (go_at_call 20; fail)
            refine (unhide PX).mono ?_
            rintro e wk ⟨ak, ck, vk, rfl, sk, pk, rk, kk, lk, bk⟩
            have SK := hide sk
            have BK := hide (low_trans (unhide BJ) bk)
            have HK := hide (And.intro pk (And.intro rk kk))
            obtain ⟨ek, hek⟩ : ∃ ek, (vendF r).2.2 = ek := ⟨_, rfl⟩
            rw [hek]
            have HEK := hide hek
            obtain ⟨NK, hNK⟩ : ∃ NK, vk.length = NK := ⟨_, rfl⟩
            rw [hNK] at lk ⊢
            have HNK := hide hNK
            obtain ⟨nk, hnk⟩ : ∃ nk, (vendF r).2.1 = nk := ⟨_, rfl⟩
            rw [hnk]
            clear sk pk rk kk bk PX hek hNK hnk
            go_wp2_with (go_at_call 15; fail)
            refine (num_any ek _).mono ?_
            rintro e wx ⟨rfl, hw⟩
            rw [hw]; clear hw wx
            by_cases hk0 : ek = 0
            · subst hk0
              have htx := vsort_text (unhide HEK) (unhide SK)
              have FX := hide (formatV_any (c := ck) ((unhide H).g.low (unhide BK)) (unhide HNK) (by omega) (unhide HK).1 (unhide HK).2.1 (unhide HK).2.2 (by omega))
              clear htx
              go_wp2_with (go_at_call 19; fail)
              refine (unhide FX).mono ?_
              rintro e wl ⟨sl, el, rfl, ol, bl⟩
              obtain ⟨e1, hlen⟩ := vread_back (unhide HEK) (unhide SK) ol
              subst e1
              have BL := hide (low_trans (unhide BK) bl)
              have hsz := ba_size sl
              rw [hlen] at hsz
              clear ol bl FX hlen
              go_wp2_with (go_at_call 15; fail)
              refine (num_any 0 _).mono ?_
              rintro e wx ⟨rfl, hw⟩
              rw [hw]; clear hw wx
              go_wp2
              go_ret
              exact ⟨rfl, unhide BL⟩
            · have hkne : (ek != 0) = true := by simpa using hk0
              have hnk0 : NK = 0 := by
                have h1 := (unhide SK).len
                rw [List.length_map, unhide HNK, vendF_bad (by rw [unhide HEK]; exact hk0)] at h1
                exact h1
              subst hnk0
              clear hk0
              go_wp2
              go_ret
              exact ⟨rfl, unhide BK⟩
          · have hhne : (eh == 0) = false := by simpa using hh0
            clear hh0
            have PX := hide (parseV_list (t := r) ((unhide H).g.low (unhide BH)) (by omega))
            unfold PVSaid at PX
            go_wp2_with (go_at_call 20; fail)
            refine (unhide PX).mono ?_
            rintro e wk ⟨ak, ck, vk, rfl, sk, pk, rk, kk, lk, bk⟩
            have SK := hide sk
            have BK := hide (low_trans (unhide BH) bk)
            have HK := hide (And.intro pk (And.intro rk kk))
            obtain ⟨ek, hek⟩ : ∃ ek, (vendF r).2.2 = ek := ⟨_, rfl⟩
            rw [hek]
            have HEK := hide hek
            obtain ⟨NK, hNK⟩ : ∃ NK, vk.length = NK := ⟨_, rfl⟩
            rw [hNK] at lk ⊢
            have HNK := hide hNK
            obtain ⟨nk, hnk⟩ : ∃ nk, (vendF r).2.1 = nk := ⟨_, rfl⟩
            rw [hnk]
            clear sk pk rk kk bk PX hek hNK hnk
            go_wp2_with (go_at_call 15; fail)
            refine (num_any ek _).mono ?_
            rintro e wx ⟨rfl, hw⟩
            rw [hw]; clear hw wx
            by_cases hk0 : ek = 0
            · subst hk0
              have htx := vsort_text (unhide HEK) (unhide SK)
              have FX := hide (formatV_any (c := ck) ((unhide H).g.low (unhide BK)) (unhide HNK) (by omega) (unhide HK).1 (unhide HK).2.1 (unhide HK).2.2 (by omega))
              clear htx
              go_wp2_with (go_at_call 19; fail)
              refine (unhide FX).mono ?_
              rintro e wl ⟨sl, el, rfl, ol, bl⟩
              obtain ⟨e1, hlen⟩ := vread_back (unhide HEK) (unhide SK) ol
              subst e1
              have BL := hide (low_trans (unhide BK) bl)
              have hsz := ba_size sl
              rw [hlen] at hsz
              clear ol bl FX hlen
              go_wp2_with (go_at_call 15; fail)
              refine (num_any 0 _).mono ?_
              rintro e wx ⟨rfl, hw⟩
              rw [hw]; clear hw wx
              go_wp2
              go_ret
              exact ⟨rfl, unhide BL⟩
            · have hkne : (ek != 0) = true := by simpa using hk0
              have hnk0 : NK = 0 := by
                have h1 := (unhide SK).len
                rw [List.length_map, unhide HNK, vendF_bad (by rw [unhide HEK]; exact hk0)] at h1
                exact h1
              subst hnk0
              clear hk0
              go_wp2
              go_ret
              exact ⟨rfl, unhide BK⟩
        · have hdne : (ed == 0) = false := by simpa using hd0
          clear hd0
          have FV := hide (formatV_any (c := d) ((unhide H).g.low (unhide BD)) (unhide H).m (by omega) (unhide H).q ((unhide H).v.low (unhide BD)) (VdIn.packs (unhide H).k (unhide HPK) (unhide BD)) (vends_text (unhide H).k (by rw [(unhide H).m]; exact hm60) (unhide HPK)))
          go_wp2_with (go_at_call 19; fail)
          refine (unhide FV).mono ?_
          rintro e wh ⟨sh, eh, rfl, oh, bh⟩
          have OH := hide oh
          have BH := hide (low_trans (unhide BD) bh)
          clear oh bh FV
          go_wp2_with (go_at_call 15; fail)
          refine (num_any eh _).mono ?_
          rintro e wx ⟨rfl, hw⟩
          rw [hw]; clear hw wx
          by_cases hh0 : eh = 0
          · subst hh0
            have PV := hide (parseV_list (t := sh) ((unhide H).g.low (unhide BH)) (unhide OH).short)
            unfold PVSaid at PV
            go_wp2_with (go_at_call 20; fail)
            refine (unhide PV).mono ?_
            rintro e wi ⟨ai, ci, vi, rfl, si, pi, ri, ki, li, bi⟩
            obtain ⟨e1, e2, e3, hfo⟩ := vprint_back (unhide OH) si
            rw [e1, e2]
            have htx := vsort_text e2 si
            have hsh := (unhide OH).short
            rw [List.length_map, List.length_map, (unhide H).m] at e3
            rw [e3]
            have HFO := hide hfo
            have BI := hide (low_trans (unhide BH) bi)
            have FV2 := hide (formatV_any (c := ci) ((unhide H).g.low (unhide BI)) e3 (by omega) pi ri ki (by omega))
            clear si pi ri ki li bi e1 e2 e3 hfo htx hsh PV
            go_wp2_with (go_at_call 19; fail)
            refine (unhide FV2).mono ?_
            rintro e wj ⟨sj, ej, rfl, oj, bj⟩
            obtain ⟨e1, e2⟩ := unhide HFO _ _ oj
            subst e1 e2
            have BJ := hide (low_trans (unhide BI) bj)
            clear oj bj FV2 HFO
            go_wp2_with (go_at_call 15; fail)
            refine (num_any 0 _).mono ?_
            rintro e wx ⟨rfl, hw⟩
            rw [hw]; clear hw wx
            go_wp2_with (go_at_call 15; fail)
            refine (num_any 0 _).mono ?_
            rintro e wx ⟨rfl, hw⟩
            rw [hw]; clear hw wx
            clear BI BH OH
            have PX := hide (parseV_list (t := r) ((unhide H).g.low (unhide BJ)) (by omega))
            unfold PVSaid at PX
            go_wp2_with (go_at_call 20; fail)
            refine (unhide PX).mono ?_
            rintro e wk ⟨ak, ck, vk, rfl, sk, pk, rk, kk, lk, bk⟩
            have SK := hide sk
            have BK := hide (low_trans (unhide BJ) bk)
            have HK := hide (And.intro pk (And.intro rk kk))
            obtain ⟨ek, hek⟩ : ∃ ek, (vendF r).2.2 = ek := ⟨_, rfl⟩
            rw [hek]
            have HEK := hide hek
            obtain ⟨NK, hNK⟩ : ∃ NK, vk.length = NK := ⟨_, rfl⟩
            rw [hNK] at lk ⊢
            have HNK := hide hNK
            obtain ⟨nk, hnk⟩ : ∃ nk, (vendF r).2.1 = nk := ⟨_, rfl⟩
            rw [hnk]
            clear sk pk rk kk bk PX hek hNK hnk
            go_wp2_with (go_at_call 15; fail)
            refine (num_any ek _).mono ?_
            rintro e wx ⟨rfl, hw⟩
            rw [hw]; clear hw wx
            by_cases hk0 : ek = 0
            · subst hk0
              have htx := vsort_text (unhide HEK) (unhide SK)
              have FX := hide (formatV_any (c := ck) ((unhide H).g.low (unhide BK)) (unhide HNK) (by omega) (unhide HK).1 (unhide HK).2.1 (unhide HK).2.2 (by omega))
              clear htx
              go_wp2_with (go_at_call 19; fail)
              refine (unhide FX).mono ?_
              rintro e wl ⟨sl, el, rfl, ol, bl⟩
              obtain ⟨e1, hlen⟩ := vread_back (unhide HEK) (unhide SK) ol
              subst e1
              have BL := hide (low_trans (unhide BK) bl)
              have hsz := ba_size sl
              rw [hlen] at hsz
              clear ol bl FX hlen
              go_wp2_with (go_at_call 15; fail)
              refine (num_any 0 _).mono ?_
              rintro e wx ⟨rfl, hw⟩
              rw [hw]; clear hw wx
              go_wp2
              go_ret
              exact ⟨rfl, unhide BL⟩
            · have hkne : (ek != 0) = true := by simpa using hk0
              have hnk0 : NK = 0 := by
                have h1 := (unhide SK).len
                rw [List.length_map, unhide HNK, vendF_bad (by rw [unhide HEK]; exact hk0)] at h1
                exact h1
              subst hnk0
              clear hk0
              go_wp2
              go_ret
              exact ⟨rfl, unhide BK⟩
          · have hhne : (eh == 0) = false := by simpa using hh0
            clear hh0
            have PX := hide (parseV_list (t := r) ((unhide H).g.low (unhide BH)) (by omega))
            unfold PVSaid at PX
            go_wp2_with (go_at_call 20; fail)
            refine (unhide PX).mono ?_
            rintro e wk ⟨ak, ck, vk, rfl, sk, pk, rk, kk, lk, bk⟩
            have SK := hide sk
            have BK := hide (low_trans (unhide BH) bk)
            have HK := hide (And.intro pk (And.intro rk kk))
            obtain ⟨ek, hek⟩ : ∃ ek, (vendF r).2.2 = ek := ⟨_, rfl⟩
            rw [hek]
            have HEK := hide hek
            obtain ⟨NK, hNK⟩ : ∃ NK, vk.length = NK := ⟨_, rfl⟩
            rw [hNK] at lk ⊢
            have HNK := hide hNK
            obtain ⟨nk, hnk⟩ : ∃ nk, (vendF r).2.1 = nk := ⟨_, rfl⟩
            rw [hnk]
            clear sk pk rk kk bk PX hek hNK hnk
            go_wp2_with (go_at_call 15; fail)
            refine (num_any ek _).mono ?_
            rintro e wx ⟨rfl, hw⟩
            rw [hw]; clear hw wx
            by_cases hk0 : ek = 0
            · subst hk0
              have htx := vsort_text (unhide HEK) (unhide SK)
              have FX := hide (formatV_any (c := ck) ((unhide H).g.low (unhide BK)) (unhide HNK) (by omega) (unhide HK).1 (unhide HK).2.1 (unhide HK).2.2 (by omega))
              clear htx
              go_wp2_with (go_at_call 19; fail)
              refine (unhide FX).mono ?_
              rintro e wl ⟨sl, el, rfl, ol, bl⟩
              obtain ⟨e1, hlen⟩ := vread_back (unhide HEK) (unhide SK) ol
              subst e1
              have BL := hide (low_trans (unhide BK) bl)
              have hsz := ba_size sl
              rw [hlen] at hsz
              clear ol bl FX hlen
              go_wp2_with (go_at_call 15; fail)
              refine (num_any 0 _).mono ?_
              rintro e wx ⟨rfl, hw⟩
              rw [hw]; clear hw wx
              go_wp2
              go_ret
              exact ⟨rfl, unhide BL⟩
            · have hkne : (ek != 0) = true := by simpa using hk0
              have hnk0 : NK = 0 := by
                have h1 := (unhide SK).len
                rw [List.length_map, unhide HNK, vendF_bad (by rw [unhide HEK]; exact hk0)] at h1
                exact h1
              subst hnk0
              clear hk0
              go_wp2
              go_ret
              exact ⟨rfl, unhide BK⟩
  · have hane : (ea == 0) = false := by simpa using ha0
    clear ha0
    have PA2 := hide (parse_list (t := t) ((unhide H).g.low (unhide BA)) (by omega))
    go_wp2_with (go_at_call 16; fail)
    refine (unhide PA2).mono ?_
    rintro e wd ⟨ad, cd, yd, nd, ed, rfl, od, pd, ld, bd⟩
    have OD := hide od
    have HPD := hide pd
    have HLD := hide ld
    have BD := hide (low_trans (unhide BA) bd)
    clear od pd ld bd PA2
    obtain ⟨ND, hND⟩ : ∃ ND, yd.length = ND := ⟨_, rfl⟩
    rw [hND]
    have HND := hide hND
    clear hND
    go_wp2_with (go_at_call 15; fail)
    refine (num_any ed _).mono ?_
    rintro e wx ⟨rfl, hw⟩
    rw [hw]; clear hw wx
    by_cases hd0 : ed = 0
    · subst hd0
      have hfew := lock_few (unhide OD)
      rw [unhide HND] at hfew
      have hnd : ND ≤ 10000 := by omega
      have FD := hide (format_any (c := cd) ((unhide H).g.low (unhide BD)) (unhide HND) hnd (unhide HPD) (unhide HLD) (fun y hy => by have := hfew.2 y hy; omega))
      clear hfew
      go_wp2_with (go_at_call 14; fail)
      refine (unhide FD).mono ?_
      rintro e we ⟨se, ee, rfl, oe, be⟩
      obtain ⟨e1, hlen, hback⟩ := read_back (unhide OD) oe
      subst e1
      have HBACK := hide hback
      have HLE := hide ((unhide HLD).low be)
      have BE := hide (low_trans (unhide BD) be)
      have hsz := ba_size se
      rw [hlen] at hsz
      have PA3 := hide (parse_list (t := se) ((unhide H).g.low (unhide BE)) (by omega))
      clear oe be FD hback
      go_wp2_with (go_at_call 16; fail)
      refine (unhide PA3).mono ?_
      rintro e wf ⟨af, cf, yf, nf, ef, rfl, of, pf, lf, bf⟩
      obtain ⟨e1, e2⟩ := unhide HBACK _ _ _ of
      subst e1 e2
      rw [unhide HND]
      have HLE2 := hide ((unhide HLE).low bf)
      have HLF := hide lf
      have BF := hide (low_trans (unhide BE) bf)
      have AL := hide (alike_same (ac := cd) (bc := cf) (unhide HND) (by omega) (unhide HLE2) (unhide HLF))
      clear of pf lf bf PA3 hlen
      go_wp2_with (go_at_call 15; fail)
      refine (num_any 0 _).mono ?_
      rintro e wx ⟨rfl, hw⟩
      rw [hw]; clear hw wx
      go_wp2_with (go_at_call 15; fail)
      refine (num_any 0 _).mono ?_
      rintro e wx ⟨rfl, hw⟩
      rw [hw]; clear hw wx
      go_wp2_with (go_at_call 18; fail)
      refine (unhide AL).mono ?_
      rintro e wg ⟨rfl, bg⟩
      have BG := hide (low_trans (unhide BF) bg)
      clear bg AL HBACK HLE HLE2 HLF HND HPD HLD OD BD BE BF
      have FV := hide (formatV_any (c := d) ((unhide H).g.low (unhide BG)) (unhide H).m (by omega) (unhide H).q ((unhide H).v.low (unhide BG)) (VdIn.packs (unhide H).k (unhide HPK) (unhide BG)) (vends_text (unhide H).k (by rw [(unhide H).m]; exact hm60) (unhide HPK)))
      go_wp2_with (go_at_call 19; fail)
      refine (unhide FV).mono ?_
      rintro e wh ⟨sh, eh, rfl, oh, bh⟩
      have OH := hide oh
      have BH := hide (low_trans (unhide BG) bh)
      clear oh bh FV
      go_wp2_with (go_at_call 15; fail)
      refine (num_any eh _).mono ?_
      rintro e wx ⟨rfl, hw⟩
      rw [hw]; clear hw wx
      by_cases hh0 : eh = 0
      · subst hh0
        have PV := hide (parseV_list (t := sh) ((unhide H).g.low (unhide BH)) (unhide OH).short)
        unfold PVSaid at PV
        go_wp2_with (go_at_call 20; fail)
        refine (unhide PV).mono ?_
        rintro e wi ⟨ai, ci, vi, rfl, si, pi, ri, ki, li, bi⟩
        obtain ⟨e1, e2, e3, hfo⟩ := vprint_back (unhide OH) si
        rw [e1, e2]
        have htx := vsort_text e2 si
        have hsh := (unhide OH).short
        rw [List.length_map, List.length_map, (unhide H).m] at e3
        rw [e3]
        have HFO := hide hfo
        have BI := hide (low_trans (unhide BH) bi)
        have FV2 := hide (formatV_any (c := ci) ((unhide H).g.low (unhide BI)) e3 (by omega) pi ri ki (by omega))
        clear si pi ri ki li bi e1 e2 e3 hfo htx hsh PV
        go_wp2_with (go_at_call 19; fail)
        refine (unhide FV2).mono ?_
        rintro e wj ⟨sj, ej, rfl, oj, bj⟩
        obtain ⟨e1, e2⟩ := unhide HFO _ _ oj
        subst e1 e2
        have BJ := hide (low_trans (unhide BI) bj)
        clear oj bj FV2 HFO
        go_wp2_with (go_at_call 15; fail)
        refine (num_any 0 _).mono ?_
        rintro e wx ⟨rfl, hw⟩
        rw [hw]; clear hw wx
        go_wp2_with (go_at_call 15; fail)
        refine (num_any 0 _).mono ?_
        rintro e wx ⟨rfl, hw⟩
        rw [hw]; clear hw wx
        clear BI BH OH
        have PX := hide (parseV_list (t := r) ((unhide H).g.low (unhide BJ)) (by omega))
        unfold PVSaid at PX
        go_wp2_with (go_at_call 20; fail)
        refine (unhide PX).mono ?_
        rintro e wk ⟨ak, ck, vk, rfl, sk, pk, rk, kk, lk, bk⟩
        have SK := hide sk
        have BK := hide (low_trans (unhide BJ) bk)
        have HK := hide (And.intro pk (And.intro rk kk))
        obtain ⟨ek, hek⟩ : ∃ ek, (vendF r).2.2 = ek := ⟨_, rfl⟩
        rw [hek]
        have HEK := hide hek
        obtain ⟨NK, hNK⟩ : ∃ NK, vk.length = NK := ⟨_, rfl⟩
        rw [hNK] at lk ⊢
        have HNK := hide hNK
        obtain ⟨nk, hnk⟩ : ∃ nk, (vendF r).2.1 = nk := ⟨_, rfl⟩
        rw [hnk]
        clear sk pk rk kk bk PX hek hNK hnk
        go_wp2_with (go_at_call 15; fail)
        refine (num_any ek _).mono ?_
        rintro e wx ⟨rfl, hw⟩
        rw [hw]; clear hw wx
        by_cases hk0 : ek = 0
        · subst hk0
          have htx := vsort_text (unhide HEK) (unhide SK)
          have FX := hide (formatV_any (c := ck) ((unhide H).g.low (unhide BK)) (unhide HNK) (by omega) (unhide HK).1 (unhide HK).2.1 (unhide HK).2.2 (by omega))
          clear htx
          go_wp2_with (go_at_call 19; fail)
          refine (unhide FX).mono ?_
          rintro e wl ⟨sl, el, rfl, ol, bl⟩
          obtain ⟨e1, hlen⟩ := vread_back (unhide HEK) (unhide SK) ol
          subst e1
          have BL := hide (low_trans (unhide BK) bl)
          have hsz := ba_size sl
          rw [hlen] at hsz
          clear ol bl FX hlen
          go_wp2_with (go_at_call 15; fail)
          refine (num_any 0 _).mono ?_
          rintro e wx ⟨rfl, hw⟩
          rw [hw]; clear hw wx
          go_wp2
          go_ret
          exact ⟨rfl, unhide BL⟩
        · have hkne : (ek != 0) = true := by simpa using hk0
          have hnk0 : NK = 0 := by
            have h1 := (unhide SK).len
            rw [List.length_map, unhide HNK, vendF_bad (by rw [unhide HEK]; exact hk0)] at h1
            exact h1
          subst hnk0
          clear hk0
          go_wp2
          go_ret
          exact ⟨rfl, unhide BK⟩
      · have hhne : (eh == 0) = false := by simpa using hh0
        clear hh0
        have PX := hide (parseV_list (t := r) ((unhide H).g.low (unhide BH)) (by omega))
        unfold PVSaid at PX
        go_wp2_with (go_at_call 20; fail)
        refine (unhide PX).mono ?_
        rintro e wk ⟨ak, ck, vk, rfl, sk, pk, rk, kk, lk, bk⟩
        have SK := hide sk
        have BK := hide (low_trans (unhide BH) bk)
        have HK := hide (And.intro pk (And.intro rk kk))
        obtain ⟨ek, hek⟩ : ∃ ek, (vendF r).2.2 = ek := ⟨_, rfl⟩
        rw [hek]
        have HEK := hide hek
        obtain ⟨NK, hNK⟩ : ∃ NK, vk.length = NK := ⟨_, rfl⟩
        rw [hNK] at lk ⊢
        have HNK := hide hNK
        obtain ⟨nk, hnk⟩ : ∃ nk, (vendF r).2.1 = nk := ⟨_, rfl⟩
        rw [hnk]
        clear sk pk rk kk bk PX hek hNK hnk
        go_wp2_with (go_at_call 15; fail)
        refine (num_any ek _).mono ?_
        rintro e wx ⟨rfl, hw⟩
        rw [hw]; clear hw wx
        by_cases hk0 : ek = 0
        · subst hk0
          have htx := vsort_text (unhide HEK) (unhide SK)
          have FX := hide (formatV_any (c := ck) ((unhide H).g.low (unhide BK)) (unhide HNK) (by omega) (unhide HK).1 (unhide HK).2.1 (unhide HK).2.2 (by omega))
          clear htx
          go_wp2_with (go_at_call 19; fail)
          refine (unhide FX).mono ?_
          rintro e wl ⟨sl, el, rfl, ol, bl⟩
          obtain ⟨e1, hlen⟩ := vread_back (unhide HEK) (unhide SK) ol
          subst e1
          have BL := hide (low_trans (unhide BK) bl)
          have hsz := ba_size sl
          rw [hlen] at hsz
          clear ol bl FX hlen
          go_wp2_with (go_at_call 15; fail)
          refine (num_any 0 _).mono ?_
          rintro e wx ⟨rfl, hw⟩
          rw [hw]; clear hw wx
          go_wp2
          go_ret
          exact ⟨rfl, unhide BL⟩
        · have hkne : (ek != 0) = true := by simpa using hk0
          have hnk0 : NK = 0 := by
            have h1 := (unhide SK).len
            rw [List.length_map, unhide HNK, vendF_bad (by rw [unhide HEK]; exact hk0)] at h1
            exact h1
          subst hnk0
          clear hk0
          go_wp2
          go_ret
          exact ⟨rfl, unhide BK⟩
    · have hdne : (ed == 0) = false := by simpa using hd0
      clear hd0
      have FV := hide (formatV_any (c := d) ((unhide H).g.low (unhide BD)) (unhide H).m (by omega) (unhide H).q ((unhide H).v.low (unhide BD)) (VdIn.packs (unhide H).k (unhide HPK) (unhide BD)) (vends_text (unhide H).k (by rw [(unhide H).m]; exact hm60) (unhide HPK)))
      go_wp2_with (go_at_call 19; fail)
      refine (unhide FV).mono ?_
      rintro e wh ⟨sh, eh, rfl, oh, bh⟩
      have OH := hide oh
      have BH := hide (low_trans (unhide BD) bh)
      clear oh bh FV
      go_wp2_with (go_at_call 15; fail)
      refine (num_any eh _).mono ?_
      rintro e wx ⟨rfl, hw⟩
      rw [hw]; clear hw wx
      by_cases hh0 : eh = 0
      · subst hh0
        have PV := hide (parseV_list (t := sh) ((unhide H).g.low (unhide BH)) (unhide OH).short)
        unfold PVSaid at PV
        go_wp2_with (go_at_call 20; fail)
        refine (unhide PV).mono ?_
        rintro e wi ⟨ai, ci, vi, rfl, si, pi, ri, ki, li, bi⟩
        obtain ⟨e1, e2, e3, hfo⟩ := vprint_back (unhide OH) si
        rw [e1, e2]
        have htx := vsort_text e2 si
        have hsh := (unhide OH).short
        rw [List.length_map, List.length_map, (unhide H).m] at e3
        rw [e3]
        have HFO := hide hfo
        have BI := hide (low_trans (unhide BH) bi)
        have FV2 := hide (formatV_any (c := ci) ((unhide H).g.low (unhide BI)) e3 (by omega) pi ri ki (by omega))
        clear si pi ri ki li bi e1 e2 e3 hfo htx hsh PV
        go_wp2_with (go_at_call 19; fail)
        refine (unhide FV2).mono ?_
        rintro e wj ⟨sj, ej, rfl, oj, bj⟩
        obtain ⟨e1, e2⟩ := unhide HFO _ _ oj
        subst e1 e2
        have BJ := hide (low_trans (unhide BI) bj)
        clear oj bj FV2 HFO
        go_wp2_with (go_at_call 15; fail)
        refine (num_any 0 _).mono ?_
        rintro e wx ⟨rfl, hw⟩
        rw [hw]; clear hw wx
        go_wp2_with (go_at_call 15; fail)
        refine (num_any 0 _).mono ?_
        rintro e wx ⟨rfl, hw⟩
        rw [hw]; clear hw wx
        clear BI BH OH
        have PX := hide (parseV_list (t := r) ((unhide H).g.low (unhide BJ)) (by omega))
        unfold PVSaid at PX
        go_wp2_with (go_at_call 20; fail)
        refine (unhide PX).mono ?_
        rintro e wk ⟨ak, ck, vk, rfl, sk, pk, rk, kk, lk, bk⟩
        have SK := hide sk
        have BK := hide (low_trans (unhide BJ) bk)
        have HK := hide (And.intro pk (And.intro rk kk))
        obtain ⟨ek, hek⟩ : ∃ ek, (vendF r).2.2 = ek := ⟨_, rfl⟩
        rw [hek]
        have HEK := hide hek
        obtain ⟨NK, hNK⟩ : ∃ NK, vk.length = NK := ⟨_, rfl⟩
        rw [hNK] at lk ⊢
        have HNK := hide hNK
        obtain ⟨nk, hnk⟩ : ∃ nk, (vendF r).2.1 = nk := ⟨_, rfl⟩
        rw [hnk]
        clear sk pk rk kk bk PX hek hNK hnk
        go_wp2_with (go_at_call 15; fail)
        refine (num_any ek _).mono ?_
        rintro e wx ⟨rfl, hw⟩
        rw [hw]; clear hw wx
        by_cases hk0 : ek = 0
        · subst hk0
          have htx := vsort_text (unhide HEK) (unhide SK)
          have FX := hide (formatV_any (c := ck) ((unhide H).g.low (unhide BK)) (unhide HNK) (by omega) (unhide HK).1 (unhide HK).2.1 (unhide HK).2.2 (by omega))
          clear htx
          go_wp2_with (go_at_call 19; fail)
          refine (unhide FX).mono ?_
          rintro e wl ⟨sl, el, rfl, ol, bl⟩
          obtain ⟨e1, hlen⟩ := vread_back (unhide HEK) (unhide SK) ol
          subst e1
          have BL := hide (low_trans (unhide BK) bl)
          have hsz := ba_size sl
          rw [hlen] at hsz
          clear ol bl FX hlen
          go_wp2_with (go_at_call 15; fail)
          refine (num_any 0 _).mono ?_
          rintro e wx ⟨rfl, hw⟩
          rw [hw]; clear hw wx
          go_wp2
          go_ret
          exact ⟨rfl, unhide BL⟩
        · have hkne : (ek != 0) = true := by simpa using hk0
          have hnk0 : NK = 0 := by
            have h1 := (unhide SK).len
            rw [List.length_map, unhide HNK, vendF_bad (by rw [unhide HEK]; exact hk0)] at h1
            exact h1
          subst hnk0
          clear hk0
          go_wp2
          go_ret
          exact ⟨rfl, unhide BK⟩
      · have hhne : (eh == 0) = false := by simpa using hh0
        clear hh0
        have PX := hide (parseV_list (t := r) ((unhide H).g.low (unhide BH)) (by omega))
        unfold PVSaid at PX
        go_wp2_with (go_at_call 20; fail)
        refine (unhide PX).mono ?_
        rintro e wk ⟨ak, ck, vk, rfl, sk, pk, rk, kk, lk, bk⟩
        have SK := hide sk
        have BK := hide (low_trans (unhide BH) bk)
        have HK := hide (And.intro pk (And.intro rk kk))
        obtain ⟨ek, hek⟩ : ∃ ek, (vendF r).2.2 = ek := ⟨_, rfl⟩
        rw [hek]
        have HEK := hide hek
        obtain ⟨NK, hNK⟩ : ∃ NK, vk.length = NK := ⟨_, rfl⟩
        rw [hNK] at lk ⊢
        have HNK := hide hNK
        obtain ⟨nk, hnk⟩ : ∃ nk, (vendF r).2.1 = nk := ⟨_, rfl⟩
        rw [hnk]
        clear sk pk rk kk bk PX hek hNK hnk
        go_wp2_with (go_at_call 15; fail)
        refine (num_any ek _).mono ?_
        rintro e wx ⟨rfl, hw⟩
        rw [hw]; clear hw wx
        by_cases hk0 : ek = 0
        · subst hk0
          have htx := vsort_text (unhide HEK) (unhide SK)
          have FX := hide (formatV_any (c := ck) ((unhide H).g.low (unhide BK)) (unhide HNK) (by omega) (unhide HK).1 (unhide HK).2.1 (unhide HK).2.2 (by omega))
          clear htx
          go_wp2_with (go_at_call 19; fail)
          refine (unhide FX).mono ?_
          rintro e wl ⟨sl, el, rfl, ol, bl⟩
          obtain ⟨e1, hlen⟩ := vread_back (unhide HEK) (unhide SK) ol
          subst e1
          have BL := hide (low_trans (unhide BK) bl)
          have hsz := ba_size sl
          rw [hlen] at hsz
          clear ol bl FX hlen
          go_wp2_with (go_at_call 15; fail)
          refine (num_any 0 _).mono ?_
          rintro e wx ⟨rfl, hw⟩
          rw [hw]; clear hw wx
          go_wp2
          go_ret
          exact ⟨rfl, unhide BL⟩
        · have hkne : (ek != 0) = true := by simpa using hk0
          have hnk0 : NK = 0 := by
            have h1 := (unhide SK).len
            rw [List.length_map, unhide HNK, vendF_bad (by rw [unhide HEK]; exact hk0)] at h1
            exact h1
          subst hnk0
          clear hk0
          go_wp2
          go_ret
          exact ⟨rfl, unhide BK⟩

end Go.Proofs.YthcafeoamabkgaaGreatDoor
