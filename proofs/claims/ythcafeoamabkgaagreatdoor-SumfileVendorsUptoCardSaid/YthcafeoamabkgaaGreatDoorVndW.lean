/-
  SumfileVendors: the law's walk.
-/
import Derived.Test.YthcafeoamabkgaaGreatDoorRvW
import Derived.Test.YthcafeoamabkgaaGreatDoorRvF
import Derived.Test.YthcafeoamabkgaaGreatDoorRvQ
namespace Go.Proofs.YthcafeoamabkgaaGreatDoor
open Go.RowKit

theorem vsort_two {t : Str} {rs ss : List Vd} (h : VSort (vendF t).1 rs) (k : VSort (vendF t).1 ss) : rs = ss := by
  by_cases h0 : (vendF t).2.2 = 0
  · exact VSort.one (vendF_zero h0).2.1.2 h k
  · have hb := vendF_bad h0
    have h1 := h.len
    have k1 := k.len
    rw [hb] at h1 k1
    rw [List.length_eq_zero_iff.1 h1, List.length_eq_zero_iff.1 k1]

theorem vends_textN {w : World} {zs : List VE} (hk : ∀ z ∈ zs, VdIn w z 1048576) (hl : zs.length ≤ 60) (hp : ∀ z ∈ zs, z.1.pk.length ≤ 60) : (vtextL (zs.map Prod.fst)).length ≤ 4000000000 := by
  have one : ∀ z ∈ zs, (vdT z.1).length ≤ 66000000 := fun z hz => by
    obtain ⟨_, _, _, h4, _, h6⟩ := hk z hz
    have h7 := hp z hz
    have key : ∀ l : List Str, (∀ p ∈ l, p.length ≤ 1048576) → (frontL l).length ≤ l.length * 1048577 := by
      intro l
      induction l with
      | nil => intro _; exact Nat.le_refl _
      | cons p l ih =>
        intro h
        have e : frontL (p :: l) = (p ++ [10]) ++ frontL l := by simp [frontL]
        have h1 := h p (by simp)
        have h2 := ih fun q hq => h q (List.mem_cons_of_mem _ hq)
        have e2 : (frontL (p :: l)).length = p.length + 1 + (frontL l).length := by rw [e]; simp; omega
        rw [e2, List.length_cons]
        omega
    have h8 := key z.1.pk h6
    have e : (vdT z.1).length = (headT z.1.m).length + 1 + (frontL (if z.1.x = true then [explL] else [])).length + (frontL z.1.pk).length := by
      have e1 : vdT z.1 = (headT z.1.m ++ [10]) ++ (frontL (if z.1.x = true then [explL] else []) ++ frontL z.1.pk) := by
        unfold vdT vdLs
        rw [← frontL_append]
        simp [frontL]
      rw [e1]
      simp
      omega
    have h9 : (frontL (if z.1.x = true then [explL] else [])).length ≤ 12 := by split <;> decide
    have h10 : (headT z.1.m).length = 3 + z.1.m.1.length + z.1.m.2.length := by unfold headT; simp; omega
    omega
  have all : ∀ l : List VE, (∀ z ∈ l, (vdT z.1).length ≤ 66000000) → (vtextL (l.map Prod.fst)).length ≤ l.length * 66000000 := by
    intro l
    induction l with
    | nil => intro _; exact Nat.le_refl _
    | cons z l ih =>
      intro h
      have h1 := h z (by simp)
      have h2 := ih fun q hq => h q (List.mem_cons_of_mem _ hq)
      rw [List.map_cons, vtext_cons, List.length_append, List.length_cons]
      omega
  have := all zs one
  omega

theorem VdIn.packsN {w w' : World} {zs : List VE} (h : ∀ z ∈ zs, VdIn w z 1048576) (hp : ∀ z ∈ zs, z.1.pk.length ≤ 60) (hb : Below w.heap.size w w') : PacksR w' zs := fun z hz => by
  obtain ⟨h1, h2, h3, _, h5, _⟩ := h z hz
  have := hp z hz
  exact ⟨h1, by omega, h2, h3.low hb⟩

theorem VdIn.packsM {w w' : World} {zs : List VE} (h : ∀ z ∈ zs, VdIn w z 1048576) (hp : ∀ z ∈ zs, z.1.pk.length ≤ 60) (hb : Below w.heap.size w w') : PacksM w' zs := fun z hz => by
  obtain ⟨h1, h2, h3, _, h5, _⟩ := h z hz
  have := hp z hz
  exact ⟨h1, by omega, h3.low hb⟩

set_option maxRecDepth 100000 in
set_option maxHeartbeats 40000000 in
theorem vendors_law {w : World} {t : Str} {b : Option Addr} {m d : Nat} {zs : List VE} (hg : Gd w) (ht6 : t.length ≤ 1048576) (hm : zs.length = m) (hv : RowV w b zs) (hp : PlainA b) (hk : ∀ z ∈ zs, VdIn w z 1048576) :
    Calls Tryz.prog 6 #[.string (ba t), .slice b m d] w fun e w' => e = .returned (.bool true) ∧ Below w.heap.size w w' := by
  have HG := hide hg
  have HM := hide hm
  have HV := hide hv
  have HP := hide hp
  have HK := hide hk
  have htz := ba_size t
  clear hg hm hv hp hk
  go_enter Tryz.func6, Tryz.ntmps6
  go_wp2_with (go_at_call 11; fail)
  refine (first_any (unhide HG)).mono ?_
  rintro e w1 ⟨rfl, b1⟩
  have B1 := hide b1
  clear b1
  have S1 := hide (small_any (w := w1) (c := d) (N := 1048576) (unhide HM) ((unhide HV).low (unhide B1)) (fun z hz => by
    obtain ⟨h1, h2, h3, h4⟩ := (unhide HK) z hz
    exact ⟨h1, h2, h3.low (unhide B1), h4⟩) (Nat.le_refl _))
  go_wp2_with (go_at_call 13; fail)
  refine (unhide S1).mono ?_
  rintro e w2 ⟨⟨r1, rfl, hr1⟩, q2, hw⟩
  rw [hw]; clear hw w2 S1
  cases r1 with
  | false =>
    clear hr1
    go_wp2
    go_ret
    exact ⟨rfl, low_drewN (unhide B1) q2⟩
  | true =>
  obtain ⟨hm60, hpk⟩ := hr1 rfl
  have HPK := hide hpk
  clear hr1 hpk
  obtain ⟨W, hW⟩ : ∃ W, w1.drewN q2 = W := ⟨_, rfl⟩
  have BW : Hid (Below w.heap.size w W) := hide (by rw [← hW]; exact low_drewN (unhide B1) q2)
  rw [hW]
  clear hW
  rcases Nat.lt_or_ge 8000 t.length with h8 | h8
  · have g1 : (8000 : Int) < (t.length : Int) := by omega
    go_wp2
    go_ret
    exact ⟨rfl, unhide BW⟩
  have g1 : ¬ (8000 : Int) < (t.length : Int) := by omega
  have PV := hide (parseV_list (t := t) ((unhide HG).low (unhide BW)) (by omega))
  unfold PVSaid at PV
  go_wp2_with (go_at_call 20; fail)
  refine (unhide PV).mono ?_
  rintro e wi ⟨ai, ci, vi, rfl, si, pi, ri, ki, li, bi⟩
  have SI := hide si
  have RI := hide ri
  have KI := hide ki
  have BI := hide (low_trans (unhide BW) bi)
  clear si pi ri ki bi PV
  have PF := hide (refParseV_any (w := wi) (t := t) (by omega))
  unfold FinV at PF
  go_wp2_with (go_at_call 32; fail)
  refine (unhide PF).mono ?_
  rintro e wj ⟨v2, rs, rfl, z1, z2, z3, b2⟩
  obtain ⟨aj, cj, vj, rfl, _, lj, mj, rj, kj⟩ := vz_vc z1 z2
  have hij : vi.map Prod.fst = vj.map Prod.fst := by rw [mj]; exact vsort_two (unhide SI) z3
  have hlen : rs.length = vi.length := by
    have h1 := congrArg List.length hij
    rw [List.length_map, List.length_map] at h1
    omega
  rw [hlen]
  obtain ⟨NI, hNI⟩ : ∃ NI, vi.length = NI := ⟨_, rfl⟩
  rw [hNI] at li ⊢
  have HNI := hide hNI
  have HIJ := hide hij
  have RI2 := hide ((unhide RI).low b2)
  have KI2 := hide ((unhide KI).low b2)
  have RJ := hide rj
  have KJ := hide kj
  have BJ := hide (low_trans (unhide BI) b2)
  clear z1 z2 z3 b2 lj mj rj kj hij hlen hNI RI KI SI PF
  obtain ⟨ev, hev⟩ : ∃ ev, (vendF t).2.2 = ev := ⟨_, rfl⟩
  obtain ⟨nv, hnv⟩ : ∃ nv, (vendF t).2.1 = nv := ⟨_, rfl⟩
  rw [hev, hnv]
  clear hev hnv
  have CP := hide (vendored_copy (c := d) (unhide HM) (by omega) ((unhide HV).low (unhide BJ)) (VdIn.packsM (unhide HK) (unhide HPK) (unhide BJ)))
  go_wp2_with (go_at_call 33; fail)
  refine (unhide CP).mono ?_
  rintro e wk ⟨v3, xs, rfl, x1, x2, x3, x4, b3⟩
  obtain ⟨ak, ck, vk, rfl, ck2, lk, mk, rk, kk⟩ := vz_vc x3 x4
  have hzk : zs.map Prod.fst = vk.map Prod.fst := by rw [mk, x1]
  rw [x2] at lk ck2 ⊢
  have HZK := hide hzk
  have HLK := hide lk
  have HCK := hide ck2
  have RK := hide rk
  have KK := hide kk
  have BJK := hide b3
  have BK := hide (low_trans (unhide BJ) b3)
  clear x1 x2 x3 x4 b3 ck2 lk mk rk kk hzk CP
  have FV := hide (formatV_any (c := d) ((unhide HG).low (unhide BK)) (unhide HM) (by omega) (unhide HP) ((unhide HV).low (unhide BK)) (VdIn.packsN (unhide HK) (unhide HPK) (unhide BK)) (vends_textN (unhide HK) (by rw [unhide HM]; exact hm60) (unhide HPK)))
  go_wp2_with (go_at_call 19; fail)
  refine (unhide FV).mono ?_
  rintro e wl ⟨sl, el, rfl, ol, bl⟩
  have OL := hide ol
  have BKL := hide bl
  have BL := hide (low_trans (unhide BK) bl)
  clear ol bl FV
  have hpks : ∀ u ∈ vk, u.1.pk.length ≤ 60 := fun u hu => by
    have hm : u.1 ∈ vk.map Prod.fst := List.mem_map_of_mem hu
    rw [← unhide HZK] at hm
    obtain ⟨z, hz, e⟩ := List.mem_map.1 hm
    rw [← e]
    exact unhide HPK z hz
  have RF := hide (refFormatV_any (w := wl) (c := ck) (unhide HLK) (by omega) (unhide HCK) ((unhide RK).low (unhide BKL)) (fun u hu => by
      obtain ⟨k1, _, k3⟩ := unhide KK u hu
      have := hpks u hu
      exact ⟨k1, by omega, k3.low (unhide BKL)⟩) (fun u hu => (unhide KK u hu).2.1) (by
      rw [← unhide HZK]
      exact vends_textN (unhide HK) (by rw [unhide HM]; exact hm60) (unhide HPK)))
  clear hpks
  go_wp2_with (go_at_call 34; fail)
  refine (unhide RF).mono ?_
  rintro e wn ⟨sn, en, rfl, on, bn⟩
  rw [← unhide HZK] at on
  obtain ⟨e1, e2⟩ := (unhide OL).one on
  subst e1 e2
  have BLN := hide bn
  have BN := hide (low_trans (unhide BL) bn)
  clear on bn RF OL
  have BJN := hide (low_trans (unhide BJK) (low_trans (unhide BKL) (unhide BLN)))
  have BKN := hide (low_trans (unhide BKL) (unhide BLN))
  have SV := hide (sameVend_same (w := wn) (ac := ci) (bc := cj) (unhide HNI) (by omega) (unhide HIJ) ((unhide RI2).low (unhide BJN)) ((unhide RJ).low (unhide BJN)) (fun z hz => by
      obtain ⟨k1, k2, _, k4⟩ := unhide KI2 z hz
      exact ⟨k1, k2, k4.low (unhide BJN)⟩) (fun z hz => by
      obtain ⟨k1, _, k3⟩ := unhide KJ z hz
      exact ⟨k1, k3.low (unhide BJN)⟩))
  go_wp2_with (go_at_call 35; fail)
  refine (unhide SV).mono ?_
  rintro e wo ⟨rfl, q5, hw⟩
  rw [hw]; clear hw wo SV
  have BO := hide (low_drewN (unhide BN) q5)
  have BKO := hide (low_drewN (unhide BKN) q5)
  obtain ⟨wo, hwo⟩ : ∃ wo, wn.drewN q5 = wo := ⟨_, rfl⟩
  rw [hwo] at BO BKO ⊢
  clear hwo RI2 KI2 RJ KJ HIJ HNI BN BJN BLN
  go_wp2_with (go_at_call 15; fail)
  refine (num_any ev _).mono ?_
  rintro e wx ⟨rfl, hw⟩
  rw [hw]; clear hw wx
  go_wp2_with (go_at_call 15; fail)
  refine (num_any el _).mono ?_
  rintro e wx ⟨rfl, hw⟩
  rw [hw]; clear hw wx
  have SW := hide (sameVend_same (w := wo) (ac := d) (bc := ck) (unhide HM) (by omega) (unhide HZK) ((unhide HV).low (unhide BO)) ((unhide RK).low (unhide BKO)) (fun z hz => by
      obtain ⟨k1, k2, k3, k4⟩ := VdIn.packsN (unhide HK) (unhide HPK) (unhide BO) z hz
      exact ⟨k1, k2, k4⟩) (fun z hz => by
      obtain ⟨k1, _, k3⟩ := unhide KK z hz
      exact ⟨k1, k3.low (unhide BKO)⟩))
  go_wp2_with (go_at_call 35; fail)
  refine (unhide SW).mono ?_
  rintro e wp ⟨rfl, q6, hw⟩
  rw [hw]; clear hw wp SW
  go_wp2
  go_ret
  exact ⟨rfl, low_drewN (unhide BO) q6⟩

end Go.Proofs.YthcafeoamabkgaaGreatDoor
